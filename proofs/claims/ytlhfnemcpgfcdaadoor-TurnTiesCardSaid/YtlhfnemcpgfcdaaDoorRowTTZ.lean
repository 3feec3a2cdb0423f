/- TurnTies: the row, and its card: whatever is handed in, it returns true. -/
import Derived.Test.YtlhfnemcpgfcdaaDoorQ19
import Derived.Test.YtlhfnemcpgfcdaaDoorQ38
import Derived.Test.YtlhfnemcpgfcdaaDoorCards
import Derived.Test.YtlhfnemcpgfcdaaDoorTie
set_option maxRecDepth 100000
namespace Go.Proofs.YtlhfnemcpgfcdaaDoor
open Go Go.ChangeShapes Go.WideShapes Go.ChangeAt Go.RowKit Go.Lib Go.Shelf
theorem turnTies_lifted (os:Os) (started:os.Started) (H:Type) (enc:TypeId × Value→H):
  ReturnsInHanded {} Tryd.checked os 3 .any (fun w args=>(Rows.turnTiesSpec.pre enc Tryd.prog Tryd.f3 [] false w args∧laidMetH Tryd.prog laids w)∧sizedMet enc Tryd.prog Tryd.f3 (OpenSpec.ofChange Rows.turnTiesSpec) false w args)
   (Rows.turnTiesSpec.post enc Tryd.prog Tryd.f3 false true false false):=by
 refine returnsInHanded_of_change_and (C:=Tryd.checked) (X:=fun w _=>laidMetH Tryd.prog laids w) (fun _ _ _ hh h=>h.of_heap hh) own started (by kernel_rfl) Tryd.func3
  (ChangeSpec.witness_shaped (enc:=enc) (C:=Tryd.checked) (os:=os) (X:=fun w _=>laidMetH Tryd.prog laids w) false (World.laidAll Tryd.prog os laids) #[.slice none 0 0,.agg #[.slice none 0 0,.int .u8 0,.int .i64 0,.int .i64 0,.int .i64 0,.string ⟨#[]⟩,.slice none 0 0],.agg #[.slice none 0 0,.int .u8 0,.int .i64 0,.int .i64 0,.int .i64 0,.string ⟨#[]⟩,.slice none 0 0],.string ⟨#[]⟩] 8 (World.laidAll_os _ _ _)
   (World.shaped_of_ZipB (by kernel_rfl) (by kernel_rfl)) (by kernel_rfl) (by kernel_rfl) (by kernel_rfl) (laid_met os _)) ?_
 intro W base args ds gs before hval0 hW _ hsz hL _
 have hval:∀ (j:Nat) t v,Tryd.f3.params[j]? = some t→args[j]? = some v→Value.okWide Tryd.prog W .any base t v:=hval0
 have hW':=hW
 obtain ⟨p,q,hA0,hV,rfl,_,_⟩:=hW
 have hA:DataW.TrodAll enc Tryd.prog W 0 (fun _=>true) true Tryd.f3.params.toList args.toList ds p:=hA0
 rw [Tryd.params3] at hA hval
 obtain ⟨v0,v1,v2,v3,d0,d1,d2,d3,p0,p1,p2,p3,rfl,rfl,rfl,h0,h1,h2,h3⟩:=trodAll_four hA
 obtain ⟨rfl,rfl⟩:=trodVars_none hV
 simp only [List.append_nil,List.append_assoc] at hW'
 have hlt0:∀ x∈p0,x.block<W.heap.size:=fun x hx=>hW'.lt x (List.mem_append_left _ hx)
 have hlt1:∀ x∈p1,x.block<W.heap.size:=fun x hx=>hW'.lt x (List.mem_append_right _ (List.mem_append_left _ hx))
 have hlt2:∀ x∈p2,x.block<W.heap.size:=fun x hx=>hW'.lt x (List.mem_append_right _ (List.mem_append_right _ (List.mem_append_left _ hx)))
 have hlt3:∀ x∈p3,x.block<W.heap.size:=fun x hx=>hW'.lt x (List.mem_append_right _ (List.mem_append_right _ (List.mem_append_right _ hx)))
 obtain ⟨A0,cap0,ts0,e0,hl0,hm0,hT0,hr0,hss0⟩:=open_toks h0 (okWide_slice Tryd.underlying22 (hval 0 22 v0 rfl rfl)) (weigh (j:=0) hsz rfl rfl)
 obtain ⟨cs1,rfl,hc1⟩:=okWide_struct Tryd.underlying25 (hval 1 25 v1 rfl rfl)
 obtain ⟨cs2,rfl,hc2⟩:=okWide_struct Tryd.underlying25 (hval 2 25 v2 rfl rfl)
 obtain ⟨x,P,pc,D,dc,e1,hx⟩:=open_act h1 ⟨cs1,rfl,hc1.trans cells_act⟩ (weigh (j:=1) hsz rfl rfl)
 obtain ⟨y,P',pc',D',dc',e2,hy⟩:=open_act h2 ⟨cs2,rfl,hc2.trans cells_act⟩ (weigh (j:=2) hsz rfl rfl)
 obtain ⟨s3,rfl,rfl,rfl,ws3⟩:=Go.ChangeMaps.open_string Tryd.underlying9 (hval 3 9 v3 rfl rfl) h3
 rw [e0] at h0 hW' ⊢
 rw [e1] at h1 hW' ⊢
 rw [e2] at h2 hW' ⊢
 refine (tties_true W.heap.size A0 cap0 ts0 x P pc D dc y P' pc' D' dc' s3 W hT0 (Nat.le_refl _) hl0 hm0 hr0 hss0 hx hy (tabs_of_laid hL)).mono fun e W' ⟨he,hb⟩=>?_
 subst he
 exact ⟨_,rfl,_,_,_,[],_,[],hW',trodAll_mk1 (shut_bool Tryd.underlying4 _),trodAll_mk4 (Below.trod laidOut (by kernel_rfl) (of_decide_eq_true (by kernel_rfl)) h0 hb hlt0) (Below.trod laidOut (by kernel_rfl) (of_decide_eq_true (by kernel_rfl)) h1 hb hlt1) (Below.trod laidOut (by kernel_rfl) (of_decide_eq_true (by kernel_rfl)) h2 hb hlt2) (Below.trod laidOut (by kernel_rfl) (of_decide_eq_true (by kernel_rfl)) h3 hb hlt3),rfl,hb.frame _,fun h=>by cases h⟩
theorem turnTies_holds:Rows.TurnTiesSaid:=
 OpenClaim.holds_of_wide 3 Tryd.f3 rfl rfl rfl rfl rfl rfl rfl ⟨rfl,rfl,rfl,rfl,rfl⟩ rfl rfl rfl rfl rfl (by kernel_rfl) Tryd.func3 (by kernel_rfl)
  (of_decide_eq_true (by kernel_rfl)) (by unfold Func.isWrapper;first | (rw [if_pos (by decide +kernel)];kernel_rfl) | (rw [if_neg (by decide +kernel)];exact ⟨rfl,rfl⟩))
  (fun os started H enc _=>turnTies_lifted os started H enc)
theorem turnTies_card:Rows.TurnTiesCardSaid:=
 Claim7.holds_tied_plain_at .later [] [.data, .pinned] true (true, "913d7bc60fdcd9d8c4e1e53f68c16c656758dbc3baf905c9c51d0760ad0e054c") false turnTies_holds (fun _ h => by cases h) (by kernel_rfl) (fun _ h => by cases h) turnTies_row_tie rfl ⟨rfl, rfl⟩ (by kernel_rfl) rfl
  (fun f fn hf hfn=>by
   obtain rfl : f = 3 := Option.some.inj ((show Tryd.prog.funcNamed "conciliator/conciliatorlaw07.TurnTies" = some 3 by kernel_rfl).symm.trans hf) |>.symm
   obtain rfl:fn=Tryd.f3:=(Option.some.inj (Tryd.func3.symm.trans hfn)).symm
   exact ⟨by kernel_rfl,fun j t ht=>by
    rw [Tryd.params3] at ht
    have hm:t∈[22,25,25,9]:=by simpa using Array.mem_of_getElem? ht
    have hall:([22,25,25,9].all fun u=>!Tryd.prog.wantsStandIn u)=true:=by kernel_rfl
    exact (show Tryd.prog.wantsStandIn t=false by simpa using List.all_eq_true.1 hall t hm)⟩)
  (by kernel_rfl)
#print axioms turnTies_card
end Go.Proofs.YtlhfnemcpgfcdaaDoor
