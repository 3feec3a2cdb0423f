/- Texts in one: RcB, OneC, OneF. -/
import Derived.Test.YtlhfnemcpgfcdaaDoorQ13
import Derived.Test.YtlhfnemcpgfcdaaDoorQ21
import Derived.Test.YtlhfnemcpgfcdaaDoorQ24
import Derived.RegionTactic
import Derived.OwnWalk
import Derived.Deep.DeepCutAuto
import Derived.Deep.CutRange
namespace Go.Proofs.YtlhfnemcpgfcdaaDoor
open Go Go.RowKit Go.Shelf
set_option linter.unusedVariables false
set_option linter.unusedSimpArgs false
def partK {α:Type} (p q:Nat) (x l:List α) (i:Nat):List α:=if i≤p then l.take i else (l.take p++x)++(l.take i).drop q
section
variable {α:Type} {p q:Nat} {x l:List α} {i:Nat}
theorem part_zero:partK p q x l 0=[]:=by simp [partK]
theorem part_low (hi:i<p) (hl:i<l.length):partK p q x l (i+1)=partK p q x l i++[l[i]]:=by
 unfold partK
 rw [if_pos (by omega),if_pos (by omega),List.take_succ_eq_append_getElem hl]
theorem part_high (hi:p<i) (hq:q≤p+1) (hl:i<l.length):partK p q x l (i+1)=partK p q x l i++[l[i]]:=by
 unfold partK
 rw [if_neg (by omega),if_neg (by omega),List.take_succ_eq_append_getElem hl,List.drop_append_of_le_length (by simp;omega)]
 simp
theorem part_skip (hl:p<l.length):partK p (p+1) x l (p+1)=partK p (p+1) x l p++x:=by
 unfold partK
 rw [if_neg (by omega),if_pos (by omega)]
 rw [List.drop_of_length_le (by simp;omega)]
 simp
theorem part_both (hl:p<l.length):partK p p x l (p+1)=(partK p p x l p++x)++[l[p]]:=by
 unfold partK
 rw [if_neg (by omega),if_pos (by omega),List.take_succ_eq_append_getElem hl,List.drop_append_of_le_length (by simp;omega)]
 simp
theorem part_end (hp:p<l.length):partK p q x l l.length=(l.take p++x)++l.drop q:=by
 unfold partK
 rw [if_neg (by omega),List.take_length]
theorem part_all (hp:l.length≤p):partK p q x l l.length=l:=by
 unfold partK
 rw [if_pos hp,List.take_length]
end
structure So (Q:Nat→Prop) (w W:World) (v:Value) (n:Nat) (ks:List ByteArray) (ov:List GV) (xs:List Value):Prop where
 below:Below w.heap.size w W
 own:W.ownsRow w.heap.size 55 6 v n xs
 row:RowO (fun k=>k<w.heap.size∧Q k) W ks ov xs
theorem So.start (Q:Nat→Prop) (w:World):So Q w w (.slice none 0 0) 0 [] [] []:=⟨Below.refl _ _,World.ownsRow_nil _ _ _ _,by simp [RowO]⟩
theorem So.step {Q:Nat→Prop} {w W W':World} {v:Value} {n:Nat} {ks:List ByteArray} {ov:List GV} {xs:List Value} (h:So Q w W v n ks ov xs) (hb:Below W.heap.size W W'):So Q w W' v n ks ov xs:=
 ⟨h.below.trans (hb.mono h.below.size),own_below h.own hb,h.row.keep (.of_below hb) (fun _ h _=>h)⟩
theorem So.app {Q:Nat→Prop} {w W W':World} {v:Value} {n:Nat} {ks:List ByteArray} {ov:List GV} {xs:List Value} (h:So Q w W v n ks ov xs) {v':Value} {kk:ByteArray} {g:GV} {L O:Value} (hL:LstV (fun k=>k<w.heap.size∧Q k) w L g.items) (hO:ObjV (fun k=>k<w.heap.size∧Q k) w O g.keys g.vals)
  (hown:W'.ownsRow w.heap.size 55 6 v' (n+1) (xs++(.string kk :: chunk g L O))) (hgrow:W.grownBy W' v.ownBlock):So Q w W' v' (n+1) (ks++[kk]) (ov++[g]) (xs++(.string kk :: chunk g L O)):=by
 have hF:From (fun k=>k<w.heap.size∧Q k) W W':=fun k hk hlt=>hgrow.block k hlt (fun e=>by have:=(h.own.lt k e.symm).1;omega)
 have hr:RowO (fun k=>k<w.heap.size∧Q k) W [kk] [g] (.string kk :: chunk g L O):=⟨L,O,[],by simp,hL.keep (fun k hk _=>h.below.block k hk.1) (fun _ h _=>h),hO.keep (fun k hk _=>h.below.block k hk.1) (fun _ h _=>h),rfl⟩
 exact ⟨h.below.grown hgrow h.below.size (fun k hk=>by have:=(h.own.lt k hk).1;omega),hown,(h.row.app hr).keep hF (fun _ h _=>h)⟩
theorem So.done {Q:Nat→Prop} {w W:World} {v:Value} {ks:List ByteArray} {ov:List GV} {xs:List Value} (hQ:∀ k,w.heap.size≤k→Q k) (h:So Q w W v ov.length ks ov xs):ObjV Q W v ks ov:=
 ObjV.of_own h.own (h.row.keep (From.refl _ _) fun k hk _=>hk.2) fun k hk=>hQ k (h.own.lt k hk).1
def FldRel (Q:Nat→Prop) (w:World) (d0:Bool) (p q:Nat) (xk:List ByteArray) (xv:List GV) (ks:List ByteArray) (ov:List GV) (v d i:Value) (wr:World):Prop:=
 ∃ (k:Nat) (xs:List Value),i=.int .i64 k∧k≤ov.length∧d=.bool (d0 || decide (p<k))∧So Q w wr v (partK p q xv ov k).length (partK p q xk ks k) (partK p q xv ov k) xs
end Go.Proofs.YtlhfnemcpgfcdaaDoor
namespace Go.Proofs.YtlhfnemcpgfcdaaDoor
open Go Go.RowKit
set_option linter.unusedVariables false
set_option linter.unusedSimpArgs false
def lenOf:Value→Nat
 | .slice _ n _=>n
 | _=>0
end Go.Proofs.YtlhfnemcpgfcdaaDoor
namespace Go.Proofs.YtlhfnemcpgfcdaaDoor
open Go Go.RowKit
set_option linter.unusedVariables false
set_option linter.unusedSimpArgs false
theorem there_mem {key:ByteArray} {ks:List ByteArray} (h:there key ks=true):∃ k,ks[place key ks]? = some k∧k.toList=key.toList:=by
 unfold there at h
 cases hk:ks[place key ks]? with
 | none=>rw [hk] at h;simp at h
 | some k=>rw [hk] at h;exact ⟨k,rfl,by simpa using h⟩
end Go.Proofs.YtlhfnemcpgfcdaaDoor
