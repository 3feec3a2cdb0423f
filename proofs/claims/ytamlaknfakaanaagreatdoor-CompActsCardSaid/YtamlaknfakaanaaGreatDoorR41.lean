/- Texts in one: TextZ, CompSd, RcB. -/
import Derived.Test.YtamlaknfakaanaaGreatDoorR10
import Derived.Test.YtamlaknfakaanaaGreatDoorR4
import Derived.Test.YtamlaknfakaanaaGreatDoorR39
import Derived.Test.YtamlaknfakaanaaGreatDoorR8
import Derived.Test.YtamlaknfakaanaaGreatDoorR13
import Derived.Test.YtamlaknfakaanaaGreatDoorR14
import Derived.Test.YtamlaknfakaanaaGreatDoorR20
import Derived.RegionTactic
import Derived.OwnWalk
namespace Go.Proofs.YtamlaknfakaanaaGreatDoor
open Go Go.RowKit Go.Lib
set_option linter.unusedVariables false
set_option linter.unusedSimpArgs false
theorem valid_chars:∀ cs:List (List UInt8),(∀ u∈cs,IsChar u)→validD cs.flatten=true
 | [],_=>rfl
 | u :: r,h=>by
  have hu:=h u (List.mem_cons_self ..)
  have hp:=hu.pos
  have hne:u++r.flatten≠[]:=by
   intro e
   have:=congrArg List.length e
   simp only [List.length_append,List.length_nil] at this
   omega
  rw [List.flatten_cons,validD_step _ hne,decodeL_char _ hu,if_neg (fun e=>hu.1 (Prod.ext e.1 e.2)),hu.2,List.drop_left]
  exact valid_chars r (fun v hv=>h v (List.mem_cons_of_mem _ hv))
theorem Reads.valid {s:ByteArray} {cs:List (List UInt8)} (h:Reads s cs):Go.Proofs.YtamlaknfakaanaaGreatDoor.valid s=true:=by
 unfold Go.Proofs.YtamlaknfakaanaaGreatDoor.valid
 rw [h.1]
 exact valid_chars cs h.2
theorem ins_valid {s t:ByteArray} (i:Nat) (hs:valid s=true) (ht:valid t=true):valid (insS s i t)=true:=by
 obtain ⟨cs,h1⟩:=reads_of hs
 obtain ⟨ts,h2⟩:=reads_of ht
 exact (h1.ins h2 i).valid
theorem del_valid {s:ByteArray} (i n:Nat) (hs:valid s=true):valid (delS s i n)=true:=by
 obtain ⟨cs,h1⟩:=reads_of hs
 exact (h1.del i n).valid
end Go.Proofs.YtamlaknfakaanaaGreatDoor
namespace Go.Proofs.YtamlaknfakaanaaGreatDoor
open Go Go.RowKit
set_option linter.unusedVariables false
set_option linter.unusedSimpArgs false
theorem bytes_trans:∀ (a b c:List UInt8),Op.bytesLess a b=true→Op.bytesLess b c=true→Op.bytesLess a c=true
 | _,[],_,h,_=>by simp [Op.bytesLess] at h
 | _,_ :: _,[],_,h=>by simp [Op.bytesLess] at h
 | [],_ :: _,_ :: _,_,_=>by simp [Op.bytesLess]
 | x :: a,y :: b,z :: c,h1,h2=>by
  simp only [Op.bytesLess,Bool.or_eq_true,Bool.and_eq_true,decide_eq_true_eq,beq_iff_eq] at h1 h2 ⊢
  rcases h1 with h1 | ⟨rfl,h1⟩
  ·rcases h2 with h2 | ⟨rfl,h2⟩
   ·exact .inl (UInt8.lt_trans h1 h2)
   ·exact .inl h1
  ·rcases h2 with h2 | ⟨rfl,h2⟩
   ·exact .inl h2
   ·exact .inr ⟨rfl,bytes_trans a b c h1 h2⟩
theorem less_trans {a b c:ByteArray} (h1:less' a b=true) (h2:less' b c=true):less' a c=true:=bytes_trans _ _ _ h1 h2
theorem remK_ok {ks:List ByteArray} {i:Nat} (h:KeysOk ks) (hi:i<ks.length):KeysOk (remL ks i):=by
 intro a k ha hk
 have hl:=remL_len hi
 rw [remL_get hi] at hk
 by_cases h1:a<i
 ·rw [if_pos h1] at hk
  refine ⟨(h a k (by omega) hk).1,fun j p e hj=>?_⟩
  rw [remL_get hi,if_pos (by omega)] at hj
  exact (h a k (by omega) hk).2 j p e hj
 ·rw [if_neg h1] at hk
  have hk2:=(List.getElem?_eq_some_iff.1 hk).1
  refine ⟨(h (a+1) k hk2 hk).1,fun j p e hj=>?_⟩
  rw [remL_get hi] at hj
  by_cases h2:j<i
  ·rw [if_pos h2] at hj
   have hm : ks[a]? = some (ks[a]'(by omega)) := List.getElem?_eq_getElem _
   exact less_trans ((h a _ (by omega) hm).2 j p e hj) ((h (a+1) k hk2 hk).2 a _ rfl hm)
  ·rw [if_neg h2] at hj
   exact (h (a+1) k hk2 hk).2 (j+1) p (by omega) hj
theorem insK_is {key:ByteArray} {ks:List ByteArray} (h:there key ks=false):insK key ks=insL ks (place key ks) key:=by
 unfold insK insL insN
 rw [h]
 rfl
theorem insL_mem {α:Type} {l:List α} {i:Nat} {v x:α} (h:x∈insL l i v):x=v∨x∈l:=by
 unfold insL at h
 rcases List.mem_append.1 h with h | h
 ·exact .inr (List.mem_of_mem_take h)
 ·rcases List.mem_cons.1 h with h | h
  ·exact .inl h
  ·exact .inr (List.mem_of_mem_drop h)
theorem remL_mem {α:Type} {l:List α} {i:Nat} {x:α} (h:x∈remL l i):x∈l:=by
 unfold remL at h
 rcases List.mem_append.1 h with h | h
 ·exact List.mem_of_mem_take h
 ·exact List.mem_of_mem_drop h
theorem doL_mem {l:List GV} {c:Cm GV} {x:GV} (h:x∈doL l c):x=c.v∨x∈l:=by
 unfold doL at h
 split at h
 ·exact insL_mem h
 ·split at h
  ·exact .inr (remL_mem h)
  ·split at h
   ·rcases insL_mem h with h | h
    ·exact .inl h
    ·exact .inr (remL_mem h)
   ·split at h
    ·rename_i y hy
     rcases insL_mem h with h | h
     ·subst h;exact .inr (List.mem_of_getElem? hy)
     ·exact .inr (remL_mem h)
    ·exact .inr h
theorem chk_kind {h:GV} {c:GC} (e:chkH h c=0):h.kind=worksOn c.kind:=by
 unfold chkH at e
 by_cases hk:h.kind=worksOn c.kind
 ·exact hk
 ·rw [if_pos hk] at e
  cases e
theorem chk_there {h:GV} {c:GC} (e:chkH h c=0) (h3:c.kind=3):there c.key h.keys=true:=by
 have hw:worksOn c.kind=5:=by rw [h3];decide
 have hk:h.kind=5:=(chk_kind e).trans hw
 unfold chkH at e
 rw [if_neg (fun hn=>hn (hk.trans hw.symm)),if_neg (by omega),if_neg (by omega)] at e
 by_cases ht:there c.key h.keys=true
 ·exact ht
 ·rw [if_pos ⟨h3,by simpa using ht⟩] at e
  cases e
theorem doH_put {h:GV} {c:GC} (h2:c.kind=2) (ht:there c.key h.keys=true):doH h c=.mk h.kind h.num h.str h.items h.keys (h.vals.set (place c.key h.keys) c.v):=by
 unfold doH
 rw [if_neg (by omega),if_pos h2,if_pos ht]
theorem doH_new {h:GV} {c:GC} (h2:c.kind=2) (ht:¬ there c.key h.keys=true):doH h c=.mk h.kind h.num h.str h.items (insL h.keys (place c.key h.keys) c.key) (insL h.vals (place c.key h.keys) c.v):=by
 unfold doH
 rw [if_neg (by omega),if_pos h2,if_neg ht]
theorem doH_sound {h:GV} {c:GC} (hh:h.Sound) (hc:c.Sound) (e:chkH h c=0):(doH h c).Sound:=by
 have hk:=chk_kind e
 have hdel:=chk_there e
 obtain ⟨_,_,hkey,_,⟨⟨hk1,hk9⟩,_,hs8,_⟩,hv⟩:=hc
 have hvs:=hv.1
 cases h with
 | mk k n z l ks ov=>
  simp only [GV.Sound] at hh
  obtain ⟨⟨p1,p2,p3,p4,p5⟩,hl,ho⟩:=hh
  rw [sounds_iff] at hl ho
  simp only [GV.kind,GV.keys] at hk hdel
  unfold worksOn at hk
  by_cases h2:c.kind=2
  ·rw [if_neg (by omega),if_pos (.inl h2)] at hk
   have hko:KeysOk ks:=by
    rcases p5 with p | p
    ·exact p.2
    ·exact absurd hk p.1
   by_cases ht:there c.key ks=true
   ·rw [doH_put (h:=.mk k n z l ks ov) h2 ht]
    simp only [GV.kind,GV.num,GV.str,GV.items,GV.keys,GV.vals,GV.Sound]
    rw [sounds_iff,sounds_iff]
    refine ⟨⟨p1,p2,p3,p4,.inl ⟨hk,hko⟩⟩,hl,fun x hx=>?_⟩
    rcases List.mem_or_eq_of_mem_set hx with hx | hx
    ·exact ho x hx
    ·subst hx;exact hvs
   ·rw [doH_new (h:=.mk k n z l ks ov) h2 ht]
    simp only [GV.kind,GV.num,GV.str,GV.items,GV.keys,GV.vals,GV.Sound]
    rw [sounds_iff,sounds_iff]
    refine ⟨⟨p1,p2,p3,p4,.inl ⟨hk,by rw [← insK_is (by simpa using ht)];exact insK_ok hko hkey⟩⟩,hl,fun x hx=>?_⟩
    rcases insL_mem hx with hx | hx
    ·subst hx;exact hvs
    ·exact ho x hx
  unfold doH
  rw [if_neg h2]
  by_cases h1:c.kind=1
  ·rw [if_pos h1] at hk ⊢
   simp only [GV.kind,GV.num,GV.str,GV.items,GV.keys,GV.vals,GV.Sound]
   rw [sounds_iff,sounds_iff]
   exact ⟨⟨p1,.inl hk,p3,p4,p5⟩,hl,ho⟩
  rw [if_neg h1] at hk ⊢
  simp only [GV.kind,GV.num,GV.str,GV.items,GV.keys,GV.vals]
  by_cases h3:c.kind=3
  ·rw [if_pos (.inr h3)] at hk
   have hko:KeysOk ks:=by
    rcases p5 with p | p
    ·exact p.2
    ·exact absurd hk p.1
   rw [if_pos h3]
   simp only [GV.Sound]
   rw [sounds_iff,sounds_iff]
   exact ⟨⟨p1,p2,p3,p4,.inl ⟨hk,remK_ok hko (there_lt (hdel h3))⟩⟩,hl,fun x hx=>ho x (remL_mem hx)⟩
  rw [if_neg h3]
  rw [if_neg (by omega)] at hk
  by_cases h8:c.kind=8
  ·rw [if_pos (.inl h8)] at hk
   rw [if_pos h8]
   simp only [GV.Sound]
   rw [sounds_iff,sounds_iff]
   refine ⟨⟨p1,p2,.inl ⟨hk,ins_valid _ ?_ (hs8 h8).2⟩,p4,p5⟩,hl,ho⟩
   rcases p3 with p | p
   ·exact p.2
   ·exact absurd hk p.1
  rw [if_neg h8]
  by_cases h9:c.kind=9
  ·rw [if_pos (.inr h9)] at hk
   rw [if_pos h9]
   simp only [GV.Sound]
   rw [sounds_iff,sounds_iff]
   refine ⟨⟨p1,p2,.inl ⟨hk,del_valid _ _ ?_⟩,p4,p5⟩,hl,ho⟩
   rcases p3 with p | p
   ·exact p.2
   ·exact absurd hk p.1
  rw [if_neg h9]
  rw [if_neg (by omega)] at hk
  simp only [GV.Sound]
  rw [sounds_iff,sounds_iff]
  refine ⟨⟨p1,p2,p3,.inl hk,p5⟩,fun x hx=>?_,ho⟩
  rcases doL_mem hx with hx | hx
  ·subst hx;exact hvs
  ·exact hl x hx
end Go.Proofs.YtamlaknfakaanaaGreatDoor
namespace Go.Proofs.YtamlaknfakaanaaGreatDoor
open Go Go.RowKit Go.Shelf
set_option linter.unusedVariables false
set_option linter.unusedSimpArgs false
def partK {α:Type} (p q:Nat) (x l:List α) (i:Nat):List α:=if i≤p then l.take i else (l.take p++x)++(l.take i).drop q
section
variable {α:Type} {p q:Nat} {x l:List α} {i:Nat}
theorem part_zero:partK p q x l 0=[]:=by simp [partK]
theorem part_low (hi:i<p) (hl:i<l.length):partK p q x l (i+1)=partK p q x l i++[l[i]]:=by
 unfold partK
 rw [if_pos (by omega),if_pos (by omega),List.take_succ_eq_append_getElem hl]
theorem part_high (hi:p<i) (hq:q≤p+1) (hl:i<l.length):partK p q x l (i+1)=partK p q x l i++[l[i]]:=by
 unfold partK
 rw [if_neg (by omega),if_neg (by omega),List.take_succ_eq_append_getElem hl,List.drop_append_of_le_length (by simp;omega)]
 simp
theorem part_skip (hl:p<l.length):partK p (p+1) x l (p+1)=partK p (p+1) x l p++x:=by
 unfold partK
 rw [if_neg (by omega),if_pos (by omega)]
 rw [List.drop_of_length_le (by simp;omega)]
 simp
theorem part_both (hl:p<l.length):partK p p x l (p+1)=(partK p p x l p++x)++[l[p]]:=by
 unfold partK
 rw [if_neg (by omega),if_pos (by omega),List.take_succ_eq_append_getElem hl,List.drop_append_of_le_length (by simp;omega)]
 simp
theorem part_end (hp:p<l.length):partK p q x l l.length=(l.take p++x)++l.drop q:=by
 unfold partK
 rw [if_neg (by omega),List.take_length]
theorem part_all (hp:l.length≤p):partK p q x l l.length=l:=by
 unfold partK
 rw [if_pos hp,List.take_length]
end
structure So (Q:Nat→Prop) (w W:World) (v:Value) (n:Nat) (ks:List ByteArray) (ov:List GV) (xs:List Value):Prop where
 below:Below w.heap.size w W
 own:W.ownsRow w.heap.size 59 6 v n xs
 row:RowO (fun k=>k<w.heap.size∧Q k) W ks ov xs
theorem So.start (Q:Nat→Prop) (w:World):So Q w w (.slice none 0 0) 0 [] [] []:=⟨Below.refl _ _,World.ownsRow_nil _ _ _ _,by simp [RowO]⟩
theorem So.step {Q:Nat→Prop} {w W W':World} {v:Value} {n:Nat} {ks:List ByteArray} {ov:List GV} {xs:List Value} (h:So Q w W v n ks ov xs) (hb:Below W.heap.size W W'):So Q w W' v n ks ov xs:=
 ⟨h.below.trans (hb.mono h.below.size),own_below h.own hb,h.row.keep (.of_below hb) (fun _ h _=>h)⟩
theorem So.app {Q:Nat→Prop} {w W W':World} {v:Value} {n:Nat} {ks:List ByteArray} {ov:List GV} {xs:List Value} (h:So Q w W v n ks ov xs) {v':Value} {kk:ByteArray} {g:GV} {L O:Value} (hL:LstV (fun k=>k<w.heap.size∧Q k) w L g.items) (hO:ObjV (fun k=>k<w.heap.size∧Q k) w O g.keys g.vals)
  (hown:W'.ownsRow w.heap.size 59 6 v' (n+1) (xs++(.string kk :: chunk g L O))) (hgrow:W.grownBy W' v.ownBlock):So Q w W' v' (n+1) (ks++[kk]) (ov++[g]) (xs++(.string kk :: chunk g L O)):=by
 have hF:From (fun k=>k<w.heap.size∧Q k) W W':=fun k hk hlt=>hgrow.block k hlt (fun e=>by have:=(h.own.lt k e.symm).1;omega)
 have hr:RowO (fun k=>k<w.heap.size∧Q k) W [kk] [g] (.string kk :: chunk g L O):=⟨L,O,[],by simp,hL.keep (fun k hk _=>h.below.block k hk.1) (fun _ h _=>h),hO.keep (fun k hk _=>h.below.block k hk.1) (fun _ h _=>h),rfl⟩
 exact ⟨h.below.grown hgrow h.below.size (fun k hk=>by have:=(h.own.lt k hk).1;omega),hown,(h.row.app hr).keep hF (fun _ h _=>h)⟩
theorem So.done {Q:Nat→Prop} {w W:World} {v:Value} {ks:List ByteArray} {ov:List GV} {xs:List Value} (hQ:∀ k,w.heap.size≤k→Q k) (h:So Q w W v ov.length ks ov xs):ObjV Q W v ks ov:=
 ObjV.of_own h.own (h.row.keep (From.refl _ _) fun k hk _=>hk.2) fun k hk=>hQ k (h.own.lt k hk).1
def FldRel (Q:Nat→Prop) (w:World) (d0:Bool) (p q:Nat) (xk:List ByteArray) (xv:List GV) (ks:List ByteArray) (ov:List GV) (v d i:Value) (wr:World):Prop:=
 ∃ (k:Nat) (xs:List Value),i=.int .i64 k∧k≤ov.length∧d=.bool (d0 || decide (p<k))∧So Q w wr v (partK p q xv ov k).length (partK p q xk ks k) (partK p q xv ov k) xs
end Go.Proofs.YtamlaknfakaanaaGreatDoor
