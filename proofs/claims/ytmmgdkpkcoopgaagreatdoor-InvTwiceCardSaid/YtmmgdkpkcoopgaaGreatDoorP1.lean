/- Texts in one: Ghost, Pos, Heavy, Rows2, RangeLaw, Items, Step, QuietR, RefD, RefCInv, Equal, SameI. -/
import Derived.Test.YtmmgdkpkcoopgaaGreatDoorProg
import Derived.WalkKit
import Derived.WalkSpells
import Derived.WalkLawsBesides
import Derived.Lib.Hide
import Derived.Maps.AppendAt
import Derived.RangeFuncNested
import Derived.RangeFuncBound
import Derived.RangeFuncLeaves
import Derived.Deep.RegionLaw
import Derived.Lib.QuietBelowIn
import Derived.BigQuiet
import Derived.IntWalk
import Derived.Deep.QuietTactic
import Derived.Lib.QuietBelow
set_option maxHeartbeats 8000000
set_option maxRecDepth 100000
namespace Go.Proofs.YtmmgdkpkcoopgaaGreatDoor
open Go.Lib(hid)
open Go Go.RowKit
inductive GV where
 | mk (k n:Int) (s:ByteArray) (l:List GV) (ks:List ByteArray) (ov:List GV)
namespace GV
def kq:GV->Int | .mk k _ _ _ _ _=>k
def num:GV->Int | .mk _ n _ _ _ _=>n
def str:GV->ByteArray | .mk _ _ s _ _ _=>s
def il:GV->List GV | .mk _ _ _ l _ _=>l
def keys:GV->List ByteArray | .mk _ _ _ _ ks _=>ks
def vz:GV->List GV | .mk _ _ _ _ _ ov=>ov
mutual
def size:GV->Nat
 | .mk _ _ _ l _ ov=>1+sizes l+sizes ov
def sizes:List GV->Nat
 | []=>0
 | g :: r=>size g+sizes r
end
mutual
def weight:GV->Nat
 | .mk _ _ s l ks ov=>1+s.size+weights l+(ks.map (·.size)).sum+weights ov
def weights:List GV->Nat
 | []=>0
 | g :: r=>weight g+weights r
end
mutual
def deep:GV->Nat
 | .mk _ _ _ l _ ov=>max (deeps l) (deeps ov)
def deeps:List GV->Nat
 | []=>0
 | g :: r=>max (1+deep g) (deeps r)
end
end GV
abbrev oV (g:GV) (A:Option Addr) (a:Nat) (B:Option Addr) (b:Nat):Obj:=.cells #[.int .u8 g.kq,.int .i64 g.num,.string g.str,.slice A g.il.length a,.slice B g.vz.length b] 29
abbrev vG (g:GV) (A:Option Addr) (a:Nat) (B:Option Addr) (b:Nat):Value:=.agg #[.int .u8 g.kq,.int .i64 g.num,.string g.str,.slice A g.il.length a,.slice B g.vz.length b]
def Kind (W:World) (ok:Nat->Prop) (b:Nat) (e:TypeId):Prop:=ok b/\∃ cur,W.heap[b]? = some (.cells cur e (0,0))
def KeysAt (W:World) (b:Nat):Nat->List ByteArray->Prop
 | _,[]=>True
 | off,k :: r=>W.cell? ⟨b,off,none⟩=some (.string k)/\KeysAt W b (off+6) r
mutual
def GV.at (ok:Nat->Prop) (W:World) (b off:Nat):GV->Prop
 | .mk k n s l ks ov=>∃ L O,
   W.cell? ⟨b,off,none⟩=some (.int .u8 k)/\W.cell? ⟨b,off+1,none⟩=some (.int .i64 n)/\W.cell? ⟨b,off+2,none⟩=some (.string s) /\
   W.cell? ⟨b,off+3,none⟩=some L/\W.cell? ⟨b,off+4,none⟩=some O /\
   ((l=[]/\L=.slice none 0 0)\/∃ b' o' c,L=.slice (some ⟨b',o',none⟩) l.length c/\l.length<=c/\c<=maxLen/\Kind W ok b' 29/\GV.els ok W b' 5 o' l) /\
   ks.length=ov.length /\
   ((ov=[]/\O=.slice none 0 0)\/∃ b' o' c,O=.slice (some ⟨b',o',none⟩) ov.length c/\ov.length<=c/\c<=maxLen/\Kind W ok b' 56/\KeysAt W b' o' ks/\GV.els ok W b' 6 (o'+1) ov)
def GV.els (ok:Nat->Prop) (W:World) (b step:Nat):Nat->List GV->Prop
 | _,[]=>True
 | off,g :: r=>GV.at ok W b off g/\GV.els ok W b step (off+step) r
end
def LstV (ok:Nat->Prop) (W:World) (L:Value) (l:List GV):Prop:=
 (l=[]/\L=.slice none 0 0)\/∃ b' o' c,L=.slice (some ⟨b',o',none⟩) l.length c/\l.length<=c/\c<=maxLen/\Kind W ok b' 29/\GV.els ok W b' 5 o' l
def ObjV (ok:Nat->Prop) (W:World) (O:Value) (ks:List ByteArray) (ov:List GV):Prop:=
 ks.length=ov.length /\
 ((ov=[]/\O=.slice none 0 0)\/∃ b' o' c,O=.slice (some ⟨b',o',none⟩) ov.length c/\ov.length<=c/\c<=maxLen/\Kind W ok b' 56/\KeysAt W b' o' ks/\GV.els ok W b' 6 (o'+1) ov)
def GV.val (ok:Nat->Prop) (W:World) (v:Value) (g:GV):Prop:=
 ∃ L O,v=.agg #[.int .u8 g.kq,.int .i64 g.num,.string g.str,L,O]/\LstV ok W L g.il/\ObjV ok W O g.keys g.vz
theorem GV.at_iff {ok:Nat->Prop} {W:World} {b off:Nat} {g:GV}:g.at ok W b off↔∃ L O,
   W.cell? ⟨b,off,none⟩=some (.int .u8 g.kq)/\W.cell? ⟨b,off+1,none⟩=some (.int .i64 g.num)/\W.cell? ⟨b,off+2,none⟩=some (.string g.str) /\
   W.cell? ⟨b,off+3,none⟩=some L/\W.cell? ⟨b,off+4,none⟩=some O/\LstV ok W L g.il/\ObjV ok W O g.keys g.vz:=by
 cases g with
 | mk k n s l ks ov=>simp only [GV.at,GV.kq,GV.num,GV.str,GV.il,GV.keys,GV.vz,LstV,ObjV]
theorem KeysAt.keep {W W':World} {b:Nat} (hb:W'.heap[b]? = W.heap[b]?):∀ {off:Nat} {ks:List ByteArray},KeysAt W b off ks->KeysAt W' b off ks
 | _,[],_=>trivial
 | _,_ :: _,⟨h,r⟩=>⟨(World.cell?_of_block (a:=⟨b,_,none⟩) hb).trans h,KeysAt.keep hb r⟩
theorem Kind.lt {W:World} {ok:Nat->Prop} {b:Nat} {e:TypeId} (h:Kind W ok b e):b<W.heap.size:=by
 obtain ⟨_,cur,hc⟩:=h;exact (Array.getElem?_eq_some_iff.1 hc).1
theorem Kind.keep {W W':World} {ok ok':Nat->Prop} {b:Nat} {e:TypeId} (hb:W'.heap[b]? = W.heap[b]?) (hlo:∀ k,ok k->k<W.heap.size->ok' k) (h:Kind W ok b e):Kind W' ok' b e:=
 ⟨hlo b h.1 h.lt,by obtain ⟨_,cur,hc⟩:=h;exact ⟨cur,hb.trans hc⟩⟩
def From (ok:Nat->Prop) (W W':World):Prop:=∀ k,ok k->k<W.heap.size->W'.heap[k]? = W.heap[k]?
mutual
theorem GV.at_keep {ok ok':Nat->Prop} {W W'} (H:From ok W W') (hlo:∀ k,ok k->k<W.heap.size->ok' k):∀ (g:GV) {b off:Nat},W'.heap[b]? = W.heap[b]?->g.at ok W b off->g.at ok' W' b off
 | .mk k n s l ks ov,b,off,hb,h=>by
  have hc:∀ o,W'.cell? ⟨b,o,none⟩=W.cell? ⟨b,o,none⟩:=fun o=>World.cell?_of_block (a:=⟨b,o,none⟩) hb
  unfold GV.at at h ⊢;simp only [hc];obtain ⟨L,O,h0,h1,h2,h3,h4,hL,hk,hO⟩:=h;refine ⟨L,O,h0,h1,h2,h3,h4,?_,hk,?_⟩
  ·rcases hL with hL | ⟨b',o',c,e,hc1,hc2,hK,hE⟩
   ·exact .inl hL
   ·have hb':=H b' hK.1 hK.lt
    exact .inr ⟨b',o',c,e,hc1,hc2,hK.keep hb' hlo,GV.els_keep H hlo l hb' hE⟩
  ·rcases hO with hO | ⟨b',o',c,e,hc1,hc2,hK,hks,hE⟩
   ·exact .inl hO
   ·have hb':=H b' hK.1 hK.lt
    exact .inr ⟨b',o',c,e,hc1,hc2,hK.keep hb' hlo,hks.keep hb',GV.els_keep H hlo ov hb' hE⟩
theorem GV.els_keep {ok ok':Nat->Prop} {W W'} (H:From ok W W') (hlo:∀ k,ok k->k<W.heap.size->ok' k):∀ (l:List GV) {b step off:Nat},W'.heap[b]? = W.heap[b]?->GV.els ok W b step off l->GV.els ok' W' b step off l
 | [],_,_,_,_,_=>by unfold GV.els;trivial
 | g :: r,_,_,_,hb,h=>by
  unfold GV.els at h ⊢;exact ⟨GV.at_keep H hlo g hb h.1,GV.els_keep H hlo r hb h.2⟩
end
theorem LstV.keep {ok ok':Nat->Prop} {W W'} (H:From ok W W') (hlo:∀ k,ok k->k<W.heap.size->ok' k) {L:Value} {l} (h:LstV ok W L l):LstV ok' W' L l:=by
 rcases h with hL | ⟨b',o',c,e,hc1,hc2,hK,hE⟩
 ·exact .inl hL
 ·have hb':=H b' hK.1 hK.lt
  exact .inr ⟨b',o',c,e,hc1,hc2,hK.keep hb' hlo,GV.els_keep H hlo l hb' hE⟩
theorem ObjV.keep {ok ok':Nat->Prop} {W W'} (H:From ok W W') (hlo:∀ k,ok k->k<W.heap.size->ok' k) {O:Value} {ks ov} (h:ObjV ok W O ks ov):ObjV ok' W' O ks ov:=by
 refine ⟨h.1,?_⟩
 rcases h.2 with hO | ⟨b',o',c,e,hc1,hc2,hK,hks,hE⟩
 ·exact .inl hO
 ·have hb':=H b' hK.1 hK.lt
  exact .inr ⟨b',o',c,e,hc1,hc2,hK.keep hb' hlo,hks.keep hb',GV.els_keep H hlo ov hb' hE⟩
theorem GV.val_keep {ok ok':Nat->Prop} {W W'} (H:From ok W W') (hlo:∀ k,ok k->k<W.heap.size->ok' k) {v:Value} {g:GV} (h:g.val ok W v):g.val ok' W' v:=by
 obtain ⟨L,O,e,hL,hO⟩:=h;exact ⟨L,O,e,hL.keep H hlo,hO.keep H hlo⟩
theorem From.of_below {ok:Nat->Prop} {W W':World} (h:Below W.heap.size W W'):From ok W W':=fun k _ hk=>h.block k hk
theorem From.refl (ok:Nat->Prop) (W:World):From ok W W:=fun _ _ _=>rfl
theorem GV.els_get {ok:Nat->Prop} {W:World} {b step:Nat}:∀ {l:List GV} {off i:Nat} {g:GV},GV.els ok W b step off l->l[i]? = some g->g.at ok W b (off+i * step)
 | [],_,_,_,_,hi=>by simp at hi
 | x :: r,off,0,g,h,hi=>by
  unfold GV.els at h;simp at hi
  subst hi
  simpa using h.1
 | x :: r,off,i+1,g,h,hi=>by
  unfold GV.els at h;have:=GV.els_get (i:=i) (g:=g) h.2 (by simpa using hi)
  rwa [show off+step+i * step=off+(i+1) * step by rw [Nat.succ_mul];omega] at this
theorem GV.els_of {ok:Nat->Prop} {W:World} {b step:Nat}:∀ {l:List GV} {off:Nat},(∀ (i:Nat) (g:GV),l[i]? = some g->g.at ok W b (off+i * step))->GV.els ok W b step off l
 | [],_,_=>by unfold GV.els;trivial
 | x :: r,off,h=>by
  unfold GV.els;refine ⟨by simpa using h 0 x rfl,GV.els_of fun i g hi=>?_⟩
  have:=h (i+1) g (by simpa using hi)
  rwa [show off+(i+1) * step=off+step+i * step by rw [Nat.succ_mul];omega] at this
theorem KeysAt.get {W:World} {b:Nat}:∀ {ks:List ByteArray} {off i:Nat} {k:ByteArray},KeysAt W b off ks->ks[i]? = some k->W.cell? ⟨b,off+i * 6,none⟩=some (.string k)
 | [],_,_,_,_,hi=>by simp at hi
 | x :: r,off,0,k,h,hi=>by simp at hi;subst hi;simpa using h.1
 | x :: r,off,i+1,k,h,hi=>by
  have:=KeysAt.get (i:=i) (k:=k) h.2 (by simpa using hi)
  rwa [show off+6+i * 6=off+(i+1) * 6 by omega] at this
theorem KeysAt.of {W:World} {b:Nat}:∀ {ks:List ByteArray} {off:Nat},(∀ (i:Nat) (k:ByteArray),ks[i]? = some k->W.cell? ⟨b,off+i * 6,none⟩=some (.string k))->KeysAt W b off ks
 | [],_,_=>trivial
 | x :: r,off,h=>by
  refine ⟨by simpa using h 0 x rfl,KeysAt.of fun i k hi=>?_⟩
  have:=h (i+1) k (by simpa using hi)
  rwa [show off+(i+1) * 6=off+6+i * 6 by omega] at this
theorem LstV.form {ok W} {L:Value} {l} (h:LstV ok W L l):∃ A c,L=.slice A l.length c/\l.length<=c/\c<=maxLen/\(l≠[]->∃ b o,A=some ⟨b,o,none⟩/\Kind W ok b 29/\GV.els ok W b 5 o l):=by
 rcases h with ⟨rfl,rfl⟩ | ⟨b,o,c,rfl,h1,h2,hK,hE⟩
 ·exact ⟨none,0,rfl,Nat.le_refl _,by decide,fun h=>absurd rfl h⟩
 ·exact ⟨_,c,rfl,h1,h2,fun _=>⟨b,o,rfl,hK,hE⟩⟩
theorem ObjV.form {ok W} {O:Value} {ks ov} (h:ObjV ok W O ks ov):∃ A c,O=.slice A ov.length c/\ov.length<=c/\c<=maxLen/\(ov≠[]->∃ b o,A=some ⟨b,o,none⟩/\Kind W ok b 56/\KeysAt W b o ks/\GV.els ok W b 6 (o+1) ov):=by
 rcases h.2 with ⟨rfl,rfl⟩ | ⟨b,o,c,rfl,h1,h2,hK,hks,hE⟩
 ·exact ⟨none,0,rfl,Nat.le_refl _,by decide,fun h=>absurd rfl h⟩
 ·exact ⟨_,c,rfl,h1,h2,fun _=>⟨b,o,rfl,hK,hks,hE⟩⟩
structure GTok where
 k:Int
 n:Int
 s:ByteArray
 m:Int
 hn:-9223372036854775808<=n/\n<=9223372036854775807
def ToksAt (W:World) (a:Addr) (ts:List GTok):Prop:=
 ∀ i t,ts[i]? = some t->W.cell? ⟨a.block,a.off+i * 4,none⟩=some (.int .u8 t.k)/\W.cell? ⟨a.block,a.off+i * 4+1,none⟩=some (.int .i64 t.n) /\
  W.cell? ⟨a.block,a.off+i * 4+2,none⟩=some (.string t.s)/\W.cell? ⟨a.block,a.off+i * 4+3,none⟩=some (.int .u8 t.m)
def Toks (hi:Nat) (W:World) (A:Option Addr) (ts:List GTok):Prop:=
 ts≠[]->∃ a:Addr,A=some a/\a.spot=none/\a.block<hi/\ToksAt W a ts
theorem Toks.keep {hi hi':Nat} {W W':World} {A} {ts:List GTok} (hb:Below hi W W') (hhi:hi<=hi') (h:Toks hi W A ts):Toks hi' W' A ts:=fun hn=>by
 obtain ⟨a,rfl,hs,hl,hc⟩:=h hn;have e:∀ o,W'.cell? ⟨a.block,o,none⟩=W.cell? ⟨a.block,o,none⟩:=fun o=>hb.cell (p:=⟨a.block,o,none⟩) hl
 refine ⟨a,rfl,hs,by omega,fun i t ht=>?_⟩
 simp only [e];exact hc i t ht
open Go Go.RowKit
mutual
def GV.Pos:GV->Prop
 | .mk k _ _ l _ ov=>0<=k/\GV.Poss l/\GV.Poss ov
def GV.Poss:List GV->Prop
 | []=>True
 | g :: r=>GV.Pos g/\GV.Poss r
end
theorem zfD:∀ (l:List GV),GV.Poss l↔∀ x∈l,x.Pos
 | []=>by simp [GV.Poss]
 | x :: r=>by simp [GV.Poss,zfD r]
theorem zjG (g:GV):g.Pos↔0<=g.kq/\(∀ x∈g.il,x.Pos)/\(∀ x∈g.vz,x.Pos):=by
 rw [<- zfD,<- zfD];cases g with | mk k n s l ks ov=>simp only [GV.Pos,GV.kq,GV.il,GV.vz]
mutual
def GV.PosN:GV->Prop
 | .mk k n _ l _ ov=>(0<=k/\-9223372036854775808<=n/\n<=9223372036854775807)/\GV.PosNs l/\GV.PosNs ov
def GV.PosNs:List GV->Prop
 | []=>True
 | g :: r=>GV.PosN g/\GV.PosNs r
end
theorem zd7:∀ (l:List GV),GV.PosNs l↔∀ x∈l,x.PosN
 | []=>by simp [GV.PosNs]
 | x :: r=>by simp [GV.PosNs,zd7 r]
open Go Go.RowKit
def Whole (W:World) (b:Nat) (t:TypeId) (cs:Array Value):Prop:=W.heap[b]? = some (.cells cs t (0,0))
section
variable {W W':World} {b:Nat} {t:TypeId} {cs:Array Value}
theorem Whole.lt (h:Whole W b t cs):b<W.heap.size:=(Array.getElem?_eq_some_iff.1 (show W.heap[b]? = _ from h)).1
theorem Whole.cell (h:Whole W b t cs) (i:Nat):W.cell? ⟨b,i,none⟩=cs[i]?:=by unfold Whole at h;simp [World.cell?,h]
theorem Whole.frozen (h:Whole W b t cs) (i:Nat):W.frozen? ⟨b,i,none⟩=false:=by unfold Whole at h;simp [World.frozen?,h]
theorem Whole.of_eq (h:Whole W b t cs) (e:W'.heap[b]? = W.heap[b]?):Whole W' b t cs:=Eq.trans e h
theorem Whole.below {B:Nat} (h:Whole W b t cs) (hb:Below B W W') (hB:b<B):Whole W' b t cs:=h.of_eq (hb.block b hB)
theorem Whole.grown {row:Option Nat} (h:Whole W b t cs) (hb:W.grownBy W' row) (hr:some b≠row):Whole W' b t cs:=h.of_eq (hb.block b h.lt hr)
theorem Whole.alloc (h:Whole W b t cs) (o:Obj):Whole (W.alloc o) b t cs:=h.of_eq (Below.heap_alloc W o b h.lt)
theorem Whole.new (W:World) (t:TypeId) (cs:Array Value):Whole (W.alloc (.cells cs t)) W.heap.size t cs:=heap_alloc_new W _
theorem Whole.put (h:Whole W b t cs) (i:Nat) (u:Value):Whole (W.setCell ⟨b,i,none⟩ u) b t (cs.setIfInBounds i u):=by
 unfold Whole at h ⊢;simp [World.setCell,Array.getElem?_modify,h]
theorem Whole.far (h:Whole W b t cs) {p:Addr} (hp:b≠p.block) (u:Value):Whole (W.setCell p u) b t cs:=h.of_eq (Below.heap_setCell W p u b hp)
theorem Whole.kq {ok:Nat->Prop} (h:Whole W b t cs) (hk:ok b):Kind W ok b t:=⟨hk,cs,h⟩
end
theorem zab {W:World} {a:Addr} {v:Value} (o:Obj) (h:W.cell? a=some v):(W.alloc o).cell? a=some v:=
 (World.cell?_of_block (Below.heap_alloc W o a.block (World.block_lt_of_cell? W a h))).trans h
def chunk (g:GV) (L O:Value):List Value:=[.int .u8 g.kq,.int .i64 g.num,.string g.str,L,O]
def RowL (ok:Nat->Prop) (W:World):List GV->List Value->Prop
 | [],xs=>xs=[]
 | g :: r,xs=>∃ L O ys,xs=chunk g L O++ys/\LstV ok W L g.il/\ObjV ok W O g.keys g.vz/\RowL ok W r ys
def RowO (ok:Nat->Prop) (W:World):List ByteArray->List GV->List Value->Prop
 | [],[],xs=>xs=[]
 | k :: ks,g :: r,xs=>∃ L O ys,xs=.string k :: chunk g L O++ys/\LstV ok W L g.il/\ObjV ok W O g.keys g.vz/\RowO ok W ks r ys
 | _,_,_=>False
section
variable {ok ok':Nat->Prop} {W W':World}
theorem RowL.keep (H:From ok W W') (hs:∀ k,ok k->k<W.heap.size->ok' k):∀ {l:List GV} {xs:List Value},RowL ok W l xs->RowL ok' W' l xs
 | [],_,h=>h
 | _ :: _,_,⟨L,O,ys,e,hL,hO,hr⟩=>⟨L,O,ys,e,hL.keep H hs,hO.keep H hs,RowL.keep H hs hr⟩
theorem RowO.keep (H:From ok W W') (hs:∀ k,ok k->k<W.heap.size->ok' k):∀ {ks:List ByteArray} {ov:List GV} {xs:List Value},RowO ok W ks ov xs->RowO ok' W' ks ov xs
 | [],[],_,h=>h
 | _ :: _,_ :: _,_,⟨L,O,ys,e,hL,hO,hr⟩=>⟨L,O,ys,e,hL.keep H hs,hO.keep H hs,RowO.keep H hs hr⟩
 | [],_ :: _,_,h=>h.elim
 | _ :: _,[],_,h=>h.elim
theorem RowL.snoc {g:GV} {L O:Value} (hL:LstV ok W L g.il) (hO:ObjV ok W O g.keys g.vz):∀ {l:List GV} {xs:List Value},RowL ok W l xs->RowL ok W (l++[g]) (xs++chunk g L O)
 | [],_,h=>⟨L,O,[],by rw [show _=([]:List Value) from h];simp,hL,hO,rfl⟩
 | _ :: _,_,⟨L',O',ys,e,hL',hO',hr⟩=>⟨L',O',ys++chunk g L O,by rw [e,List.append_assoc],hL',hO',RowL.snoc hL hO hr⟩
theorem RowO.snoc {k:ByteArray} {g:GV} {L O:Value} (hL:LstV ok W L g.il) (hO:ObjV ok W O g.keys g.vz):∀ {ks:List ByteArray} {ov:List GV} {xs:List Value},RowO ok W ks ov xs->RowO ok W (ks++[k]) (ov++[g]) (xs++(.string k :: chunk g L O))
 | [],[],_,h=>⟨L,O,[],by rw [show _=([]:List Value) from h];simp,hL,hO,rfl⟩
 | _ :: _,_ :: _,_,⟨L',O',ys,e,hL',hO',hr⟩=>⟨L',O',ys++(.string k :: chunk g L O),by rw [e];simp,hL',hO',RowO.snoc hL hO hr⟩
 | [],_ :: _,_,h=>h.elim
 | _ :: _,[],_,h=>h.elim
theorem RowO.len:∀ {ks:List ByteArray} {ov:List GV} {xs:List Value},RowO ok W ks ov xs->ks.length=ov.length
 | [],[],_,_=>rfl
 | _ :: _,_ :: _,_,⟨_,_,_,_,_,_,hr⟩=>by simp [RowO.len hr]
 | [],_ :: _,_,h=>h.elim
 | _ :: _,[],_,h=>h.elim
theorem RowL.els {b:Nat}:∀ {l:List GV} {xs:List Value} {off:Nat},RowL ok W l xs->(∀ (j:Nat) (u:Value),xs[j]? = some u->W.cell? ⟨b,off+j,none⟩=some u)->GV.els ok W b 5 off l
 | [],_,_,_,_=>by unfold GV.els;trivial
 | g :: r,_,off,⟨L,O,ys,e,hL,hO,hr⟩,hc=>by
  subst e;unfold GV.els;refine ⟨GV.at_iff.2 ⟨L,O,hc 0 _ rfl,hc 1 _ rfl,hc 2 _ rfl,hc 3 _ rfl,hc 4 _ rfl,hL,hO⟩,RowL.els hr fun j u hj=>?_⟩
  have:=hc (5+j) u (by rw [List.getElem?_append_right (by simp [chunk])];simpa [chunk] using hj)
  rwa [<- Nat.add_assoc] at this
theorem RowO.els {b:Nat}:∀ {ks:List ByteArray} {ov:List GV} {xs:List Value} {off:Nat},RowO ok W ks ov xs->(∀ (j:Nat) (u:Value),xs[j]? = some u->W.cell? ⟨b,off+j,none⟩=some u)->KeysAt W b off ks/\GV.els ok W b 6 (off+1) ov
 | [],[],_,_,_,_=>by unfold GV.els;exact ⟨trivial,trivial⟩
 | k :: ks,g :: r,_,off,⟨L,O,ys,e,hL,hO,hr⟩,hc=>by
  subst e;have hn:=RowO.els (off:=off+6) hr (fun j u hj=>by
   have:=hc (6+j) u (by rw [List.getElem?_append_right (by simp [chunk])];simpa [chunk] using hj)
   rwa [<- Nat.add_assoc] at this)
  unfold GV.els;refine ⟨⟨hc 0 _ rfl,hn.1⟩,GV.at_iff.2 ⟨L,O,hc 1 _ rfl,hc 2 _ rfl,hc 3 _ rfl,hc 4 _ rfl,hc 5 _ rfl,hL,hO⟩,?_⟩
  rw [show off+1+6=off+6+1 by omega]
  exact hn.2
 | [],_ :: _,_,_,h,_=>h.elim
 | _ :: _,[],_,_,h,_=>h.elim
end
theorem LstV.of_own {ok:Nat->Prop} {W:World} {base:Nat} {v:Value} {l:List GV} {xs:List Value} (h:W.ownsRow base 29 5 v l.length xs) (hr:RowL ok W l xs) (hok:∀ k,v.ownBlock=some k->ok k):LstV ok W v l:=by
 rcases h.2 with ⟨rfl,hn⟩ | ⟨g,cap,cur,rfl,hb,hg,h1,h2,h3,h4⟩
 ·exact .inl ⟨List.eq_nil_of_length_eq_zero hn,rfl⟩
 ·refine .inr ⟨g,0,cap,rfl,h1,h2,⟨hok g rfl,cur,hg⟩,hr.els fun j u hj=>?_⟩
  have:=h.cells (g:=g) rfl j u hj
  simpa [Addr.add] using (show W.cell? ⟨g,0+j,none⟩=some u by by_cases e:j=0<;>simpa [Addr.add,e] using this)
theorem ObjV.of_own {ok:Nat->Prop} {W:World} {base:Nat} {v:Value} {ks:List ByteArray} {ov:List GV} {xs:List Value} (h:W.ownsRow base 56 6 v ov.length xs) (hr:RowO ok W ks ov xs) (hok:∀ k,v.ownBlock=some k->ok k):ObjV ok W v ks ov:=by
 refine ⟨hr.len,?_⟩
 rcases h.2 with ⟨rfl,hn⟩ | ⟨g,cap,cur,rfl,hb,hg,h1,h2,h3,h4⟩
 ·exact .inl ⟨List.eq_nil_of_length_eq_zero hn,rfl⟩
 ·have hc:∀ (j:Nat) (u:Value),xs[j]? = some u->W.cell? ⟨g,0+j,none⟩=some u:=fun j u hj=>by
   have:=h.cells (g:=g) rfl j u hj;by_cases e:j=0<;>simpa [Addr.add,e] using this
  have:=hr.els hc;exact .inr ⟨g,0,cap,rfl,h1,h2,⟨hok g rfl,cur,hg⟩,this.1,this.2⟩
theorem infoVal:(Tryz.prog.info? 29).map (fun i=>(i.zero,i.size,i.bytes))=some (some (.agg #[.int .u8 0,.int .i64 0,.string ⟨#[]⟩,.slice none 0 0,.slice none 0 0]),5,80):=by kernel_rfl
theorem infoField:(Tryz.prog.info? 56).map (fun i=>(i.zero,i.size,i.bytes))=some (some (.agg #[.string ⟨#[]⟩,.int .u8 0,.int .i64 0,.string ⟨#[]⟩,.slice none 0 0,.slice none 0 0]),6,96):=by kernel_rfl
theorem zj6 (W:World) (cs:List Value) (t:TypeId):∀ (j:Nat) (u:Value),cs[j]? = some u->(W.alloc (.cells cs.toArray t)).cell? ((⟨W.heap.size,0,none⟩:Addr).add j)=some u:=by
 intro j u hj;have h:=Whole.new W t cs.toArray;have:((⟨W.heap.size,0,none⟩:Addr).add j) =⟨W.heap.size,j,none⟩:=by unfold Addr.add;split<;>simp_all
 rw [this,h.cell,List.getElem?_toArray,hj]
theorem row_cells' (W:World) (n:Nat) (hn:W.heap.size=n) (cs:List Value) (t:TypeId):∀ (j:Nat) (u:Value),cs[j]? = some u->(W.alloc (.cells cs.toArray t)).cell? ((⟨n,0,none⟩:Addr).add j)=some u:=by
 subst hn;exact zj6 W cs t
theorem zb5 {W:World} {base base':Nat} {e e':TypeId} {size size' n n':Nat} {v v':Value} {xs xs':List Value} (h:W.ownsRow base e size v n xs) (h':W.ownsRow base' e' size' v' n' xs') (hne:e≠e'):v.ownBlock=none\/v.ownBlock≠v'.ownBlock:=by
 rcases h.2 with ⟨rfl,_⟩ | ⟨g,cap,cur,rfl,_,hg,_⟩
 ·exact .inl rfl
 ·refine .inr fun he=>?_
  rcases h'.2 with ⟨rfl,_⟩ | ⟨g',cap',cur',rfl,_,hg',_⟩
  ·simp [Value.ownBlock] at he
  ·simp [Value.ownBlock] at he
   subst he;rw [hg] at hg';simp at hg'
   exact hne hg'.2
theorem zgV {W:World} {base:Nat} {e:TypeId} {size n:Nat} {v:Value} {xs:List Value} (h:W.ownsRow base e size v n xs) {p:Addr} (hp:v.ownBlock≠some p.block) (x:Value):(W.setCell p x).ownsRow base e size v n xs:=
 h.kept (row:=some p.block) ⟨rfl,rfl,rfl,by simp [World.setCell],fun k _ hk=>Below.heap_setCell W p x k (fun e=>hk (by rw [e]))⟩ (.inr hp)
theorem zaz {W W':World} {base:Nat} {e:TypeId} {size n:Nat} {v:Value} {xs:List Value} (h:W.ownsRow base e size v n xs) (hb:Below W.heap.size W W'):W'.ownsRow base e size v n xs:=
 h.kept (row:=none) ⟨hb.os,hb.tape,hb.output,hb.size,fun k hk _=>hb.block k hk⟩ (by rcases hv:v.ownBlock with _ | k<;>simp)
theorem zaf {W:World} {base:Nat} {e:TypeId} {size n:Nat} {v:Value} {xs:List Value} (h:W.ownsRow base e size v n xs):∃ A c,v=.slice A n c:=by
 rcases h.2 with ⟨rfl,rfl⟩ | ⟨g,cap,cur,rfl,_⟩
 ·exact ⟨_,_,rfl⟩
 ·exact ⟨_,_,rfl⟩
theorem zah {ok W} {L:Value} {l} (h:LstV ok W L l):∃ A c,L=.slice A l.length c:=by
 rcases h with ⟨rfl,rfl⟩ | ⟨_,_,_,rfl,_⟩
 ·exact ⟨_,_,rfl⟩
 ·exact ⟨_,_,rfl⟩
theorem zag {ok W} {O:Value} {ks ov} (h:ObjV ok W O ks ov):∃ A c,O=.slice A ov.length c:=by
 rcases h.2 with ⟨rfl,rfl⟩ | ⟨_,_,_,rfl,_⟩
 ·exact ⟨_,_,rfl⟩
 ·exact ⟨_,_,rfl⟩
theorem zbo {W W':World} {base:Nat} {e:TypeId} {size n:Nat} {v:Value} {xs:List Value} (h:W.ownsRow base e size v n xs) (hb:∀ k,v.ownBlock=some k->W'.heap[k]? = W.heap[k]?):W'.ownsRow base e size v n xs:=by
 refine ⟨h.1,?_⟩
 rcases h.2 with hn | ⟨g,cap,cur,rfl,hbg,hg,rest⟩
 ·exact .inl hn
 ·exact .inr ⟨g,cap,cur,rfl,hbg,(hb g rfl).trans hg,rest⟩
structure Five (W:World) (b:Nat) (a0 a1 a2 a3 a4:Value):Prop where
 c0:W.cell? ⟨b,0,none⟩=some a0
 c1:W.cell? ⟨b,1,none⟩=some a1
 c2:W.cell? ⟨b,2,none⟩=some a2
 c3:W.cell? ⟨b,3,none⟩=some a3
 c4:W.cell? ⟨b,4,none⟩=some a4
 f0:W.frozen? ⟨b,0,none⟩=false
 f1:W.frozen? ⟨b,1,none⟩=false
 f2:W.frozen? ⟨b,2,none⟩=false
 f3:W.frozen? ⟨b,3,none⟩=false
 f4:W.frozen? ⟨b,4,none⟩=false
theorem Whole.five {W b} {t:TypeId} {a0 a1 a2 a3 a4:Value} (h:Whole W b t #[a0,a1,a2,a3,a4]):Five W b a0 a1 a2 a3 a4:=
 ⟨(h.cell 0).trans rfl,(h.cell 1).trans rfl,(h.cell 2).trans rfl,(h.cell 3).trans rfl,(h.cell 4).trans rfl,h.frozen 0,h.frozen 1,h.frozen 2,h.frozen 3,h.frozen 4⟩
def put5 (W:World) (b:Nat) (a0 a1 a2 a3 a4:Value):World:=
 ((((W.setCell ⟨b,0,none⟩ a0).setCell ⟨b,1,none⟩ a1).setCell ⟨b,2,none⟩ a2).setCell ⟨b,3,none⟩ a3).setCell ⟨b,4,none⟩ a4
theorem zac (W:World) (b:Nat) (a0 a1 a2 a3 a4:Value) (k:Nat) (h:k≠b):(put5 W b a0 a1 a2 a3 a4).heap[k]? = W.heap[k]?:=by
 unfold put5;rw [Below.heap_setCell _ _ _ _ h,Below.heap_setCell _ _ _ _ h,Below.heap_setCell _ _ _ _ h,Below.heap_setCell _ _ _ _ h,Below.heap_setCell _ _ _ _ h]
theorem zae {B:Nat} {w W:World} (h:Below B w W) {b:Nat} (hb:B<=b) (a0 a1 a2 a3 a4:Value):Below B w (put5 W b a0 a1 a2 a3 a4):=
 ((((h.setCell hb _).setCell hb _).setCell hb _).setCell hb _).setCell hb _
theorem GV.val_put5 {B:Nat} {W:World} {v:Value} {g:GV} (h:g.val (fun k=>B+1<=k) W v) (o:Obj) (a0 a1 a2 a3 a4:Value):g.val (fun k=>B<=k) (put5 (W.alloc o) B a0 a1 a2 a3 a4) v:=
 GV.val_keep (fun k hk hlt=>by rw [zac _ _ _ _ _ _ _ _ (by omega),Below.heap_alloc _ _ _ hlt]) (fun k hk _=>by omega) h
open Go Go.RowKit
variable {P:Program} {F:Fence} {n:Nat}
def Apart (B:Nat) (I:World->Prop):Prop:=∀ (W:World) (l:Nat) (o o':Obj),B<=l->W.heap[l]? = some o->o.isCells=false->o'.isCells=false->I W->I (W.putObj l o')
def duePost {α:Type} (B:Nat) (Post:α->World->Prop) (Stop:Code->World->Prop) (x:α) (W:World):Exit->Act->World->Prop
 | .normal,_,W'=>KeepsFrom B W W'/\Post x W'
 | .ret,_,W'=>KeepsFrom B W W'/\Stop .ret W'
 | .exit id,_,W'=>KeepsFrom B W W'/\Stop (.exit id) W'
 | .goto t,_,W'=>KeepsFrom B W W'/\Stop (.goto t) W'
 | .panic _,_,_=>False
 | .outgrown,_,_=>False
def Dues {α:Type} (F:Fence) (n:Nat) (P:Program) (g:Nat) (lb:Array Value) (encs:α->Array Value) (B:Nat) (Pre Post:α->World->Prop) (Fin:World->Prop) (l:Nat) (W:World):Prop:=
 ∀ (Jx:World->Prop),
  (∀ x W1,Pre x W1->KeepsFrom B W W1->YieldAt F (n - 1) P l (encs x) W1 fun e W'=>(e=.returned (.bool true)/\KeepsFrom B W1 W'/\Post x W')\/(e=.returned (.bool false)/\Jx W')) ->
  CallsIn F n P g (#[.func (.yield l) #[] #[]]++lb) W fun e W'=>(∃ v,e=.returned v)/\((KeepsFrom B W W'/\Fin W')\/Jx W')
theorem zcf {α:Type} {g:Operand} {ps:Array Tmp} {assign body:Code} {Q:Exit->Act->World->Prop} {a:Act} {w:World}
  (hro:F.round=none) (h1:1<=n) {gf:Nat} {lb:Array Value} (hg:a.eval g=.func (.func gf) #[] lb) (hFg:F.fn gf) (eg:∀ args w,(callFunc gf args).run P w=.ok (.enter gf args) w)
  (encs:α->Array Value) (hps:∀ x,(encs x).size=ps.size)
  (Pre Post:α->World->Prop) (Stop:Code->World->Prop) (Fin:World->Prop)
  (hPre:∀ x,Apart w.heap.size (Pre x)) (hPost:∀ x,Apart w.heap.size (Post x)) (hStop:∀ c,Apart w.heap.size (Stop c)) (hFin:Apart w.heap.size Fin)
  (hseq:∀ l W,l=w.heap.size+1->(∃ o o',o.isCells=false/\o'.isCells=false/\W=(w.alloc o).alloc o')->Dues F (n - 1) P gf lb encs w.heap.size Pre Post Fin l W)
  (a₁:α->Act)
  (hassign:∀ (l:Nat) (x:α) (W:World) (K:Act->World->Prop),K (a₁ x) W ->
   assign.wpIn (F.inRound l) (n - 1 - 1) P (Exit.then K (fun _ _ _=>False)) { tmps:=(ps.zip (encs x)).foldl (fun t (p,v)=>t.setIfInBounds p v) a.tmps,defers:=[] } W)
  (hbody:∀ (l:Nat) (x:α) (W:World),Pre x W->body.wpIn (F.inRound l) (n - 1 - 1) P (duePost w.heap.size Post Stop x W) (a₁ x) W)
  (hdone:∀ (D:Nat) (W:World),w.heap.size<=D->Fin W->W.heap[D]? = some (.deferred (some []))->Q .normal { a with defers:={ target:=.collected D,args:=#[] } :: a.defers } W)
  (hstop:∀ (D:Nat) (c:Code) (W:World),w.heap.size<=D->Stop c W->W.heap[D]? = some (.deferred (some []))->c.wpIn F n P Q { a with defers:={ target:=.collected D,args:=#[] } :: a.defers } W):
  (Code.rangeFunc g ps assign body).wpIn F n P Q a w:=by
 refine wpIn_rangeFunc ?_
 intro fn hfn;rw [hro];obtain ⟨rec,hrec⟩:∃ rec:LoopState->Option Code->Loop,rec=fun st pe=>{ state:=st,pending:=pe,fn,tmps:=a.tmps,params:=ps,assign,body,defers:=w.heap.size }:=⟨_,rfl⟩
 have hpr:∀ st pe,(rec st pe).params=ps:=fun _ _=>by rw [hrec]
 obtain ⟨W0,hW0⟩:∃ W0,(w.alloc (.deferred (some []))).alloc (.loop (rec .ready none))=W0:=⟨_,rfl⟩;have hL:W0.heap[w.heap.size+1]? = some (.loop (rec .ready none)):=by
  rw [<- hW0];have:=World.alloc_heap_new (w.alloc (.deferred (some []))) (.loop (rec .ready none));rwa [World.size_alloc] at this
 have hK:W0.heap[w.heap.size]? = some (.deferred (some [])):=by
  rw [<- hW0];exact (Below.heap_alloc _ _ _ (by simp)).trans (World.alloc_heap_new w _)
 refine ⟨w.heap.size+1,[{ target:=.collected w.heap.size,args:=#[] }],W0,{ target:=.fn (.func gf) lb,args:=#[.func (.yield (w.heap.size+1)) #[] #[]] },W0,gf,
  #[.func (.yield (w.heap.size+1)) #[] #[]]++lb,W0,?_,?_,?_,?_,fun _=>h1,?_⟩
 ·rw [<- hW0,hrec];exact run_enterLoop_outer _ _ _ _ _
 ·simp only [resolve,hg]
  simp [go_sem]
 ·intro f' hf';simp [Target.leads] at hf';subst hf';exact hFg
 ·simp [invoke,go_sem,eg]
 -- what the two blocks of book-keeping are,in any world that keeps them
 have kept:∀ {A:World},KeepsFrom w.heap.size W0 A->A.heap[w.heap.size+1]? = some (.loop (rec .ready none))/\A.heap[w.heap.size]? = some (.deferred (some [])):=fun h=>
  ⟨h.same _ _ (by omega) hL rfl,h.same _ _ (Nat.le_refl _) hK rfl⟩
 refine (hseq (w.heap.size+1) W0 rfl ⟨_,_,rfl,rfl,hW0.symm⟩
  (fun W=>∃ c,Stop c W/\W.heap[w.heap.size+1]? = some (.loop (rec .done (some c)))/\W.heap[w.heap.size]? = some (.deferred (some []))) ?_).mono ?_
 ·-- one round
  intro x W hx hkW;obtain ⟨hl,hk⟩:=kept hkW;have hlt:w.heap.size+1<W.heap.size:=(Array.getElem?_eq_some_iff.1 hl).1;have hy:=run_yield (P:=P) (args:=encs x) hl (by rw [hpr];exact hps x)
  rw [hrec] at hy;refine ⟨fn,_,assign,body,hy,roundIn_of_wpIn hfn (hassign _ x W _ ⟨_,run_beginRound hl (by rw [hrec]),?_⟩)⟩
  obtain ⟨Wb,hWb⟩:∃ Wb,Wb=W.putObj (w.heap.size+1) (.loop { rec .ready none with state:=.busy }):=⟨_,rfl⟩
  rw [<- hWb];have hl2:Wb.heap[w.heap.size+1]? = some (.loop { rec .ready none with state:=.busy }):=by rw [hWb];exact World.putObj_heap_same hlt
  have hk2:Wb.heap[w.heap.size]? = some (.deferred (some [])):=by rw [hWb];exact (World.putObj_heap_other (by omega)).trans hk
  have hx2:Pre x Wb:=by rw [hWb];exact hPre x W _ _ _ (by omega) hl rfl rfl hx
  refine wpIn_mono (hbody _ x Wb hx2) ?_
  -- the end of a round
  have fin:∀ (jump:Option Code) (W3:World),KeepsFrom w.heap.size Wb W3 ->
    W3.heap[w.heap.size+1]? = some (.loop { rec .ready none with state:=.busy }) /\
    (Instr.endRound (w.heap.size+1) jump).run P W3=.ok (.bool jump.isNone) (W3.putObj (w.heap.size+1) (.loop (rec (if jump.isNone then .ready else .done) jump))) /\
    (W3.putObj (w.heap.size+1) (.loop (rec (if jump.isNone then .ready else .done) jump))).heap[w.heap.size+1]? = some (.loop (rec (if jump.isNone then .ready else .done) jump)) /\
    (W3.putObj (w.heap.size+1) (.loop (rec (if jump.isNone then .ready else .done) jump))).heap[w.heap.size]? = some (.deferred (some [])):=fun jump W3 hk3=>by
   have hl3:=hk3.same _ _ (by omega) hl2 rfl
   have:=run_endRound (P:=P) jump hl3;rw [hrec] at this ⊢;rw [hrec] at hl3;exact ⟨hl3,this,World.putObj_heap_same (Array.getElem?_eq_some_iff.1 hl3).1,(World.putObj_heap_other (by omega)).trans (hk3.same _ _ (Nat.le_refl _) hk2 rfl)⟩
  rintro e a3 W3 hp
  cases e with
  | normal=>
   obtain ⟨hk3,hi3⟩:=hp;obtain ⟨hl3,hr,hl4,_⟩:=fin none W3 hk3;refine ⟨_,_,hr,.inl ⟨rfl,⟨?_,fun k o hB ho hc=>?_⟩,hPost x _ _ _ _ (by omega) hl3 rfl rfl hi3⟩⟩
   ·have h1:=hk3.size
    rw [hWb] at h1;simp at h1 ⊢
    exact h1
   ·by_cases e:k=w.heap.size+1
    ·subst e
     rw [hl] at ho;cases ho
     exact hl4
    ·rw [World.putObj_heap_other (by omega)]
     refine hk3.same k o hB ?_ hc
     rw [hWb,World.putObj_heap_other (by omega)]
     exact ho
  | ret=>
   obtain ⟨hk3,hi3⟩:=hp;obtain ⟨hl3,hr,hl4,hk4⟩:=fin (some .ret) W3 hk3;exact ⟨_,_,hr,.inr ⟨rfl,.ret,hStop _ _ _ _ _ (by omega) hl3 rfl rfl hi3,hl4,hk4⟩⟩
  | exit id=>
   obtain ⟨hk3,hi3⟩:=hp;obtain ⟨hl3,hr,hl4,hk4⟩:=fin (some (.exit id)) W3 hk3;exact ⟨_,_,hr,.inr ⟨rfl,.exit id,hStop _ _ _ _ _ (by omega) hl3 rfl rfl hi3,hl4,hk4⟩⟩
  | goto t=>
   obtain ⟨hk3,hi3⟩:=hp;obtain ⟨hl3,hr,hl4,hk4⟩:=fin (some (.goto t)) W3 hk3;exact ⟨_,_,hr,.inr ⟨rfl,.goto t,hStop _ _ _ _ _ (by omega) hl3 rfl rfl hi3,hl4,hk4⟩⟩
  | panic ch=>exact hp.elim
  | outgrown=>exact hp.elim
 ·-- behind the function
  rintro e W2 ⟨⟨v,rfl⟩,(⟨hkf,hf⟩ | ⟨c,hi,hl,hk⟩)⟩
  ·obtain ⟨hl,hk⟩:=kept hkf
   exact ⟨none,_,by have:=run_endLoop (P:=P) hl (by rw [hrec];simp);rw [hrec] at this;exact this,hdone _ _ (Nat.le_refl _) (hFin _ _ _ _ (by omega) hl rfl rfl hf) ((World.putObj_heap_other (by omega)).trans hk)⟩
  ·exact ⟨some c,_,by have:=run_endLoop (P:=P) hl (by rw [hrec];simp);rw [hrec] at this;exact this,hstop _ c _ (Nat.le_refl _) (hStop c _ _ _ _ (by omega) hl rfl rfl hi) ((World.putObj_heap_other (by omega)).trans hk)⟩
structure Item where
 d:Nat
 b:Nat
 off:Nat
 g:GV
def Item.cells (x:Item):List Value:=[.int .i64 x.d,.pointer (some ⟨x.b,x.off,none⟩)]
def cellsOf:List Item->List Value
 | []=>[]
 | x :: r=>x.cells++cellsOf r
theorem zbi (a b:List Item):cellsOf (a++b)=cellsOf a++cellsOf b:=by
 induction a with
 | nil=>rfl
 | cons x r ih=>simp [cellsOf,ih]
theorem za4 (a:List Item):(cellsOf a).length=a.length * 2:=by
 induction a with
 | nil=>rfl
 | cons x r ih=>simp [cellsOf,Item.cells,ih];omega
def itemsAt (d b step:Nat):Nat->List GV->List Item
 | _,[]=>[]
 | off,g :: r=>⟨d,b,off,g⟩ :: itemsAt d b step (off+step) r
theorem zau {d b step:Nat}:∀ {off:Nat} {l:List GV},(itemsAt d b step off l).length=l.length
 | _,[]=>rfl
 | _,_ :: r=>by simp [itemsAt,zau (l:=r)]
theorem zb4 {d b step:Nat}:∀ {off:Nat} {l:List GV} {k:Nat} (_:k<l.length),(itemsAt d b step off l).take (k+1)=(itemsAt d b step off l).take k++[⟨d,b,off+k * step,l[k]⟩]
 | off,g :: r,0,_=>by simp [itemsAt]
 | off,g :: r,k+1,h=>by
  simp only [itemsAt,List.take_succ_cons,List.cons_append,List.getElem_cons_succ];rw [zb4 (l:=r) (by simpa using h)]
  simp only [Nat.succ_mul,Nat.add_assoc,Nat.add_comm step]
def isum:List Item->Nat
 | []=>0
 | x :: r=>x.g.size+isum r
theorem zbT (a b:List Item):isum (a++b)=isum a+isum b:=by
 induction a with
 | nil=>simp [isum]
 | cons x r ih=>simp [isum,ih];omega
theorem zcp {d b step:Nat}:∀ {off:Nat} {l:List GV},isum (itemsAt d b step off l)=GV.sizes l
 | _,[]=>by simp [itemsAt,isum,GV.sizes]
 | _,_ :: r=>by simp [itemsAt,isum,GV.sizes,zcp (l:=r)]
theorem zdN (g:GV):1<=g.size:=by cases g with | mk k n s l ks ov=>simp only [GV.size];omega
theorem zaD (g:GV):g.size=1+GV.sizes g.il+GV.sizes g.vz:=by cases g with | mk k n s l ks ov=>simp only [GV.size,GV.il,GV.vz]
theorem zlg (S:List Item):S.length<=isum S:=by
 induction S with
 | nil=>simp
 | cons x r ih=>have:=zdN x.g;simp [isum];omega
theorem zaq (l:List GV):l.length<=GV.sizes l:=by
 induction l with
 | nil=>simp
 | cons x r ih=>have:=zdN x;simp [GV.sizes];omega
theorem zb2 {d b step:Nat}:∀ {off:Nat} {l:List GV} {x:Item},x∈itemsAt d b step off l->x.d=d/\x.g.size<=GV.sizes l
 | _,[],_,h=>by simp [itemsAt] at h
 | _,g :: r,x,h=>by
  simp only [itemsAt,List.mem_cons] at h;simp only [GV.sizes];rcases h with rfl | h
  ·exact ⟨rfl,by simp⟩
  ·have:=zb2 h
   exact ⟨this.1,by omega⟩
structure KidsAt (W:World) (x:Item) (spot:TypeId) (lb lo ob oo:Nat):Prop where
 whole:∃ e cs,e≠spot/\Whole W x.b e cs
 lst:∃ A c,W.cell? ⟨x.b,x.off+3,none⟩=some (.slice A x.g.il.length c)/\(x.g.il≠[]->A=some ⟨lb,lo,none⟩)
 obj:∃ A c,W.cell? ⟨x.b,x.off+4,none⟩=some (.slice A x.g.vz.length c)/\(x.g.vz≠[]->A=some ⟨ob,oo,none⟩)
def kids (x:Item) (lb lo ob oo:Nat):List Item:=itemsAt (x.d+1) lb 5 lo x.g.il++itemsAt (x.d+1) ob 6 (oo+1) x.g.vz
theorem zjm (x:Item) (lb lo ob oo:Nat):isum (kids x lb lo ob oo)+1=x.g.size:=by
 unfold kids;rw [zbT,zcp,zcp,zaD];omega
structure But (e:TypeId) (base:Nat) (A B:World):Prop where
 os:B.os=A.os
 tape:B.tape=A.tape
 output:B.output=A.output
 size:A.heap.size<=B.heap.size
 same:∀ (k:Nat) (o:Obj),A.heap[k]? = some o->(k<base\/∀ cs,o≠Obj.cells cs e (0,0))->B.heap[k]? = some o
section
variable {e:TypeId} {base:Nat} {A B C:World}
theorem But.refl (e:TypeId) (base:Nat) (A:World):But e base A A:=⟨rfl,rfl,rfl,Nat.le_refl _,fun _ _ h _=>h⟩
theorem But.trans (h:But e base A B) (k:But e base B C):But e base A C:=⟨k.os.trans h.os,k.tape.trans h.tape,k.output.trans h.output,Nat.le_trans h.size k.size,fun i o hi ho=>k.same i o (h.same i o hi ho) ho⟩
theorem But.alloc (h:But e base A B) (o:Obj):But e base A (B.alloc o):=h.trans ⟨rfl,rfl,rfl,by simp,fun k _ hk _=>(Below.heap_alloc B o k (Array.getElem?_eq_some_iff.1 hk).1).trans hk⟩
theorem But.grown {size n:Nat} {v:Value} {xs:List Value} (h:But e base A B) (ho:B.ownsRow base e size v n xs) (hg:B.grownBy C v.ownBlock):But e base A C:=
 h.trans ⟨hg.os,hg.tape,hg.output,hg.size,fun k o hk hne=>by
  refine (hg.block k (Array.getElem?_eq_some_iff.1 hk).1 (fun hv=>?_)).trans hk
  rcases ho.2 with ⟨rfl,_⟩ | ⟨g,cap,cur,rfl,hb,hh,_⟩
  ·simp [Value.ownBlock] at hv
  ·simp [Value.ownBlock] at hv
   subst hv;rw [hh] at hk;cases hk
   rcases hne with hlt | hne
   ·omega
   ·exact hne cur rfl⟩
theorem But.whole {t:TypeId} {b} {cs:Array Value} (h:But e base A B) (hw:Whole A b t cs) (hne:t≠e):Whole B b t cs:=h.same b _ hw (.inr fun cs' hc=>by cases hc;exact hne rfl)
theorem But.others (h:But e base A B) (D:Nat):KeepsFrom D A B:=⟨h.size,fun k o _ hk hc=>h.same k o hk (.inr fun cs e'=>by subst e';cases hc)⟩
theorem But.below (h:But e base A B) {n:Nat} (hn:n<=base) (hA:n<=A.heap.size):Below n A B:=
 ⟨h.os,h.tape,h.output,h.size,fun k hk=>by
  have hk':k<A.heap.size:=by omega
  rw [Array.getElem?_eq_getElem hk'];exact h.same k _ (Array.getElem?_eq_getElem hk') (.inl (by omega))⟩
theorem But.kids {x:Item} {lb lo ob oo:Nat} (h:But e base A B) (hk:KidsAt A x e lb lo ob oo):KidsAt B x e lb lo ob oo:=by
 obtain ⟨t,cs,hne,hw⟩:=hk.whole;have he:B.heap[x.b]? = A.heap[x.b]?:=(h.whole hw hne).trans (show A.heap[x.b]? = _ from hw).symm;obtain ⟨A1,c1,h1,h1'⟩:=hk.lst;obtain ⟨A2,c2,h2,h2'⟩:=hk.obj;exact ⟨⟨t,cs,hne,h.whole hw hne⟩,⟨A1,c1,(World.cell?_of_block (a:=⟨x.b,x.off+3,none⟩) he).trans h1,h1'⟩,⟨A2,c2,(World.cell?_of_block (a:=⟨x.b,x.off+4,none⟩) he).trans h2,h2'⟩⟩
end
def Owned (e:TypeId) (own:List (Nat × Array Value)) (W:World):Prop:=∀ p∈own,Whole W p.1 e p.2
theorem zlI {W:World} {base:Nat} {e:TypeId} {size n:Nat} {v:Value} {xs:List Value} (h:W.ownsRow base e size v n xs) (hn:1<=n):
  ∃ t c cur,v=.slice (some ⟨t,0,none⟩) n c/\n<=c/\c<=maxLen/\base<=t/\Whole W t e cur/\(∀ (j:Nat) (u:Value),xs[j]? = some u->W.cell? ⟨t,j,none⟩=some u):=by
 rcases h.2 with ⟨rfl,h0⟩ | ⟨g,cap,cur,rfl,hb,hg,h1,h2,h3,h4⟩
 ·omega
 ·refine ⟨g,cap,cur,rfl,h1,h2,hb,hg,fun j u hj=>?_⟩
  have:=h.cells (g:=g) rfl j u hj;by_cases e:j=0<;>simpa [Addr.add,e] using this
theorem zgn {W:World} {base:Nat} {e:TypeId} {size n c:Nat} {A:Option Addr} {xs:List Value} (h:W.ownsRow base e size (.slice A n c) n xs) (n':Nat) (hn:n'<=n) (h1:1<=n):W.ownsRow base e size (.slice A n' c) n' (xs.take (n' * size)):=by
 rcases h.2 with ⟨hv,h0⟩ | ⟨g,cap,cur,hv,hb,hg,h1,h2,h3,h4⟩
 ·omega
 ·cases hv
  refine ⟨by rw [List.length_take,h.1];exact Nat.min_eq_left (Nat.mul_le_mul_right _ hn),.inr ⟨g,c,cur,rfl,hb,hg,by omega,h2,h3,?_⟩⟩
  rw [<- h4,List.take_take,Nat.min_eq_left (Nat.mul_le_mul_right _ hn)]
abbrev Pair:=Item × Item
def pcells (x:Pair):List Value:=[.pointer (some ⟨x.1.b,x.1.off,none⟩),.pointer (some ⟨x.2.b,x.2.off,none⟩)]
def pcellsOf:List Pair->List Value
 | []=>[]
 | x :: r=>pcells x++pcellsOf r
theorem zbc (a b:List Pair):pcellsOf (a++b)=pcellsOf a++pcellsOf b:=by
 induction a with
 | nil=>rfl
 | cons x r ih=>simp [pcellsOf,ih]
theorem zaZ (a:List Pair):(pcellsOf a).length=a.length * 2:=by
 induction a with
 | nil=>rfl
 | cons x r ih=>simp [pcellsOf,pcells,ih];omega
def psum:List Pair->Nat
 | []=>0
 | x :: r=>x.1.g.size+psum r
theorem zbO (a b:List Pair):psum (a++b)=psum a+psum b:=by
 induction a with
 | nil=>simp [psum]
 | cons x r ih=>simp [psum,ih];omega
theorem zfx:∀ (a b:List Item),psum (a.zip b)<=isum a
 | [],_=>by simp [psum]
 | _ :: _,[]=>by simp [psum]
 | x :: r,y :: q=>by have:=zfx r q;simp [psum,isum];omega
theorem zll (S:List Pair):S.length<=psum S:=by
 induction S with
 | nil=>simp
 | cons x r ih=>have:=zdN x.1.g;simp [psum];omega
def kids2 (x:Pair) (lb lo ob oo lb' lo' ob' oo':Nat):List Pair:=
 (itemsAt 0 lb 5 lo x.1.g.il).zip (itemsAt 0 lb' 5 lo' x.2.g.il)++(itemsAt 0 ob 6 (oo+1) x.1.g.vz).zip (itemsAt 0 ob' 6 (oo'+1) x.2.g.vz)
theorem ziB (x:Pair) (lb lo ob oo lb' lo' ob' oo':Nat):psum (kids2 x lb lo ob oo lb' lo' ob' oo')+1<=x.1.g.size:=by
 unfold kids2;rw [zbO];have h1:=zfx (itemsAt 0 lb 5 lo x.1.g.il) (itemsAt 0 lb' 5 lo' x.2.g.il);have h2:=zfx (itemsAt 0 ob 6 (oo+1) x.1.g.vz) (itemsAt 0 ob' 6 (oo'+1) x.2.g.vz);rw [zcp] at h1 h2;have h3:=zaD x.1.g;omega
theorem zcG {d b step:Nat}:∀ {off:Nat} {l:List GV} {k:Nat} (h:k<l.length),(itemsAt d b step off l)[k]? = some ⟨d,b,off+k * step,l[k]⟩
 | off,g :: r,0,_=>by simp [itemsAt]
 | off,g :: r,k+1,h=>by
  simp only [itemsAt,List.getElem?_cons_succ,List.getElem_cons_succ];rw [zcG (l:=r) (by simpa using h)]
  simp only [Nat.succ_mul,Nat.add_assoc,Nat.add_comm step]
theorem zhy {b step b' step':Nat} {off off':Nat} {l l':List GV} {k:Nat} (h:k<l.length) (h':k<l'.length):
  ((itemsAt 0 b step off l).zip (itemsAt 0 b' step' off' l')).take (k+1)=((itemsAt 0 b step off l).zip (itemsAt 0 b' step' off' l')).take k++[(⟨0,b,off+k * step,l[k]⟩,⟨0,b',off'+k * step',l'[k]⟩)]:=by
 have e:((itemsAt 0 b step off l).zip (itemsAt 0 b' step' off' l'))[k]? = some (⟨0,b,off+k * step,l[k]⟩,⟨0,b',off'+k * step',l'[k]⟩):=by
  rw [List.getElem?_zip_eq_some];exact ⟨zcG h,zcG h'⟩
 rw [List.take_add_one,e]
 rfl
open Go Go.RowKit
variable {P:Program} {w:World}
theorem zaJ {ops:Array Oper} {o:Oper} {a:Act} {K:Act->World->Prop} {Q:Exit->Act->World->Prop} {E:Prop} (hgd:o.guard=none) (s x:Operand) (t:TypeId)
  (ho:o.op=.call { callee:=.builtin .append,args:=#[s,x],argTypes:=#[t,t] })
  (base:Nat) (e:TypeId) (i:TypeInfo) (z:Value) (size bytes:Nat) (ht:P.underlying t=some (.slice e)) (hi:P.info? e=some i) (hz:i.zero=some z)
  (hsize:i.size=size) (hby:i.bytes=bytes) (hzs:z.cells.size=size) (hsz:0<size)
  (v:Value) (n:Nat) (xs:List Value) (hs:a.eval s=v) (hown:w.ownsRow base e size v n xs)
  (ad:Addr) (m c:Nat) (news:List Value) (hx:a.eval x=.slice (some ad) m c) (hl:news.length=m * size) (hnews:∀ j u,news[j]? = some u->w.cell? (ad.add j)=some u) (h1:∀ u∈news,u.oneCell'=true)
  (h63:n+m<=maxLen) (hbytes:(n+m) * bytes<=140737488355328) (hbase:base<=w.heap.size)
  (h:∀ v' w',w'.ownsRow base e size v' (n+m) (xs++news)->w.grownBy w' v.ownBlock->(v'.ownBlock=v.ownBlock\/v'.ownBlock=some w.heap.size)->K (a.put o.dst v') w'):
  if Region.wanted o (yielded ops a.tmps)=true then Oper.wp P o a w K Q else E:=by
 have hw:Region.wanted o (yielded ops a.tmps)=true:=by simp [Region.wanted,hgd]
 rw [if_pos hw];obtain ⟨v',w',hrun,h2,h3,_,h5⟩:=run_append_own_at (P:=P) w base t o.type e i z size bytes ht hi hz hsize hby hzs hsz v n xs hown ad m c news hl hnews h1 h63 hbytes hbase;unfold Oper.wp execOp;simp only [ho,resolve,invoke,builtin,Sem.run_bind,Sem.run_pure,Result.andThen_ok,List.map_toArray,List.map_cons,List.map_nil,hs,hx,hrun];exact h v' w' h2 h3 h5
open Go Go.RowKit Go.Sort
variable {F:Fence} {n:Nat} {P:Program} {ops:Array Oper} {C:World->Prop} {md:Region.Mode}
def noDefer (ops:Array Oper):Bool:=ops.all fun o=>match o.op with | .defer _=>false | _=>true
theorem zfU (h:noDefer ops=true) {i:Nat} {o:Oper} (hi:ops[i]? = some o) (c:Call):o.op≠.defer c:=by
 intro e;unfold noDefer at h;rw [Array.all_eq_true] at h;obtain ⟨hlt,rfl⟩:=Array.getElem?_eq_some_iff.1 hi;have:=h i hlt;rw [e] at this;cases this
theorem zfj {o:Oper} {a:Act} {K:Act->Prop} {K':Act->World->Prop} {Q':Exit->Act->World->Prop} {w:World} (hnd:∀ c,o.op≠.defer c) (hw:C w) (h:∀ a w',C w'->K a->K' a w')
  (ha:o.askedIn F P a C) (hh:o.quietIn F n P a C K):o.wpIn F n P a w K' Q':=by
 obtain ⟨v,h1,h2⟩:=hh;have h3:=h1 w hw;unfold Oper.quietAtIn at h3;unfold Oper.wpIn;refine ⟨ha w hw,?_⟩
 rw [Oper.semAt_eq _ _ _ hnd];cases hr:(execOp a.eval o).run P w with
 | halt x w'=>rw [hr] at h3;exact h3.elim
 | ok x w'=>
  rw [hr] at h3;cases x with
  | value u=>obtain ⟨rfl,rfl⟩:=h3;exact h _ _ hw h2
  | skip=>obtain ⟨rfl,rfl⟩:=h3;exact h _ _ hw h2
  | enter f args=>
   obtain ⟨rfl,hd,hc⟩:=h3;exact ⟨hd,hc.mono fun e w'' ⟨he,hw''⟩=>by subst he;exact h _ _ hw'' h2⟩
  | _=>exact h3.elim
theorem zbh {Q:Act->Prop} {Q':Exit->Act->World->Prop} (hnd:noDefer ops=true) (hQ:∀ a w,C w->Q a->Q' .normal a w):∀ (fuel:Nat) (listed:Array Bool) (a:Act) (w:World),C w ->
  wpAnyQIn F n P md ops C Q fuel listed a->wpAnyIn F n P md ops Q' fuel listed a w
 | 0,_,_,_,hw,h=>⟨h.1,hQ _ _ hw h.2⟩
 | fuel+1,listed,a,w,hw,h=>⟨fun h0=>hQ _ _ hw (h.1 h0),fun i hi=>by
  have hq:=h.2 i hi;unfold qOpIn at hq;unfold wpOpIn;cases ho:ops[i]? with
  | none=>simp only [ho] at hq;exact zbh hnd hQ fuel _ _ _ hw hq
  | some o=>
   simp only [ho] at hq;obtain ⟨ha,hq⟩:=hq;by_cases hwant:Region.wanted o (yielded ops a.tmps)=true
   ·simp only [hwant,if_true] at hq ⊢
    exact zfj (zfU hnd ho) hw (fun a' w' hw'=>zbh hnd hQ fuel _ a' w' hw') ha hq
   ·simp only [hwant] at hq ⊢
    exact ⟨ha _ hw,zbh hnd hQ fuel _ _ _ hw hq⟩⟩
theorem zdm {id:Nat} {Q:Exit->Act->World->Prop} {a:Act} {w:World} {l:List Oper} (hm:P.follows .mixedOrders=true) (hnd:noDefer l.toArray=true) (hB:Region.lexB .any l.toArray=true)
  (h:wpQuietIn F n P l.toArray (fun w'=>∃ p:Regrown,w'=grow (redrawn w p.d) p.os) (fun a'=>∀ w',(∃ p:Regrown,w'=grow (redrawn w p.d) p.os)->Q .normal a' w') l a):(Code.region id l.toArray true).wpIn F n P Q a w:=by
 simp only [Region.lexB,Bool.and_eq_true] at hB;refine wpIn_region_any hm (zbh (C:=fun w'=>∃ p:Regrown,w'=grow (redrawn w p.d) p.os) (Q:=fun a'=>∀ w',(∃ p:Regrown,w'=grow (redrawn w p.d) p.os)->Q .normal a' w') hnd (fun _ w' hw' h=>h w' hw') _ _ _ _ ⟨⟨w.drawn+1,#[]⟩,by rw [grow_empty];rfl⟩ ?_)
 have:=wpAnyQIn_lex (F:=F) (n:=n) (C:=fun w'=>∃ p:Regrown,w'=grow (redrawn w p.d) p.os) (md:=.any) hB.1 l 0 (Array.replicate l.toArray.size false) a (by simp) (by simpa using hB.2) h
 simpa using this
theorem zk0 {W:World} {a:Addr} {v:Value} (h:W.cell? a=some v):W.setCell a v=W:=by
 have hsz:(W.setCell a v).heap=W.heap:=by
  apply Array.ext_getElem?
  intro k;by_cases e:k=a.block
  ·subst e
   unfold World.cell? at h;cases ho:W.heap[a.block]? with
   | none=>simp [ho] at h
   | some o=>
    cases o with
    | cells c t fr=>
     simp only [ho] at h;by_cases hs:a.spot.isSome=true
     ·simp [hs] at h
     ·simp only [hs,Bool.false_eq_true,if_false] at h
      have h2:c.setIfInBounds a.off v=c:=by
       apply Array.ext_getElem?
       intro i;rw [Array.getElem?_setIfInBounds];split
       ·rename_i he;subst he;rw [h];simp [(Array.getElem?_eq_some_iff.1 h).1]
       ·rfl
      simp [World.setCell,Array.getElem?_modify,ho,h2]
    | _=>simp [ho] at h
  ·exact Below.heap_setCell _ _ _ _ e
 cases W
 simp only [World.setCell] at hsz ⊢;simp only [hsz]
theorem zdx:∀ (l:List GV) (k:Nat) (h:k<l.length),GV.deeps (l.take (k+1))=max (GV.deeps (l.take k)) (1+l[k].deep)
 | [],_,h=>by simp at h
 | x :: r,0,_=>by simp [GV.deeps]
 | x :: r,k+1,h=>by
  have:=zdx r k (by simpa using h)
  simp only [List.take_succ_cons,GV.deeps,List.getElem_cons_succ,this];omega
theorem zci:∀ (l:List GV) (k:Nat) (h:k<l.length),GV.weights (l.take (k+1))=GV.weights (l.take k)+l[k].weight
 | [],_,h=>by simp at h
 | x :: r,0,_=>by simp [GV.weights]
 | x :: r,k+1,h=>by
  have:=zci r k (by simpa using h)
  simp only [List.take_succ_cons,GV.weights,List.getElem_cons_succ,this];omega
theorem zbb (l:List GV) (k:Nat):GV.weights (l.take k)<=GV.weights l:=by
 induction l generalizing k with
 | nil=>simp
 | cons x r ih=>
  cases k with
  | zero=>simp [GV.weights]
  | succ k=>simp only [List.take_succ_cons,GV.weights];have:=ih k;omega
theorem zaL:∀ (l:List GV) (k:Nat) (h:k<l.length),l[k].size<=GV.sizes l
 | [],_,h=>by simp at h
 | x :: r,0,_=>by simp [GV.sizes]
 | x :: r,k+1,h=>by
  have:=zaL r k (by simpa using h)
  simp only [GV.sizes,List.getElem_cons_succ];omega
theorem zdj (l:List GV) (k:Nat):GV.deeps (l.take k)<=GV.deeps l:=by
 induction l generalizing k with
 | nil=>simp
 | cons x r ih=>
  cases k with
  | zero=>simp [GV.deeps]
  | succ k=>simp only [List.take_succ_cons,GV.deeps];have:=ih k;omega
mutual
theorem zav:∀ (g:GV),g.deep<g.size
 | .mk k n s l ks ov=>by
  have h1:=za6 l;have h2:=za6 ov;simp only [GV.deep,GV.size];omega
theorem za6:∀ (l:List GV),GV.deeps l<=GV.sizes l
 | []=>by simp [GV.deeps]
 | x :: r=>by
  have h1:=zav x;have h2:=za6 r;simp only [GV.deeps,GV.sizes];omega
end
theorem zcK {ok:Nat->Prop} {w:World} {b o:Nat} {l:List GV} (hE:GV.els ok w b 5 o l) (hK:Kind w ok b 29) {k:Nat} (hk:k<l.length):∃ A1 c1 A2 c2,
  (∀ W,Below w.heap.size w W->W.cell? ⟨b,o+k * 5,none⟩=some (.int .u8 l[k].kq)/\W.cell? ⟨b,o+k * 5+1,none⟩=some (.int .i64 l[k].num)/\W.cell? ⟨b,o+k * 5+2,none⟩=some (.string l[k].str) /\
   W.cell? ⟨b,o+k * 5+3,none⟩=some (.slice A1 l[k].il.length c1)/\W.cell? ⟨b,o+k * 5+4,none⟩=some (.slice A2 l[k].vz.length c2)) /\
  (∀ W,Below w.heap.size w W->l[k].val (fun j=>j<w.heap.size) W (.agg #[.int .u8 l[k].kq,.int .i64 l[k].num,.string l[k].str,.slice A1 l[k].il.length c1,.slice A2 l[k].vz.length c2])):=by
 have h:=GV.els_get hE (List.getElem?_eq_getElem hk);obtain ⟨L,O,h0,h1,h2,h3,h4,hL,hO⟩:=GV.at_iff.1 h;obtain ⟨A1,c1,rfl⟩:=zah hL;obtain ⟨A2,c2,rfl⟩:=zag hO;have hc:∀ W,Below w.heap.size w W->∀ j v,w.cell? ⟨b,j,none⟩=some v->W.cell? ⟨b,j,none⟩=some v:=fun W hb j v hv=>(hb.cell (p:=⟨b,j,none⟩) hK.lt).trans hv
 exact ⟨A1,c1,A2,c2,fun W hb=>⟨hc W hb _ _ h0,hc W hb _ _ h1,hc W hb _ _ h2,hc W hb _ _ h3,hc W hb _ _ h4⟩,
  fun W hb=>⟨_,_,rfl,hL.keep (fun j _ hj=>hb.block j hj) (fun j _ hj=>hj),hO.keep (fun j _ hj=>hb.block j hj) (fun j _ hj=>hj)⟩⟩
theorem zbV {ok:Nat->Prop} {w b o ks} {l:List GV} (hks:KeysAt w b o ks) (hE:GV.els ok w b 6 (o+1) l) (hK:Kind w ok b 56) {k:Nat} (hk:k<l.length) (hk':k<ks.length):∃ A1 c1 A2 c2,
  (∀ W,Below w.heap.size w W->W.cell? ⟨b,o+k * 6,none⟩=some (.string ks[k])/\W.cell? ⟨b,o+k * 6+1,none⟩=some (.int .u8 l[k].kq)/\W.cell? ⟨b,o+k * 6+1+1,none⟩=some (.int .i64 l[k].num)/\W.cell? ⟨b,o+k * 6+1+2,none⟩=some (.string l[k].str) /\
   W.cell? ⟨b,o+k * 6+1+3,none⟩=some (.slice A1 l[k].il.length c1)/\W.cell? ⟨b,o+k * 6+1+4,none⟩=some (.slice A2 l[k].vz.length c2)) /\
  (∀ W,Below w.heap.size w W->l[k].val (fun j=>j<w.heap.size) W (.agg #[.int .u8 l[k].kq,.int .i64 l[k].num,.string l[k].str,.slice A1 l[k].il.length c1,.slice A2 l[k].vz.length c2])):=by
 have h:=GV.els_get hE (List.getElem?_eq_getElem hk);have hkey:=hks.get (List.getElem?_eq_getElem hk');rw [show o+1+k * 6=o+k * 6+1 by omega] at h
 obtain ⟨L,O,h0,h1,h2,h3,h4,hL,hO⟩:=GV.at_iff.1 h;obtain ⟨A1,c1,rfl⟩:=zah hL;obtain ⟨A2,c2,rfl⟩:=zag hO;have hc:∀ W,Below w.heap.size w W->∀ j v,w.cell? ⟨b,j,none⟩=some v->W.cell? ⟨b,j,none⟩=some v:=fun W hb j v hv=>(hb.cell (p:=⟨b,j,none⟩) hK.lt).trans hv
 exact ⟨A1,c1,A2,c2,fun W hb=>⟨hc W hb _ _ hkey,hc W hb _ _ h0,hc W hb _ _ h1,hc W hb _ _ h2,hc W hb _ _ h3,hc W hb _ _ h4⟩,
  fun W hb=>⟨_,_,rfl,hL.keep (fun j _ hj=>hb.block j hj) (fun j _ hj=>hj),hO.keep (fun j _ hj=>hb.block j hj) (fun j _ hj=>hj)⟩⟩
def DeepRel (W0:World) (l:List GV) (z:Nat) (n i:Value) (wr:World):Prop:=∃ k:Nat,i=.int .i64 k/\k<=l.length/\n=.int .i64 (max z (GV.deeps (l.take k)):Nat)/\Below W0.heap.size W0 wr
theorem zbr (F:Nat):∀ (ok:Nat->Prop) (v:Value) (g:GV) (w:World),g.size<=F->g.val ok w v->g.size<=1000000000 ->
  Calls Tryz.prog 71 #[v] w fun e w'=>e=.returned (.int .i64 g.deep)/\Below w.heap.size w w':=by
 induction F with
 | zero=>intro ok v g w hF;cases g with | mk k n s l ks ov=>simp only [GV.size] at hF;omega
 | succ F ih=>
  intro ok v g w hF hv hsz;obtain ⟨L,O,rfl,hL,hO⟩:=hv;have hkl:=hO.1;obtain ⟨A,c,rfl,hc1,hc2,hf⟩:=hL.form;obtain ⟨A',c',rfl,hc1',hc2',hf'⟩:=hO.form;have hge:=zaD g;have hde:g.deep=max (GV.deeps g.il) (GV.deeps g.vz):=by cases g with | mk k n s l ks ov=>simp only [GV.deep,GV.il,GV.vz]
  have hd1:=za6 g.il;have hd2:=za6 g.vz;have hln1:=zaq g.il;have hln2:=zaq g.vz;rw [hde];unfold maxLen at hc2 hc2';generalize g.il=l at *;generalize g.vz=ov at *;generalize g.keys=ks at *;generalize g.kq=gk;generalize g.num=gn;generalize g.str=gs;have IH:=hid ih;have HF:=hid hf;have HF':=hid hf';have HSZ:=hid (And.intro hF (And.intro hsz hge));have HDE:=hid (And.intro hd1 hd2);have hll:l.length<=1000000000:=by omega
  have hlo:ov.length<=1000000000:=by omega
  have HKL:=hid hkl;clear ih hf hf' hF hsz hge hL hO hde hd1 hd2 hln1 hln2 hkl;go_enter Tryz.func71,Tryz.ntmps71
  go_wp2
  have hB:Below w.heap.size w (w.alloc (.cells #[Value.int IntKind.u8 gk,Value.int IntKind.i64 gn,Value.string gs,Value.slice A l.length c,Value.slice A' ov.length c'] 29)):=(Below.refl _ _).alloc (Nat.le_refl _) _;have hW:=Whole.new w 29 #[Value.int IntKind.u8 gk,Value.int IntKind.i64 gn,Value.string gs,Value.slice A l.length c,Value.slice A' ov.length c'];generalize (w.alloc (.cells #[Value.int IntKind.u8 gk,Value.int IntKind.i64 gn,Value.string gs,Value.slice A l.length c,Value.slice A' ov.length c'] 29))=W0 at hB hW ⊢;have HW:=hid hW;have HB:=hid hB;clear hW hB
  go_loopw [3,4] (DeepRel W0 l 0) (fun _ i _=>l.length - (intOf i).toNat)
  case atStart=>exact ⟨0,rfl,Nat.zero_le _,by simp [GV.deeps],Below.refl _ _⟩
  case round=>
   obtain ⟨k,rfl,hk,rfl,hr⟩:=hrel;have hx3:wr.cell? ⟨w.heap.size,3,none⟩=some (.slice A l.length c):=((HW.out.below hr HW.out.lt).cell 3).trans rfl;have hwr:Below w.heap.size w wr:=HB.out.trans (hr.mono HB.out.size);have HR:=hid hr;clear hr;have hd0:max 0 (GV.deeps (l.take k))<=1000000000:=by have:=zdj l k;have:=HDE.out.1;have:=HSZ.out;omega
   by_cases hlt:k<l.length
   ·obtain ⟨b,o,rfl,hK,hE⟩:=HF.out (by intro e;rw [e] at hlt;simp at hlt)
    obtain ⟨A1,c1,A2,c2,hcells,hval⟩:=zcK hE hK hlt;obtain ⟨q0,q1,q2,q3,q4⟩:=hcells wr hwr;have hz:=hval wr hwr;have hs:=zaL l k hlt;have hs2:=HSZ.out;have hs3:=zav l[k];have hxd:l[k].deep<=1000000000:=by omega
    have hcall:=IH.out _ _ l[k] wr (by omega) hz (by omega)
    have HT:=hid (zdx l k hlt);have HC:=hid hcall;clear hcells hval hz hs hs2 hs3 hcall hE hK;generalize l[k]=x at *;generalize hm:max 0 (GV.deeps (l.take k))=m at *;have HM:=hid hm;clear hm
    go_wp2_with (go_at_call 71;refine HC.out.mono ?_;rintro e W1 ⟨rfl,hb1⟩;have HB1:=hid hb1;clear hb1)
    go_roundw
    case rel=>exact ⟨k+1,by go_simp,by omega,by have h1:=HT.out;have h2:=HM.out;congr 1;rw [h1];omega,HR.out.trans (HB1.out.mono HR.out.size)⟩
    case measure=>simp [intOf];omega
   ·have hkl:k=l.length:=by omega
    subst hkl;rw [List.take_length,Nat.zero_max] at *;generalize hz:GV.deeps l=z at *;have HZ:=hid hz;clear hz;go_wp2
    clear hx3 hwr
    go_loopw [3,5] (DeepRel W0 ov z) (fun _ i _=>ov.length - (intOf i).toNat)
    case atStart=>exact ⟨0,rfl,Nat.zero_le _,by simp [GV.deeps],HR.out⟩
    case round=>
     clear HR;obtain ⟨k,rfl,hk,rfl,hr⟩:=hrel;have hx4:wr.cell? ⟨w.heap.size,4,none⟩=some (.slice A' ov.length c'):=((HW.out.below hr HW.out.lt).cell 4).trans rfl;have hwr:Below w.heap.size w wr:=HB.out.trans (hr.mono HB.out.size);have HR:=hid hr;clear hr;have hd0:max z (GV.deeps (ov.take k))<=1000000000:=by have:=zdj ov k;have h1:=HDE.out;have:=HSZ.out;have:=HZ.out;omega
     by_cases hlt:k<ov.length
     ·obtain ⟨b,o,rfl,hK,hks,hE⟩:=HF'.out (by intro e;rw [e] at hlt;simp at hlt)
      obtain ⟨A1,c1,A2,c2,hcells,hval⟩:=zbV hks hE hK hlt (by have:=HKL.out;omega)
      obtain ⟨_,q0,q1,q2,q3,q4⟩:=hcells wr hwr;have hz:=hval wr hwr;have hs:=zaL ov k hlt;have hs2:=HSZ.out;have hs3:=zav ov[k];have hxd:ov[k].deep<=1000000000:=by omega
      have hcall:=IH.out _ _ ov[k] wr (by omega) hz (by omega)
      have HT:=hid (zdx ov k hlt);have HC:=hid hcall;clear hcells hval hz hs hs2 hs3 hcall hE hK hks;generalize ov[k]=x at *;generalize hm:max z (GV.deeps (ov.take k))=m at *;have HM:=hid hm;clear hm
      go_wp2_with (go_at_call 71;refine HC.out.mono ?_;rintro e W1 ⟨rfl,hb1⟩;have HB1:=hid hb1;clear hb1)
      go_roundw
      case rel=>exact ⟨k+1,by go_simp,by omega,by have h1:=HT.out;have h2:=HM.out;congr 1;rw [h1];omega,HR.out.trans (HB1.out.mono HR.out.size)⟩
      case measure=>simp [intOf];omega
     ·have hkl:k=ov.length:=by omega
      subst hkl;rw [List.take_length] at *;go_wp2
      refine bodyPost_ret (v:=.int .i64 (max z (GV.deeps ov):Nat)) (by simp [results,Tryz.results71,go_sem]) rfl ?_
      exact ⟨by rw [HZ.out],hwr⟩
open Go Go.RowKit
def Away (B:Nat) (vL vO:Value) (k:Nat):Prop:=B<=k/\vL.ownBlock≠some k/\vO.ownBlock≠some k
structure Rows (B:Nat) (W0:World) (l:List GV) (ks:List ByteArray) (ov:List GV) (n m:Nat) (vL vO:Value) (xs ys:List Value) (wr:World):Prop where
 below:Below B W0 wr
 size:B<=wr.heap.size
 ownL:wr.ownsRow B 29 5 vL n xs
 ownO:wr.ownsRow B 56 6 vO m ys
 rowL:RowL (Away B vL vO) wr (l.take n) xs
 rowO:RowO (Away B vL vO) wr (ks.take m) (ov.take m) ys
section
variable {B:Nat} {W0 wr:World} {l:List GV} {ks:List ByteArray} {ov:List GV} {n m:Nat} {vL vO:Value} {xs ys:List Value}
theorem Rows.start (W0:World) (l:List GV) (ks:List ByteArray) (ov:List GV):Rows W0.heap.size W0 l ks ov 0 0 (.slice none 0 0) (.slice none 0 0) [] [] W0:=
 ⟨Below.refl _ _,Nat.le_refl _,World.ownsRow_nil _ _ _ _,World.ownsRow_nil _ _ _ _,by simp [RowL],by simp [RowO]⟩
theorem Rows.step (h:Rows B W0 l ks ov n m vL vO xs ys wr) {W:World} (hb:Below wr.heap.size wr W):Rows B W0 l ks ov n m vL vO xs ys W:=
 ⟨h.below.trans (hb.mono h.size),Nat.le_trans h.size hb.size,zaz h.ownL hb,zaz h.ownO hb,h.rowL.keep (.of_below hb) (fun _ h _=>h),h.rowO.keep (.of_below hb) (fun _ h _=>h)⟩
theorem Rows.away {W:World} (h:Rows B W0 l ks ov n m vL vO xs ys W) {k:Nat} (hk:W.heap.size<=k):Away B vL vO k:=
 ⟨Nat.le_trans h.size hk,fun e=>by have:=(h.ownL.lt k e).2;omega,fun e=>by have:=(h.ownO.lt k e).2;omega⟩
theorem zjZ {W:World} {v v':Value} (hat:v'.ownBlock=v.ownBlock\/v'.ownBlock=some W.heap.size) {k:Nat} (h1:v.ownBlock≠some k) (h2:k<W.heap.size):v'.ownBlock≠some k:=by
 rcases hat with e | e
 ·rwa [e]
 ·rw [e];intro h;cases h;omega
theorem Rows.addL (h:Rows B W0 l ks ov n m vL vO xs ys wr) {W1 W3:World} {v':Value} {g:GV} {L O:Value} {o:Obj} (hg:l[n]? = some g) (hb1:Below wr.heap.size wr W1)
  (hL:LstV (fun k=>wr.heap.size<=k) W1 L g.il) (hO:ObjV (fun k=>wr.heap.size<=k) W1 O g.keys g.vz)
  (hown:W3.ownsRow B 29 5 v' (n+1) (xs++chunk g L O)) (hgrow:(W1.alloc o).grownBy W3 vL.ownBlock) (hat:v'.ownBlock=vL.ownBlock\/v'.ownBlock=some (W1.alloc o).heap.size):
  Rows B W0 l ks ov (n+1) m v' vO (xs++chunk g L O) ys W3:=by
 have h2:=(h.step hb1).step ((Below.refl _ W1).alloc (Nat.le_refl _) o);have hF:From (Away B vL vO) (W1.alloc o) W3:=fun k hk hlt=>hgrow.block k hlt (fun e=>hk.2.1 e.symm)
 have hsub:∀ k,Away B vL vO k->k<(W1.alloc o).heap.size->Away B v' vO k:=fun k hk hlt=>⟨hk.1,zjZ hat hk.2.1 hlt,hk.2.2⟩
 have hal:From (fun k=>wr.heap.size<=k) W1 (W1.alloc o):=fun k _ hk=>Below.heap_alloc _ _ _ hk
 have htk:l.take (n+1)=l.take n++[g]:=by rw [List.take_add_one,hg];rfl
 refine ⟨h2.below.grown hgrow h2.size (fun k hk=>(h2.ownL.lt k hk).1),Nat.le_trans h2.size hgrow.size,hown,h2.ownO.kept hgrow (zb5 h2.ownO h2.ownL (by decide)),?_,h2.rowO.keep hF hsub⟩
 rw [htk];exact (RowL.snoc (hL.keep hal fun k hk _=>h.away hk) (hO.keep hal fun k hk _=>h.away hk) h2.rowL).keep hF hsub
theorem Rows.addO (h:Rows B W0 l ks ov n m vL vO xs ys wr) {W1 W3:World} {v':Value} {g:GV} {kk:ByteArray} {L O:Value} {o:Obj} (hg:ov[m]? = some g) (hkk:ks[m]? = some kk) (hb1:Below wr.heap.size wr W1)
  (hL:LstV (fun k=>wr.heap.size<=k) W1 L g.il) (hO:ObjV (fun k=>wr.heap.size<=k) W1 O g.keys g.vz)
  (hown:W3.ownsRow B 56 6 v' (m+1) (ys++(.string kk :: chunk g L O))) (hgrow:(W1.alloc o).grownBy W3 vO.ownBlock) (hat:v'.ownBlock=vO.ownBlock\/v'.ownBlock=some (W1.alloc o).heap.size):
  Rows B W0 l ks ov n (m+1) vL v' xs (ys++(.string kk :: chunk g L O)) W3:=by
 have h2:=(h.step hb1).step ((Below.refl _ W1).alloc (Nat.le_refl _) o);have hF:From (Away B vL vO) (W1.alloc o) W3:=fun k hk hlt=>hgrow.block k hlt (fun e=>hk.2.2 e.symm)
 have hsub:∀ k,Away B vL vO k->k<(W1.alloc o).heap.size->Away B vL v' k:=fun k hk hlt=>⟨hk.1,hk.2.1,zjZ hat hk.2.2 hlt⟩
 have hal:From (fun k=>wr.heap.size<=k) W1 (W1.alloc o):=fun k _ hk=>Below.heap_alloc _ _ _ hk
 have htk:ov.take (m+1)=ov.take m++[g]:=by rw [List.take_add_one,hg];rfl
 have htk':ks.take (m+1)=ks.take m++[kk]:=by rw [List.take_add_one,hkk];rfl
 refine ⟨h2.below.grown hgrow h2.size (fun k hk=>(h2.ownO.lt k hk).1),Nat.le_trans h2.size hgrow.size,h2.ownL.kept hgrow (zb5 h2.ownL h2.ownO (by decide)),hown,h2.rowL.keep hF hsub,?_⟩
 rw [htk,htk'];exact (RowO.snoc (hL.keep hal fun k hk _=>h.away hk) (hO.keep hal fun k hk _=>h.away hk) h2.rowO).keep hF hsub
theorem Rows.done (h:Rows B W0 l ks ov l.length ov.length vL vO xs ys wr) (hkl:ks.length=ov.length) {W:World} (hW:∀ k,B<=k->k<wr.heap.size->W.heap[k]? = wr.heap[k]?) {lo:Nat} (hlo:lo<=B):
  LstV (fun k=>lo<=k) W vL l/\ObjV (fun k=>lo<=k) W vO ks ov:=by
 have hF:From (fun k=>B<=k) wr W:=fun k hk hlt=>hW k hk hlt
 have e1:=h.rowL;have e2:=h.rowO;rw [List.take_length] at e1;rw [List.take_length,<- hkl,List.take_length] at e2;have o2:=h.ownO;exact ⟨LstV.keep (ok:=fun k=>B<=k) hF (fun k hk _=>Nat.le_trans hlo hk) (LstV.of_own h.ownL (e1.keep (From.refl _ _) fun k hk _=>hk.1) fun k hk=>(h.ownL.lt k hk).1),
  ObjV.keep (ok:=fun k=>B<=k) hF (fun k hk _=>Nat.le_trans hlo hk) (ObjV.of_own h.ownO (e2.keep (From.refl _ _) fun k hk _=>hk.1) fun k hk=>(h.ownO.lt k hk).1)⟩
end
open Go Go.RowKit
theorem zhz (k1 k2:ByteArray) (a1 a2 a3 b1 b2 b3:Value) (A1 A2 B1 B2:Option Addr) (n1 c1 n2 c2 m1 d1 m2 d2:Nat) (w:World):
  Calls Tryz.prog 131 #[.agg #[.string k1,a1,a2,a3,.slice A1 n1 c1,.slice A2 n2 c2],.agg #[.string k2,b1,b2,b3,.slice B1 m1 d1,.slice B2 m2 d2]] w fun e w'=>e=.returned (.bool (k1.toList == k2.toList))/\Below w.heap.size w w':=by
 go_enter Tryz.func131,Tryz.ntmps131
 go_wp2
 go_ret
 exact ⟨rfl,((Below.refl _ _).alloc (Nat.le_refl _) _).alloc (by simp) _⟩
structure SixAt (W:World) (b off:Nat) (k:ByteArray) (kd nm:Int) (st:ByteArray) (A1 A2:Option Addr) (n1 d1 n2 d2:Nat):Prop where
 c0:W.cell? ⟨b,off,none⟩=some (.string k)
 c1:W.cell? ⟨b,off+1,none⟩=some (.int .u8 kd)
 c2:W.cell? ⟨b,off+2,none⟩=some (.int .i64 nm)
 c3:W.cell? ⟨b,off+3,none⟩=some (.string st)
 c4:W.cell? ⟨b,off+4,none⟩=some (.slice A1 n1 d1)
 c5:W.cell? ⟨b,off+5,none⟩=some (.slice A2 n2 d2)
theorem zlN {ok:Nat->Prop} {W b o ks} {ov:List GV} {k:Nat} (hks:KeysAt W b o ks) (hel:GV.els ok W b 6 (o+1) ov) (hk:k<ks.length) (hv:k<ov.length):
  ∃ kd nm st A1 A2 n1 c1 n2 c2,SixAt W b (o+k * 6) ks[k] kd nm st A1 A2 n1 c1 n2 c2:=by
 have h:=GV.els_get hel (List.getElem?_eq_getElem hv);rw [show o+1+k * 6=o+k * 6+1 by omega] at h
 obtain ⟨L,O,h0,h1,h2,h3,h4,hL,hO⟩:=GV.at_iff.1 h;obtain ⟨A1,c1,rfl⟩:=zah hL;obtain ⟨A2,c2,rfl⟩:=zag hO;exact ⟨_,_,_,_,_,_,_,_,_,hks.get (List.getElem?_eq_getElem hk),h0,h1,h2,h3,h4⟩
theorem SixAt.below {W W':World} {b off B:Nat} {k:ByteArray} {kd nm:Int} {st:ByteArray} {A1 A2:Option Addr} {n1 c1 n2 c2:Nat} (h:SixAt W b off k kd nm st A1 A2 n1 c1 n2 c2) (hb:Below B W W') (hB:b<B):SixAt W' b off k kd nm st A1 A2 n1 c1 n2 c2:=by
 have e:∀ j,W'.cell? ⟨b,j,none⟩=W.cell? ⟨b,j,none⟩:=fun j=>hb.cell (p:=⟨b,j,none⟩) hB
 exact ⟨(e _).trans h.c0,(e _).trans h.c1,(e _).trans h.c2,(e _).trans h.c3,(e _).trans h.c4,(e _).trans h.c5⟩
def letters (ks:List ByteArray):List (List UInt8):=ks.map (·.toList)
def EqRel (w:World) (ks kt:List ByteArray) (i:Value) (wr:World):Prop:=∃ k:Nat,i=.int .i64 k/\k<=ks.length/\letters (ks.take k)=letters (kt.take k)/\Below w.heap.size w wr
def EqPost (P:Prop) (w:World) (e:Ending) (w':World):Prop:=∃ b:Bool,e=.returned (.bool b)/\(b=true↔P)/\Below w.heap.size w w'
theorem zid (ok) (O O':Value) (ks kt ov ow w) (hO:ObjV ok w O ks ov) (hO':ObjV ok w O' kt ow):
  Calls Tryz.prog 130 #[O,O',.func (.func 131) #[] #[]] w (EqPost (letters ks=letters kt) w):=by
 have hkl:=hO.1;have hkl':=hO'.1;obtain ⟨A,c,rfl,hc1,hc2,hf⟩:=hO.form;obtain ⟨A',c',rfl,hc1',hc2',hf'⟩:=hO'.form;clear hO hO';unfold maxLen at hc2 hc2';have HL:=hid hkl;have HL':=hid hkl';have HF:=hid hf;have HF':=hid hf';clear hkl hkl' hf hf';by_cases hlen:ov.length=ow.length
 ·have hz:(((ov.length:Int)) != (ow.length:Int))=false:=by simp [hlen]
  have HLen:=hid hlen;clear hlen;go_enter Tryz.func130,Tryz.ntmps130
  go_wp2
  go_loopw [17] (EqRel w ks kt) (fun i _=>ov.length - (intOf i).toNat)
  case atStart=>exact ⟨0,rfl,Nat.zero_le _,by simp,Below.refl _ _⟩
  case round=>
   obtain ⟨k,rfl,hk,heq,hB⟩:=hrel;have HEQ:=hid heq;clear heq;by_cases hlt:k<ks.length
   ·have h1:k<ov.length:=by have:=HL.out;omega
    have h2:k<ow.length:=by have:=HLen.out;omega
    have h3:k<kt.length:=by have:=HL'.out;omega
    obtain ⟨b,o,rfl,hK,hks,hel⟩:=HF.out (by intro e;rw [e] at h1;simp at h1)
    obtain ⟨b',o',rfl,hK',hks',hel'⟩:=HF'.out (by intro e;rw [e] at h2;simp at h2)
    obtain ⟨kd,nm,st,A1,A2,n1,d1,n2,d2,hs⟩:=zlN hks hel hlt h1;obtain ⟨kd',nm',st',A1',A2',n1',d1',n2',d2',hs'⟩:=zlN hks' hel' h3 h2;have hs1:=hs.below hB hK.lt;have hs2:=hs'.below hB hK'.lt;have c0:=hs1.c0;have c1:=hs1.c1;have c2:=hs1.c2;have c3:=hs1.c3;have c4:=hs1.c4;have c5:=hs1.c5;have g0:=fun (o:Obj)=>zab o hs2.c0
    have g1:=fun (o:Obj)=>zab o hs2.c1
    have g2:=fun (o:Obj)=>zab o hs2.c2
    have g3:=fun (o:Obj)=>zab o hs2.c3
    have g4:=fun (o:Obj)=>zab o hs2.c4
    have g5:=fun (o:Obj)=>zab o hs2.c5
    have HG:=hid (List.getElem?_eq_getElem hlt);have HG':=hid (List.getElem?_eq_getElem h3);have HTK:Hid (ks.take (k+1)=ks.take k++[ks[k]]/\kt.take (k+1)=kt.take k++[kt[k]]):=⟨List.take_succ_eq_append_getElem hlt,List.take_succ_eq_append_getElem h3⟩;clear hs hs' hs1 hs2 hks hel hks' hel' hK hK';generalize ks[k]=x at *;generalize kt[k]=y at *;have hbnd:∀ (X Y:Obj) (W1:World),Below ((wr.alloc X).alloc Y).heap.size ((wr.alloc X).alloc Y) W1->Below w.heap.size w W1:=fun X Y W1 h=>
     ((hB.alloc hB.size _).alloc (by have:=hB.size;simp;omega) _).trans (h.mono (by have:=hB.size;simp;omega))
    have HBN:=hid hbnd;clear hbnd;by_cases hxy:x.toList=y.toList
    ·have hbe:(x.toList == y.toList)=true:=by simp [hxy]
     have HXY:=hid hxy;clear hxy
     go_wp2_with (go_at_call 131;refine (zhz _ _ _ _ _ _ _ _ _ _ _ _ _ _ _ _ _ _ _ _ _).mono ?_;rintro e W1 ⟨rfl,hb1⟩)
     go_roundw
     case rel=>exact ⟨k+1,by go_num,by omega,by
      rw [HTK.out.1,HTK.out.2];have h1:=HEQ.out;unfold letters at h1 ⊢;rw [List.map_append,List.map_append,h1];simp [HXY.out],HBN.out _ _ _ hb1⟩
     case measure=>simp [intOf];omega
    ·have hbe:(x.toList == y.toList)=false:=by simpa using hxy
     have HXY:=hid hxy;clear hxy
     go_wp2_with (go_at_call 131;refine (zhz _ _ _ _ _ _ _ _ _ _ _ _ _ _ _ _ _ _ _ _ _).mono ?_;rintro e W1 ⟨rfl,hb1⟩)
     go_ret
     refine ⟨false,rfl,⟨(fun h=>by cases h),fun h=>?_⟩,HBN.out _ _ _ hb1⟩
     have h1:=congrArg (fun l=>l[k]?) h
     simp only [letters,List.getElem?_map,HG.out,HG'.out,Option.map_some,Option.some.injEq] at h1;exact absurd h1 HXY.out
   ·have hke:k=ks.length:=by omega
    have hnl:¬ k<ov.length:=by have:=HL.out;omega
    have HKE:=hid hke;clear hke;go_wp2
    go_ret
    refine ⟨true,rfl,⟨fun _=>?_,fun _=>rfl⟩,hB⟩
    have h1:=HEQ.out;have h2:=HKE.out;have h3:=HL.out;have h4:=HL'.out;have h5:=HLen.out;rw [h2,List.take_length,List.take_of_length_le (by omega)] at h1
    exact h1
 ·have hz:(((ov.length:Int)) != (ow.length:Int))=true:=by simp;omega
  have HLen:=hid hlen;clear hlen;go_enter Tryz.func130,Tryz.ntmps130
  go_wp2
  go_ret
  refine ⟨false,rfl,⟨(fun h=>by cases h),fun h=>?_⟩,Below.refl _ _⟩
  have h1:=congrArg List.length h;simp only [letters,List.length_map] at h1;have h3:=HL.out;have h4:=HL'.out;exact absurd (by omega) HLen.out
theorem zbY {B:Nat} {a w:World} (h:Below B a w) (n:Nat):Below B a (w.drewN n):=⟨h.os,h.tape,h.output,h.size,h.block⟩
def SameSelf (g h:GV):Prop:=g.kq=h.kq/\g.num=h.num/\g.str.toList=h.str.toList/\g.il.length=h.il.length/\letters g.keys=letters h.keys
structure ValAt (W:World) (b off:Nat) (g:GV) (AL AO:Option Addr) (cL cO:Nat):Prop where
 c0:W.cell? ⟨b,off,none⟩=some (.int .u8 g.kq)
 c1:W.cell? ⟨b,off+1,none⟩=some (.int .i64 g.num)
 c2:W.cell? ⟨b,off+2,none⟩=some (.string g.str)
 c3:W.cell? ⟨b,off+3,none⟩=some (.slice AL g.il.length cL)
 c4:W.cell? ⟨b,off+4,none⟩=some (.slice AO g.vz.length cO)
theorem zhh (ok:Nat->Prop) (b off b' off':Nat) (g h:GV) (AL AO AL' AO':Option Addr) (cL cO cL' cO':Nat) (w:World) (hg:ValAt w b off g AL AO cL cO) (hh:ValAt w b' off' h AL' AO' cL' cO')
  (hO:ObjV ok w (.slice AO g.vz.length cO) g.keys g.vz) (hO':ObjV ok w (.slice AO' h.vz.length cO') h.keys h.vz):
  Calls Tryz.prog 123 #[.pointer (some ⟨b,off,none⟩),.pointer (some ⟨b',off',none⟩)] w (EqPost (SameSelf g h) w):=by
 obtain ⟨a0,a1,a2,a3,a4⟩:=hg;obtain ⟨e0,e1,e2,e3,e4⟩:=hh;have hP:∀ {P:Prop},P↔P:=Iff.rfl;clear hP;have HSS:Hid (SameSelf g h↔g.kq=h.kq/\g.num=h.num/\g.str.toList=h.str.toList/\g.il.length=h.il.length/\letters g.keys=letters h.keys):=Iff.rfl;generalize SameSelf g h=SS at *;have hcall:=fun (d:Nat) (os:Array Obj)=>zid ok (.slice AO g.vz.length cO) (.slice AO' h.vz.length cO') g.keys h.keys g.vz h.vz (Go.Sort.grow (redrawn w d) os) (hO.keep (From.of_below (below_regrown w d os)) (fun _ h _=>h)) (hO'.keep (From.of_below (below_regrown w d os)) (fun _ h _=>h))
 generalize g.kq=gk at *;generalize h.kq=hk at *;generalize g.num=gn at *;generalize h.num=hn at *;generalize g.str=gs at *;generalize h.str=hs at *;generalize g.keys=gy at *;generalize h.keys=hy at *;generalize g.il.length=gl at *;generalize h.il.length=hl at *;generalize hgo:g.vz.length=go at *;generalize hho:h.vz.length=ho at *;have HC:=hid hcall;clear hcall hO hO' hgo hho;by_cases q0:gk=hk
 ·subst q0
  by_cases q1:gn=hn
  ·subst q1
   by_cases q2:gs.toList=hs.toList
   ·have z2:(gs.toList == hs.toList)=true:=by simp [q2]
    have Q2:=hid q2;clear q2;by_cases q3:gl=hl
    ·subst q3
     have z3:((gl:Int) == (gl:Int))=true:=by simp
     have k0:=fun (d:Nat) (os:Array Obj)=>cell_regrown a0 d os
     have k1:=fun (d:Nat) (os:Array Obj)=>cell_regrown a1 d os
     have k2:=fun (d:Nat) (os:Array Obj)=>cell_regrown a2 d os
     have k3:=fun (d:Nat) (os:Array Obj)=>cell_regrown a3 d os
     have k4:=fun (d:Nat) (os:Array Obj)=>cell_regrown a4 d os
     have l0:=fun (d:Nat) (os:Array Obj)=>cell_regrown e0 d os
     have l1:=fun (d:Nat) (os:Array Obj)=>cell_regrown e1 d os
     have l2:=fun (d:Nat) (os:Array Obj)=>cell_regrown e2 d os
     have l3:=fun (d:Nat) (os:Array Obj)=>cell_regrown e3 d os
     have l4:=fun (d:Nat) (os:Array Obj)=>cell_regrown e4 d os
     have hq:∃ bb:Bool,(bb=true↔letters gy=letters hy):=⟨decide (letters gy=letters hy),by simp⟩
     obtain ⟨bb,hbb⟩:=hq;have hcall2:∀ d os,Calls Tryz.prog 130 #[.slice AO go cO,.slice AO' ho cO',.func (.func 131) #[] #[]] (Go.Sort.grow (redrawn w d) os) fun e w''=>e=.returned (.bool bb)/\∃ p:Regrown,w''=Go.Sort.grow (redrawn w p.d) p.os:=fun d os=>
      Calls.regrown_of ((HC.out d os).mono fun e w'' h=>by
       obtain ⟨b2,rfl,hb2,hbel⟩:=h;have:b2=bb:=by
        rw [Bool.eq_iff_iff,hb2,hbb]
       subst this;exact ⟨rfl,hbel⟩)
     have HBB:=hid hbb;clear hbb;go_enter Tryz.func123,Tryz.ntmps123
     go_wp2
     refine wp_region_quiet_below (by kernel_rfl) (by kernel_rfl) ?_
     repeat (quiet_step (exact hcall2 _ _))
     refine wpQuiet_nil ?_
     intro _ hw';obtain ⟨⟨dq,osq⟩,hw''⟩:=hw';subst hw'';go_wp2
     go_ret
     exact ⟨bb,rfl,by rw [HBB.out,HSS.out];simp [Q2.out],below_regrown w dq osq⟩
    ·have z3:((gl:Int) == (hl:Int))=false:=by simp;omega
     have z3':(gl == hl)=false:=by simpa using q3
     have Q3:=hid q3;clear q3;go_enter Tryz.func123,Tryz.ntmps123
     go_wp2
     go_quiet (fail)
     go_wp2
     go_ret
     exact ⟨false,rfl,⟨(fun h=>by cases h),fun h=>absurd (HSS.out.1 h).2.2.2.1 Q3.out⟩,zbY (Below.refl _ _) _⟩
   ·have z2:(gs.toList == hs.toList)=false:=by simpa using q2
    have Q2:=hid q2;clear q2;go_enter Tryz.func123,Tryz.ntmps123
    go_wp2
    go_quiet (fail)
    go_wp2
    go_ret
    exact ⟨false,rfl,⟨(fun h=>by cases h),fun h=>absurd (HSS.out.1 h).2.2.1 Q2.out⟩,zbY (Below.refl _ _) _⟩
  ·have z1:(gn == hn)=false:=by simpa using q1
   have Q1:=hid q1;clear q1;go_enter Tryz.func123,Tryz.ntmps123
   go_wp2
   go_quiet (fail)
   go_wp2
   go_ret
   exact ⟨false,rfl,⟨(fun h=>by cases h),fun h=>absurd (HSS.out.1 h).2.1 Q1.out⟩,zbY (Below.refl _ _) _⟩
 ·have z0:(gk == hk)=false:=by simpa using q0
  have Q0:=hid q0;clear q0;go_enter Tryz.func123,Tryz.ntmps123
  go_wp2
  go_quiet (fail)
  go_wp2
  go_ret
  exact ⟨false,rfl,⟨(fun h=>by cases h),fun h=>absurd (HSS.out.1 h).1 Q0.out⟩,zbY (Below.refl _ _) _⟩
end Go.Proofs.YtmmgdkpkcoopgaaGreatDoor
