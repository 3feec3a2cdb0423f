/- A component that may be done to a value: what One's answer is; the small laws that its walk wants. -/
import Derived.Test.YtamlaknfakaanaaGreatDoorR35
import Derived.Test.YtamlaknfakaanaaGreatDoorR36
import Derived.Test.YtamlaknfakaanaaGreatDoorR37
namespace Go.Proofs.YtamlaknfakaanaaGreatDoor
open Go Go.RowKit
set_option linter.unusedVariables false
set_option linter.unusedSimpArgs false
theorem get_front (q:List GStep):∀ (p:List GStep) (g h:GV),g.get (p++q)=some h→∃ m,g.get p=some m
 | [],g,_,_=>⟨g,rfl⟩
 | s :: r,g,h,e=>by
  simp only [List.cons_append,GV.get] at e ⊢
  cases hi:g.inside s with
  | none=>rw [hi] at e;cases e
  | some y=>
   rw [hi] at e
   simp only [Option.bind_some] at e ⊢
   exact get_front q r y h e
theorem inside_sound {g h:GV} {s:GStep} (hg:g.Sound) (hi:g.inside s=some h):h.Sound:=by
 rcases inside_cases hi with ⟨_,_,k',_,hgx⟩ | ⟨_,_,_,hgx⟩
 ·exact (sound_parts hg).2.1 h (List.mem_of_getElem? hgx)
 ·exact (sound_parts hg).2.2 h (List.mem_of_getElem? hgx)
theorem get_soundG:∀ (p:List GStep) (g h:GV),g.Sound→g.get p=some h→h.Sound
 | [],g,h,hg,e=>by simp [GV.get] at e;subst e;exact hg
 | s :: r,g,h,hg,e=>by
  simp only [GV.get] at e
  cases hi:g.inside s with
  | none=>rw [hi] at e;cases e
  | some y=>rw [hi] at e;exact get_soundG r y h (inside_sound hg hi) e
theorem inside_asc {g h:GV} {s:GStep} (hg:g.Asc) (hi:g.inside s=some h):h.Asc:=by
 cases g with
 | mk k n z l ks ov=>
  simp only [GV.Asc] at hg
  rcases inside_cases hi with ⟨_,_,k',_,hgx⟩ | ⟨_,_,_,hgx⟩
  ·exact (ascs_iff l).1 hg.2.1 h (List.mem_of_getElem? hgx)
  ·exact (ascs_iff ov).1 hg.2.2 h (List.mem_of_getElem? hgx)
theorem get_asc:∀ (p:List GStep) (g h:GV),g.Asc→g.get p=some h→h.Asc
 | [],g,h,hg,e=>by simp [GV.get] at e;subst e;exact hg
 | s :: r,g,h,hg,e=>by
  simp only [GV.get] at e
  cases hi:g.inside s with
  | none=>rw [hi] at e;cases e
  | some y=>rw [hi] at e;exact get_asc r y h (inside_asc hg hi) e
theorem weight_one (g:GV):1≤g.weight:=by cases g with | mk k n s l ks ov=>simp only [GV.weight];omega
theorem weights_len:∀ (l:List GV),l.length≤GV.weights l
 | []=>by simp
 | x :: r=>by have:=weights_len r;have:=weight_one x;simp only [GV.weights,List.length_cons];omega
theorem parts_weight (g:GV):g.str.size≤g.weight∧g.items.length≤g.weight∧g.vals.length≤g.weight:=by
 cases g with
 | mk k n s l ks ov=>
  have h1:=weights_len l
  have h2:=weights_len ov
  simp only [GV.weight,GV.str,GV.items,GV.vals]
  refine ⟨?_,?_,?_⟩<;>omega
theorem sound_keysOk {g:GV} (hg:g.Sound) (hk:g.kind=5):KeysOk g.keys:=by
 rcases (sound_parts hg).1.2.2.2.2 with h | h
 ·exact h.2
 ·exact absurd hk h.1
theorem keys_valid {g:GV} (hg:g.Sound) (hk:g.kind=5) (hw:g.weight≤6000):∀ k∈g.keys,valid k=true∧k.size≤6001:=fun k hm=>by
 obtain ⟨i,hi⟩:=List.getElem?_of_mem hm
 have hl:=(List.getElem?_eq_some_iff.1 hi).1
 have:=key_size hi
 exact ⟨(sound_keysOk hg hk i k hl hi).1,by omega⟩
theorem kind_range {g:GV} (hg:g.Sound):g.kind=0∨g.kind=1∨g.kind=2∨g.kind=3∨g.kind=4∨g.kind=5:=(sound_parts hg).1.1
theorem Wy.front {W:World} {A:Option Addr} {c:Nat} {p q:List GStep} (h:Wy W A c (p++q)):Wy W A c p:=
 ⟨fun hn=>by
  obtain ⟨a,e,hs,hl,hc⟩:=h.steps (by simp [hn])
  exact ⟨a,e,hs,hl,fun i s hi=>hc i s (by rw [List.getElem?_append_left (List.getElem?_eq_some_iff.1 hi).1];exact hi)⟩,by have:=h.le;simp at this;omega,h.cap⟩
theorem rget1 {W:World} {g h:GV} {AL AO:Option Addr} {cL cO:Nat} {A:Option Addr} {c n:Nat} {ps:List GStep} (hv:Vl W g AL AO cL cO) (hp:Wy W A c ps) (hn:ps.length=n) (hw:g.weight≤1000000000) (e:g.get ps=some h):
  Calls Tryz.prog 24 #[.agg #[.int .u8 g.kind,.int .i64 g.num,.string g.str,.slice AL g.items.length cL,.slice AO g.vals.length cO],.slice A n c] W fun e' w'=>∃ BL BO dL dO,e'=.returned (.tuple #[.agg #[.int .u8 h.kind,.int .i64 h.num,.string h.str,.slice BL h.items.length dL,.slice BO h.vals.length dO],.int .i64 0]) ∧
   (LstV (fun k=>W.heap.size≤k) w' (.slice BL h.items.length dL) h.items∧ObjV (fun k=>W.heap.size≤k) w' (.slice BO h.vals.length dO) h.keys h.vals)∧Below W.heap.size W w':=by
 subst hn
 refine (ref_Get _ _ g W.heap.size A c ps W hv.val hp.steps (Nat.le_refl _) hp.le hp.cap (Nat.le_trans (size_le_weight g) hw)).mono fun e' w' ⟨hb,hq⟩=>?_
 rcases hq with ⟨h1,_⟩ | ⟨h',v',h1,he,hv'⟩
 ·rw [e] at h1;cases h1
 ·rw [e] at h1;cases h1
  obtain ⟨L,O,rfl,hL,hO⟩:=hv'
  obtain ⟨BL,dL,rfl⟩:=lst_form hL
  obtain ⟨BO,dO,rfl⟩:=obj_form hO
  exact ⟨BL,BO,dL,dO,he,⟨hL,hO⟩,hb⟩
def K2 (r s:Nat) (w1 W:World):Prop:=w1.heap.size≤W.heap.size∧∀ k,k≠r→k≠s→k<w1.heap.size→W.heap[k]? = w1.heap[k]?
theorem K2.refl (r s:Nat) (w:World):K2 r s w w:=⟨Nat.le_refl _,fun _ _ _ _=>rfl⟩
theorem K2.set {r s:Nat} {w1 W:World} (h:K2 r s w1 W) {p:Addr} (hp:p.block=r∨p.block=s) (u:Value):K2 r s w1 (W.setCell p u):=⟨by rw [size_set];exact h.1,fun k hk hk' hl=>by rw [Below.heap_setCell W p u k (by rcases hp with h | h<;>omega)];exact h.2 k hk hk' hl⟩
theorem k212 {r s:Nat} {w W:World} {b:Nat} (h:K2 r s w W) (hb:b=r∨b=s) (a0 a1 a2 a3 a4 a5 a6 a7 a8 a9 a10 a11:Value):K2 r s w ((((((((((((W.setCell ⟨b,0,none⟩ a0).setCell ⟨b,1,none⟩ a1).setCell ⟨b,2,none⟩ a2).setCell ⟨b,3,none⟩ a3).setCell ⟨b,4,none⟩ a4).setCell ⟨b,5,none⟩ a5).setCell ⟨b,6,none⟩ a6).setCell ⟨b,7,none⟩ a7).setCell ⟨b,8,none⟩ a8).setCell ⟨b,9,none⟩ a9).setCell ⟨b,10,none⟩ a10).setCell ⟨b,11,none⟩ a11):=
 ((((((((((((h.set (p:=⟨b,0,none⟩) hb a0).set (p:=⟨b,1,none⟩) hb a1).set (p:=⟨b,2,none⟩) hb a2).set (p:=⟨b,3,none⟩) hb a3).set (p:=⟨b,4,none⟩) hb a4).set (p:=⟨b,5,none⟩) hb a5).set (p:=⟨b,6,none⟩) hb a6).set (p:=⟨b,7,none⟩) hb a7).set (p:=⟨b,8,none⟩) hb a8).set (p:=⟨b,9,none⟩) hb a9).set (p:=⟨b,10,none⟩) hb a10).set (p:=⟨b,11,none⟩) hb a11)
theorem Wy.two {wr w5 X:World} {P:Option Addr} {c r s:Nat} {qs:List GStep} {t:TypeId} {cs:Array Value} (h:Wy wr P c qs) (hW:Whole wr r t cs) (hno:∀ (i:Nat) (l:Bool),cs[i]?≠some (Value.bool l)) (hs:wr.heap.size≤s∨s=r) (hb:Below wr.heap.size wr w5) (hK:K2 r s w5 X):Wy X P c qs:=
 ⟨fun hne=>by
  obtain ⟨a,e,hsp,hl,hc⟩:=h.steps hne
  have hr:a.block≠r:=fun er=>by
   obtain ⟨x,xs,rfl⟩:∃ x xs,qs=x :: xs:=by cases qs with | nil=>exact absurd rfl hne | cons x xs=>exact ⟨x,xs,rfl⟩
   have:=(hc 0 x rfl).1
   rw [er,hW.cell] at this
   exact hno _ _ this
  have hblk:X.heap[a.block]? = wr.heap[a.block]?:=(hK.2 a.block hr (by omega) (Nat.lt_of_lt_of_le hl hb.size)).trans (hb.block a.block hl)
  exact ⟨a,e,hsp,Nat.lt_of_lt_of_le hl (Nat.le_trans hb.size hK.1),fun i s hi=>by
   obtain ⟨h0,h1,h2⟩:=hc i s hi
   exact ⟨(World.cell?_of_block (a:=⟨a.block,_,none⟩) hblk).trans h0,(World.cell?_of_block (a:=⟨a.block,_,none⟩) hblk).trans h1,(World.cell?_of_block (a:=⟨a.block,_,none⟩) hblk).trans h2⟩⟩,h.le,h.cap⟩
theorem no_bool5 {k n:Int} {s:ByteArray} {A B:Option Addr} {a b c d:Nat}:∀ (i:Nat) (l:Bool),(#[Value.int .u8 k,.int .i64 n,.string s,.slice A a b,.slice B c d]:Array Value)[i]?≠some (.bool l)
 | 0,_,h | 1,_,h | 2,_,h | 3,_,h | 4,_,h=>by simp at h
 | i+5,_,h=>by simp at h
theorem no_bool12:∀ (i:Nat) (l:Bool),(#[Value.int .u8 0,.slice none 0 0,.string ⟨#[]⟩,.int .i64 0,.int .i64 0,.int .i64 0,.int .u8 0,.int .i64 0,.string ⟨#[]⟩,.slice none 0 0,.slice none 0 0,.string ⟨#[]⟩]:Array Value)[i]?≠some (.bool l)
 | 0,_,h | 1,_,h | 2,_,h | 3,_,h | 4,_,h | 5,_,h | 6,_,h | 7,_,h | 8,_,h | 9,_,h | 10,_,h | 11,_,h=>by simp at h
 | i+12,_,h=>by simp at h
theorem Wy.put5 {wr w1:World} {P:Option Addr} {c b:Nat} {qs:List GStep} {t:TypeId} {k n:Int} {s:ByteArray} {A B:Option Addr} {a a' d d':Nat} (h:Wy wr P c qs) (hW:Whole wr b t #[.int .u8 k,.int .i64 n,.string s,.slice A a a',.slice B d d']) (hb:Below wr.heap.size wr w1) (u0 u1 u2 u3 u4:Value):Wy (put5 w1 b u0 u1 u2 u3 u4) P c qs:=
 h.two hW no_bool5 (.inr rfl) hb (((((K2.refl b b w1).set (.inl rfl) u0).set (.inl rfl) u1).set (.inl rfl) u2).set (.inl rfl) u3 |>.set (.inl rfl) u4)
def Fit (h:GV) (c:GC):Prop:=
 (c.kind=1∧h.kind=2∧c.key =⟨#[]⟩∧c.i=0∧c.j=0∧c.s =⟨#[]⟩∧c.v=noG) ∨
 (h.kind=3∧c.key =⟨#[]⟩∧c.j=0∧c.v=noG∧((c.kind=8∧(∃ a:Nat,c.i=a∧a≤h.str.size)∧c.n=0∧∃ s,c.s=strX++plainB s)∨(c.kind=9∧c.s =⟨#[]⟩∧∃ a b:Nat,c.i=a∧c.n=b∧1≤b∧a+b≤h.str.size))) ∨
 (h.kind=4∧c.key =⟨#[]⟩∧c.n=0∧c.s =⟨#[]⟩∧∃ k i j:Nat,c.kind=k∧c.i=i∧c.j=j∧4≤k∧k≤7∧chkL h.items.length k i j=0∧(k=7∨j=0)∧(k=4∨k=6∨c.v=noG)) ∨
 (h.kind=5∧c.i=0∧c.j=0∧c.n=0∧c.s =⟨#[]⟩∧valid c.key=true∧(c.kind=2∨(c.kind=3∧there c.key h.keys=true∧c.v=noG)))
structure OneG (g:GV) (c:GC) (m:Int):Prop where
 len:c.path.length≤5
 clean:∀ s∈c.path,Clean s
 v:VOk c.v
 key:c.key.size≤6001
 s:c.s.size≤41
 fits:m=0∨(m=1∧∃ h,g.get c.path=some h∧Fit h c)
def OneIs (g:GV) (w:World) (e:Ending) (w':World):Prop:=Below w.heap.size w w'∧∃ (c:GC) (A AL AO:Option Addr) (cp cL cO:Nat) (m:Int),e=.returned (.tuple #[.agg #[.int .u8 c.kind,.slice A c.path.length cp,.string c.key,.int .i64 c.i,.int .i64 c.j,.int .i64 c.n,.int .u8 c.v.kind,.int .i64 c.v.num,.string c.v.str,.slice AL c.v.items.length cL,.slice AO c.v.vals.length cO,.string c.s],.int .i64 m])∧Cc w' c A AL AO cp cL cO∧OneG g c m
structure OB (w:World) (cv ca:Array Value) (b:Nat) (h:GV) (BL BO:Option Addr) (eL eO:Nat) (W:World):Prop where
 v:Whole W w.heap.size 31 cv
 a:Whole W (w.heap.size+1) 48 ca
 r:Whole W (w.heap.size+1+1) 35 #[.int .u8 0,.slice none 0 0,.string ⟨#[]⟩,.int .i64 0,.int .i64 0,.int .i64 0,.int .u8 0,.int .i64 0,.string ⟨#[]⟩,.slice none 0 0,.slice none 0 0,.string ⟨#[]⟩]
 x:Whole W b 31 #[.int .u8 h.kind,.int .i64 h.num,.string h.str,.slice BL h.items.length eL,.slice BO h.vals.length eO]
 far:w.heap.size+1+1+1≤b
 lst:LstV (fun k=>w.heap.size+1+1+1≤k∧k≠b) W (.slice BL h.items.length eL) h.items
 obj:ObjV (fun k=>w.heap.size+1+1+1≤k∧k≠b) W (.slice BO h.vals.length eO) h.keys h.vals
 below:Below w.heap.size w W
theorem OB.step {w W W':World} {cv ca:Array Value} {b:Nat} {h:GV} {BL BO:Option Addr} {eL eO:Nat} (q:OB w cv ca b h BL BO eL eO W) (hb:Below W.heap.size W W'):OB w cv ca b h BL BO eL eO W':=
 ⟨q.v.below hb q.v.lt,q.a.below hb q.a.lt,q.r.below hb q.r.lt,q.x.below hb q.x.lt,q.far,q.lst.keep (From.of_below hb) (fun _ h _=>h),q.obj.keep (From.of_below hb) (fun _ h _=>h),q.below.trans (hb.mono q.below.size)⟩
theorem OB.vl {w W:World} {cv ca:Array Value} {b:Nat} {h:GV} {BL BO:Option Addr} {eL eO:Nat} (q:OB w cv ca b h BL BO eL eO W):Vl W h BL BO eL eO:=
 ⟨q.lst.keep (From.refl _ _) (fun _ _ _=>trivial),q.obj.keep (From.refl _ _) (fun _ _ _=>trivial)⟩
theorem OB.put {w W W':World} {cv ca:Array Value} {b:Nat} {h h':GV} {BL BO EL EO:Option Addr} {eL eO fL fO:Nat} (q:OB w cv ca b h BL BO eL eO W) (hb:Below W.heap.size W W') (hL:LstV (fun k=>W.heap.size≤k) W' (.slice EL h'.items.length fL) h'.items) (hO:ObjV (fun k=>W.heap.size≤k) W' (.slice EO h'.vals.length fO) h'.keys h'.vals):
  OB w cv ca b h' EL EO fL fO (put5 W' b (.int .u8 h'.kind) (.int .i64 h'.num) (.string h'.str) (.slice EL h'.items.length fL) (.slice EO h'.vals.length fO)):=by
 have q':=q.step hb
 have hlt:=q.x.lt
 have hfar:=q.far
 have hsz:=q.v.lt
 have hF:From (fun k=>W.heap.size≤k) W' (put5 W' b (.int .u8 h'.kind) (.int .i64 h'.num) (.string h'.str) (.slice EL h'.items.length fL) (.slice EO h'.vals.length fO)):=fun k hk _=>put5_block _ _ _ _ _ _ _ _ (by omega)
 exact ⟨q'.v.of_eq (put5_block _ _ _ _ _ _ _ _ (by omega)),q'.a.of_eq (put5_block _ _ _ _ _ _ _ _ (by omega)),q'.r.of_eq (put5_block _ _ _ _ _ _ _ _ (by omega)),whole_put5 q'.x _ _ _ _ _,hfar,hL.keep hF (fun k hk _=>⟨by omega,by omega⟩),hO.keep hF (fun k hk _=>⟨by omega,by omega⟩),put5_below q'.below (by omega) _ _ _ _ _⟩
end Go.Proofs.YtamlaknfakaanaaGreatDoor
