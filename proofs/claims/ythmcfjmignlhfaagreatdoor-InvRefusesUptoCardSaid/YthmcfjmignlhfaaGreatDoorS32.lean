/- Texts in one: InvS, InvU. -/
import Derived.Test.YthmcfjmignlhfaaGreatDoorS21
import Derived.Test.YthmcfjmignlhfaaGreatDoorS31
import Derived.Test.YthmcfjmignlhfaaGreatDoorLaysR
import Derived.Laws.MakeOwn
import Derived.ArgAppend
import Derived.Shelf.SlicesQ.Reverse
import Derived.Test.YthmcfjmignlhfaaGreatDoorS26
import Derived.Test.YthmcfjmignlhfaaGreatDoorS11
namespace Go.Proofs.YthmcfjmignlhfaaGreatDoor
open Go Go.RowKit
open Go.Sort (putRowK HoldsK flatK setMany)
set_option linter.unusedVariables false
set_option linter.unusedSimpArgs false
def encE (e:EC):List Value:=[.int .u8 e.c.kq,.slice e.A e.c.path.length e.cp,.string e.c.key,.int .i64 e.c.i,.int .i64 e.c.j,.int .i64 e.c.n,.int .u8 e.c.v.kq,.int .i64 e.c.v.num,.string e.c.v.str,.slice e.AL e.c.v.il.length e.cL,.slice e.AO e.c.v.vz.length e.cO,.string e.c.s]
theorem za9 (e:EC):(encE e).length=12:=rfl
theorem zeF (e:EC):∀ u∈encE e,u.oneCell'=true:=by
 intro u hu;simp only [encE,List.mem_cons,List.mem_nil_iff,or_false] at hu;rcases hu with rfl | rfl | rfl | rfl | rfl | rfl | rfl | rfl | rfl | rfl | rfl | rfl<;>rfl
instance:Inhabited EC:=⟨⟨noC,none,0,none,0,none,0⟩⟩
theorem zfc:∀ fs:List EC,(fs.flatMap encE).length=fs.length * 12
 | []=>rfl
 | e :: r=>by rw [List.flatMap_cons,List.length_append,zfc r,za9,List.length_cons];omega
theorem zfX:∀ (fs:List EC) (t:Nat),t<fs.length * 12->(fs.flatMap encE)[t]? = some ((encE fs.toArray[t / 12]!)[t % 12]!)
 | [],t,h=>by simp at h
 | e :: r,t,h=>by
  rw [List.flatMap_cons,List.getElem?_append,za9];by_cases h12:t<12
  ·rw [if_pos h12]
   have h0:t / 12=0:=by omega
   have h1:t % 12=t:=by omega
   rw [h0,h1];have:t<(encE e).length:=by rw [za9];exact h12
   rw [List.getElem?_eq_getElem this];simp [this]
  ·rw [if_neg h12,zfX r (t - 12) (by rw [List.length_cons] at h;omega)]
   have h0:t / 12=(t - 12) / 12+1:=by omega
   have h1:(t - 12) % 12=t % 12:=by omega
   rw [h0,h1];simp
structure Gath (W:World) (b n:Nat) (fs:List EC):Prop where
 row:∃ cs:Array Value,Whole W b 48 cs/\cs.size=n * 12/\∀ (t:Nat) (u:Value),(fs.flatMap encE)[t]? = some u->cs[t]? = some u
 le:fs.length<=n
theorem Gath.lt {W b n} {fs:List EC} (h:Gath W b n fs):b<W.heap.size:=by obtain ⟨cs,hw,_⟩:=h.row;exact hw.lt
theorem Gath.below {N:Nat} {W W':World} {b n} {fs:List EC} (h:Gath W b n fs) (hb:Below N W W') (hN:b<N):Gath W' b n fs:=by
 obtain ⟨cs,hw,h2⟩:=h.row;exact ⟨⟨cs,hw.below hb hN,h2⟩,h.le⟩
theorem Gath.far {W b n} {fs:List EC} (h:Gath W b n fs) {p:Addr} (hp:b≠p.block) (u:Value):Gath (W.setCell p u) b n fs:=by
 obtain ⟨cs,hw,h2⟩:=h.row;exact ⟨⟨cs,hw.far hp u,h2⟩,h.le⟩
theorem zaV {b k:Nat} (hk:k≠b):∀ (vs:List Value) (o:Nat) (W:World),(W.setCells b o vs).heap[k]? = W.heap[k]?
 | [],_,_=>rfl
 | v :: r,o,W=>by rw [World.setCells,zaV hk r (o+1) _,Below.heap_setCell _ _ _ _ hk]
theorem zb9 {N b:Nat} (hN:N<=b):∀ (vs:List Value) (o:Nat) (w W:World),Below N w W->Below N w (W.setCells b o vs)
 | [],_,_,_,h=>h
 | v :: r,o,w,W,h=>zb9 hN r (o+1) w _ (h.setCell (p:=⟨b,o,none⟩) hN v)
theorem zct (b:Nat):∀ (vs:List Value) (o:Nat) (W:World),(W.setCells b o vs).heap.size=W.heap.size
 | [],_,_=>rfl
 | v :: r,o,W=>by rw [World.setCells,zct b r (o+1) _,zaT]
theorem zb8 {b:Nat} {t:TypeId}:∀ (vs:List Value) (o:Nat) (W:World) (cs:Array Value),Whole W b t cs->Whole (W.setCells b o vs) b t (setMany cs o vs)
 | [],_,_,_,h=>h
 | v :: r,o,W,cs,h=>zb8 r (o+1) _ _ (h.put o v)
theorem zdG:∀ (vs:List Value) (o:Nat) (cs:Array Value) (t:Nat),o+vs.length<=cs.size->(setMany cs o vs)[t]? = if o<=t/\t<o+vs.length then vs[t - o]? else cs[t]?
 | [],o,cs,t,_=>by simp [setMany];omega
 | v :: r,o,cs,t,h=>by
  simp only [List.length_cons] at h ⊢;rw [setMany,zdG r (o+1) _ t (by simp;omega)]
  by_cases h1:o+1<=t/\t<o+1+r.length
  ·rw [if_pos h1,if_pos (by omega),show t - o=(t - (o+1))+1 by omega,List.getElem?_cons_succ]
  ·rw [if_neg h1,Array.getElem?_setIfInBounds]
   by_cases h2:o=t
   ·subst h2
    rw [if_pos rfl,if_pos (by omega),if_pos (by omega),Nat.sub_self,List.getElem?_cons_zero]
   ·rw [if_neg h2,if_neg (by omega)]
theorem zke {W b n} {fs:List EC} (h:Gath W b n fs) (hn:fs.length<n) (e:EC):Gath (W.setCells b (fs.length * 12) (encE e)) b n (fs++[e]):=by
 obtain ⟨cs,hw,hs,hg⟩:=h.row;refine ⟨⟨_,zb8 _ _ _ _ hw,by rw [Go.Sort.size_setMany];exact hs,fun t u ht=>?_⟩,by rw [List.length_append];simp;omega⟩
 rw [zdG _ _ _ _ (by rw [za9,hs];omega),za9]
 rw [List.flatMap_append,List.getElem?_append,zfc,List.flatMap_cons,List.flatMap_nil,List.append_nil] at ht;by_cases h1:t<fs.length * 12
 ·rw [if_neg (by omega)]
  rw [if_pos h1] at ht;exact hg t u ht
 ·rw [if_neg h1] at ht
  have:t - fs.length * 12<(encE e).length:=(List.getElem?_eq_some_iff.1 ht).1;rw [za9] at this;rw [if_pos (by omega)]
  exact ht
theorem infoCompG:(Tryz.prog.info? 48).map (fun i=>(i.zero,i.size,i.bytes))=some (some (.agg #[.int .u8 0,.slice none 0 0,.string ⟨#[]⟩,.int .i64 0,.int .i64 0,.int .i64 0,.int .u8 0,.int .i64 0,.string ⟨#[]⟩,.slice none 0 0,.slice none 0 0,.string ⟨#[]⟩]),12,168):=by kernel_rfl
theorem zf5 {W} {b n S:Nat} {fs:List EC} (h:Gath W b n fs) (hn:fs.length<n) (e:EC) (hS:Whole W S 48 (encE e).toArray) (ty:TypeId):
  (Builtin.append_ #[31,31] ty #[.slice (some ⟨b,0,none⟩) fs.length n,.slice (some ⟨S,0,none⟩) 1 1]).run Tryz.prog W=.ok (.slice (some ⟨b,0,none⟩) (fs.length+1) n) (W.setCells b (fs.length * 12) (encE e)):=by
 obtain ⟨i0,hi,hz0,hz1,hz2⟩:=info_parts infoCompG;obtain ⟨cs,hw,hs,hg⟩:=h.row;have hr:=run_append_room_cells (P:=Tryz.prog) (w:=W) 31 ty 48 i0 Tryz.underlying31 hi b 0 fs.length n ⟨S,0,none⟩ 1 1 (encE e) (by rw [hz1,za9]) (fun j u hj=>by
   have e1:(⟨S,0,none⟩:Addr).add j =⟨S,j,none⟩:=by unfold Addr.add;split<;>simp_all
   rw [e1,hS.cell]
   simpa using hj) (zeF e) (by omega) (fun j hj=>by
   rw [za9] at hj;rw [hz1,hw.cell,Array.getElem?_eq_getElem (by rw [hs];omega)]
   rfl) (fun j hj=>hw.frozen _)
 rw [hz1,Nat.zero_add] at hr;exact hr
theorem ziH (n:Nat) (hn:n<=200) (w:World):(Instr.makeSlice 31 (.int .i64 0) (.int .i64 (n:Int))).run Tryz.prog w=.ok (.slice (some ⟨w.heap.size,0,none⟩) 0 n) (w.alloc (.cells (madeCells (Value.cells (.agg #[.int .u8 0,.slice none 0 0,.string ⟨#[]⟩,.int .i64 0,.int .i64 0,.int .i64 0,.int .u8 0,.int .i64 0,.string ⟨#[]⟩,.slice none 0 0,.slice none 0 0,.string ⟨#[]⟩])) (n * 12)) 48)):=by
 obtain ⟨i0,hi,hz0,hz1,hz2⟩:=info_parts infoCompG;have:=run_make (P:=Tryz.prog) (w:=w) 31 48 i0 _ Tryz.underlying31 hi hz0 .i64 .i64 0 n (by omega) (by omega) (by rw [hz2];omega) (by omega)
 simpa [hz1] using this
theorem zjd (n:Nat) (w:World) (z:Array Value):Gath (w.alloc (.cells (madeCells z (n * 12)) 48)) w.heap.size n []:=
 ⟨⟨_,Whole.new w _ _,size_madeCells _ _,fun t u ht=>by simp at ht⟩,Nat.zero_le _⟩
theorem Gath.holds {W b} {fs:List EC} (h:Gath W b fs.length fs):HoldsK encE 12 W b 0 fs.toArray:=by
 obtain ⟨cs,hw,hs,hg⟩:=h.row;intro t ht;rw [Go.Sort.size_flatK,List.size_toArray] at ht;rw [Nat.zero_add,hw.cell,Go.Sort.get_flatK _ _ _ _ (by simpa using ht)]
 exact ⟨hg t _ (zfX fs t ht),hw.frozen _⟩
theorem zcJ {α:Type} [Inhabited α] (enc:α->List Value) (k:Nat) (w:World) (b o:Nat) (d:Array α) {q:Nat} (hq:q≠b):(putRowK enc k w b o d).heap[q]? = w.heap[q]?:=by
 unfold putRowK Go.Sort.putRow Go.Sort.mapBlock;simp only [Array.getElem?_modify];rw [if_neg (fun e=>hq e.symm)]
theorem zeB {α:Type} [Inhabited α] (enc:α->List Value) (k:Nat) (w:World) (m b o:Nat) (d:Array α) {N:Nat} (hN:N<=b):Below N w (putRowK enc k (Go.Sort.ahead w m) b o d):=
 ⟨rfl,rfl,rfl,by unfold putRowK;rw [Go.Sort.size_putRow];exact Nat.le_refl _,fun q hq=>zcJ enc k _ b o d (by omega)⟩
theorem zhv {α:Type} [Inhabited α] (enc:α->List Value) (k:Nat) (w:World) (m b o:Nat) (d:Array α):Kp (b+1) w (putRowK enc k (Go.Sort.ahead w m) b o d):=
 ⟨by unfold putRowK;rw [Go.Sort.size_putRow];exact Nat.le_refl _,fun q hq _=>zcJ enc k _ b o d (by omega)⟩
def EC.New (n:Nat) (W:World) (e:EC):Prop:=CcNew n W e.c e.A e.AL e.AO e.cp e.cL e.cO/\Small e.c
theorem EC.New.kp {n m:Nat} {W W':World} {e:EC} (h:e.New n W) (hm:m<=n) (hk:Kp n W W'):e.New m W':=⟨h.1.kp hm hk,h.2⟩
theorem EC.New.ok {n:Nat} {W:World} {e:EC} (h:e.New n W):e.Ok W:=⟨h.1.cc,h.2⟩
theorem zgx {W} {m b:Nat} {fs:List EC} (h:Gath W b fs.length fs) (hn:fs.length<=200) (hp:∀ e∈fs,e.New (b+1) W):
  Ops (putRowK encE 12 (Go.Sort.ahead W m) b 0 fs.toArray.reverse) (some ⟨b,0,none⟩) fs.length fs.reverse:=by
 have hH:=Go.Sort.holdsK_putRowK encE 12 (Go.Sort.ahead W m) b 0 fs.toArray fs.toArray.reverse (Go.Sort.holdsK_ahead encE 12 W m b 0 fs.toArray h.holds) (by simp)
 have hk:=zhv encE 12 W m b 0 fs.toArray.reverse;refine ⟨fun hne=>⟨b,0,rfl,Nat.lt_of_lt_of_le h.lt hk.1,fun i e he=>?_⟩,by simp,by unfold maxLen;omega⟩
 obtain ⟨hi,hie⟩:=List.getElem?_eq_some_iff.1 he;have hmem:e∈fs:=by have:=List.getElem_mem hi;rw [hie] at this;simpa using this
 have hi2:i<fs.toArray.reverse.size:=by simpa using hi
 have hg:fs.toArray.reverse[i]! = e:=by
  rw [getElem!_pos _ i hi2];have:fs.toArray.reverse=fs.reverse.toArray:=by simp
  simp only [this]
  simpa using hie
 have hc:∀ c,c<12->(putRowK encE 12 (Go.Sort.ahead W m) b 0 fs.toArray.reverse).cell? ⟨b,0+i * 12+c,none⟩=some (encE e)[c]!:=fun c hc=>by
  have:=(Go.Sort.HoldsK.cell hH hi2 hc).1;rw [hg] at this;exact this
 exact ⟨⟨hc 0 (by decide),hc 1 (by decide),hc 2 (by decide),hc 3 (by decide),hc 4 (by decide),hc 5 (by decide),hc 6 (by decide),hc 7 (by decide),hc 8 (by decide),hc 9 (by decide),hc 10 (by decide),hc 11 (by decide)⟩,((hp e hmem).kp (Nat.le_refl _) hk).ok⟩
theorem zfd {W b} {fs:List EC} (cap:Nat) (h:Gath W b fs.length fs) (hn:fs.length<=200):
  Calls Tryz.prog 31 #[.slice (some ⟨b,0,none⟩) fs.length cap] W fun e w'=>e=.returned (.tuple #[])/\∃ m,w'=putRowK encE 12 (Go.Sort.ahead W m) b 0 fs.toArray.reverse:=by
 have:=AnyQ.slices_Reverse Tryz.reverseC 12 Tryz.isAgg48 Tryz.sizeOf48 encE za9 zeF b 0 cap fs.toArray W h.holds (by simp;omega)
 rw [List.size_toArray] at this;exact this
def Came:GV->List EC->List GC->GV->Prop
 | g,[],ds,y=>ds=[]/\y=g
 | g,e :: r,ds,y=>∃ d z dr,TurnsTo g e.c d 0/\Does1 g e.c z/\ds=d :: dr/\Came z r dr y
theorem Came.snoc {e:EC} {d:GC} {z:GV}:∀ {es:List EC} {ds:List GC} {g y:GV},Came g es ds y->TurnsTo y e.c d 0->Does1 y e.c z->Came g (es++[e]) (ds++[d]) z
 | [],ds,g,y,⟨h1,h2⟩,ht,hd=>by subst h1 h2;exact ⟨d,z,[],ht,hd,rfl,rfl,rfl⟩
 | _ :: r,_,g,y,⟨d',x,dr,h1,h2,h3,h4⟩,ht,hd=>by subst h3;exact ⟨d',x,dr++[d],h1,h2,rfl,h4.snoc ht hd⟩
theorem zif {g y z:GV} {es:List EC} {ds:List GC} {k:Nat} {E:EC} {d} (h:Came g (es.take k) ds y) (hE:es[k]? = some E) (ht:TurnsTo y E.c d 0) (hd:Does1 y E.c z):Came g (es.take (k+1)) (ds++[d]) z:=by
 obtain ⟨hk,rfl⟩:=List.getElem?_eq_some_iff.1 hE;rw [List.take_succ_eq_append_getElem hk];exact h.snoc ht hd
theorem zcQ {g c d} (ht:TurnsTo g c d 0):ChkIs g c 0:=by
 rcases ht with ⟨h,_⟩ | ⟨_,_,h,_⟩
 ·exact absurd rfl h
 ·exact h
end Go.Proofs.YthmcfjmignlhfaaGreatDoor
namespace Go.Proofs.YthmcfjmignlhfaaGreatDoor
open Go Go.RowKit
set_option linter.unusedVariables false
set_option linter.unusedSimpArgs false
mutual
def GV.Lens:GV->Prop
 | .mk _ _ _ l ks ov=>ks.length=ov.length/\GV.LensS l/\GV.LensS ov
def GV.LensS:List GV->Prop
 | []=>True
 | g :: r=>GV.Lens g/\GV.LensS r
end
theorem zdy:∀ l:List GV,GV.LensS l↔∀ x∈l,x.Lens
 | []=>by simp [GV.LensS]
 | g :: r=>by simp [GV.LensS,zdy r]
mutual
theorem zk0 {ok:Nat->Prop} {W:World}:∀ (g:GV) (b off:Nat),GV.at ok W b off g->g.Lens
 | .mk k n s l ks ov,b,off,h=>by
  simp only [GV.at] at h;obtain ⟨L,O,_,_,_,_,_,hl,hk,ho⟩:=h;simp only [GV.Lens];refine ⟨hk,?_,?_⟩
  ·rcases hl with ⟨e,_⟩ | ⟨b',o',c,_,_,_,_,he⟩
   ·subst e;simp [GV.LensS]
   ·exact zck l b' 5 o' he
  ·rcases ho with ⟨e,_⟩ | ⟨b',o',c,_,_,_,_,_,he⟩
   ·subst e;simp [GV.LensS]
   ·exact zck ov b' 6 (o'+1) he
theorem zck {ok:Nat->Prop} {W:World}:∀ (l:List GV) (b step off:Nat),GV.els ok W b step off l->GV.LensS l
 | [],_,_,_,_=>by simp [GV.LensS]
 | g :: r,b,step,off,h=>by
  simp only [GV.els] at h;simp only [GV.LensS];exact ⟨zk0 g b off h.1,zck r b step (off+step) h.2⟩
end
theorem zkD {W g AL AO cL cO} (h:Vl W g AL AO cL cO):g.Lens:=by
 obtain ⟨hL,hO⟩:=h;cases g with
 | mk k n s l ks ov=>
  simp only [GV.Lens];refine ⟨hO.1,?_,?_⟩
  ·rcases hL with ⟨e,_⟩ | ⟨b',o',c,_,_,_,_,he⟩
   ·simp only [GV.il] at e;subst e;simp [GV.LensS]
   ·exact zck l b' 5 o' he
  ·rcases hO.2 with ⟨e,_⟩ | ⟨b',o',c,_,_,_,_,_,he⟩
   ·simp only [GV.vz] at e;subst e;simp [GV.LensS]
   ·exact zck ov b' 6 (o'+1) he
theorem zgu {g h:GV} {s:GStep} (hg:g.Lens) (hi:g.inside s=some h):h.Lens:=by
 cases g with
 | mk k n z l ks ov=>
  simp only [GV.Lens] at hg;rcases zaI hi with ⟨_,_,k',_,hgx⟩ | ⟨_,_,_,hgx⟩
  ·exact (zdy l).1 hg.2.1 h (List.mem_of_getElem? hgx)
  ·exact (zdy ov).1 hg.2.2 h (List.mem_of_getElem? hgx)
theorem zgY:∀ (p:List GStep) (g h:GV),g.Lens->g.get p=some h->h.Lens
 | [],g,h,hg,e=>by simp [GV.get] at e;subst e;exact hg
 | s :: r,g,h,hg,e=>by
  simp only [GV.get] at e;cases hi:g.inside s with
  | none=>rw [hi] at e;cases e
  | some y=>rw [hi] at e;exact zgY r y h (zgu hg hi) e
theorem zjV {g:GV} (h:g.Lens):g.keys.length=g.vz.length:=by cases g with | mk k n s l ks ov=>simp only [GV.Lens] at h;exact h.1
theorem zd8 {W g AL AO cL cO} (h:Vl W g AL AO cL cO) (c:GC):∃ d n,TurnsTo g c d n:=
 zhd g c fun x hx=>zjV (zgY _ _ _ (zkD h) hx)
end Go.Proofs.YthmcfjmignlhfaaGreatDoor
