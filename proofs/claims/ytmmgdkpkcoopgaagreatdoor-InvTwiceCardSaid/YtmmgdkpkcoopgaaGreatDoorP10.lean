/- Texts in one: With, Plain, OneInv, One, Build. -/
import Derived.Test.YtmmgdkpkcoopgaaGreatDoorP2
import Derived.Test.YtmmgdkpkcoopgaaGreatDoorP4
import Derived.OwnWalk
import Derived.Test.YtmmgdkpkcoopgaaGreatDoorP1
import Derived.Test.YtmmgdkpkcoopgaaGreatDoorP3
import Derived.Laws.BytesArg
import Derived.Lib.ValidLaws
import Derived.Test.YtmmgdkpkcoopgaaGreatDoorP7
import Derived.WalkKit
import Derived.Laws.BitsLemmas
import Derived.WalkSpells
import Derived.WalkLawsBesides
import Derived.Lib.Hide
set_option maxRecDepth 100000
set_option maxHeartbeats 8000000
namespace Go.Proofs.YtmmgdkpkcoopgaaGreatDoor
open Go.Lib(hid)
open Go Go.RowKit
section
variable {P:Program} (w:World)
theorem zhd (base:Nat) (t ty e:TypeId) (i:TypeInfo) (size:Nat) (ht:P.underlying t=some (.slice e)) (hi:P.info? e=some i) (v:Value) (n:Nat) (xs:List Value) (hown:w.ownsRow base e size v n xs) (c:Nat):
  (Builtin.append_ #[t,t] ty #[v,.slice none 0 c]).run P w=.ok v w:=by
 rcases hown.2 with ⟨rfl,rfl⟩ | ⟨_,_,_,rfl,_,_,hnc,_⟩<;>simp [Builtin.append_,run_underlying ht,sizeOf,typeInfo,Builtin.lenOf,Builtin.firstCells,storeCells, *]
theorem zaj {ops:Array Oper} {rest:List Oper} {o:Oper} {a:Act} {Q:Exit->Act->World->Prop} (hgd:o.guard=none) (s x:Operand) (t:TypeId)
  (ho:o.op=.call { callee:=.builtin .append,args:=#[s,x],argTypes:=#[t,t] })
  (base:Nat) (e:TypeId) (i:TypeInfo) (z:Value) (size bytes:Nat) (ht:P.underlying t=some (.slice e)) (hi:P.info? e=some i) (hz:i.zero=some z)
  (hsize:i.size=size) (hby:i.bytes=bytes) (hzs:z.cells.size=size) (hsz:0<size)
  (v:Value) (n:Nat) (xs:List Value) (hs:a.eval s=v) (hown:w.ownsRow base e size v n xs)
  (A:Option Addr) (m c:Nat) (news:List Value) (hx:a.eval x=.slice A m c) (hA:A=none->m=0) (hl:news.length=m * size) (hnews:∀ ad,A=some ad->∀ j u,news[j]? = some u->w.cell? (ad.add j)=some u) (h1:∀ u∈news,u.oneCell'=true)
  (h63:n+m<=maxLen) (hbytes:(n+m) * bytes<=140737488355328) (hbase:base<=w.heap.size)
  (h:∀ v' w',w'.ownsRow base e size v' (n+m) (xs++news)->w.grownBy w' v.ownBlock->(v'.ownBlock=v.ownBlock\/v'.ownBlock=some w.heap.size)->wpList P ops Q rest (a.put o.dst v') w'):
  wpList P ops Q (o :: rest) a w:=by
 refine wpList_plain hgd fun K hK=>?_
 have hrun:∃ v' w',(Builtin.append_ #[t,t] o.type #[v,.slice A m c]).run P w=.ok v' w'/\w'.ownsRow base e size v' (n+m) (xs++news)/\w.grownBy w' v.ownBlock/\(v'.ownBlock=v.ownBlock\/v'.ownBlock=some w.heap.size):=by
  cases A with
  | none=>
   obtain rfl:=hA rfl;obtain rfl:news=[]:=List.eq_nil_of_length_eq_zero (by simpa using hl)
   exact ⟨v,w,zhd w base t o.type e i size ht hi v n xs hown c,by simpa using hown,⟨rfl,rfl,rfl,Nat.le_refl _,fun _ _ _=>rfl⟩,.inl rfl⟩
  | some ad=>
   obtain ⟨v',w',hr,h2,h3,_,h5⟩:=run_append_own_at (P:=P) w base t o.type e i z size bytes ht hi hz hsize hby hzs hsz v n xs hown ad m c news hl (hnews ad rfl) h1 h63 hbytes hbase;exact ⟨v',w',hr,h2,h3,h5⟩
 obtain ⟨v',w',hr,h2,h3,h5⟩:=hrun;unfold Oper.wp execOp;simp only [ho,resolve,invoke,builtin,Sem.run_bind,Sem.run_pure,Result.andThen_ok,List.map_toArray,List.map_cons,List.map_nil,hs,hx,hr];exact hK _ _ (h v' w' h2 h3 h5)
end
theorem RowO.app {ok:Nat->Prop} {W:World}:∀ {ks:List ByteArray} {ov:List GV} {xs:List Value} {ks':List ByteArray} {ov':List GV} {xs':List Value},RowO ok W ks ov xs->RowO ok W ks' ov' xs'->RowO ok W (ks++ks') (ov++ov') (xs++xs')
 | [],[],_,_,_,_,h,h'=>by rw [show _=([]:List Value) from h];exact h'
 | _ :: _,_ :: _,_,_,_,_,⟨L,O,ys,e,hL,hO,hr⟩,h'=>⟨L,O,ys++_,by rw [e,List.append_assoc],hL,hO,RowO.app hr h'⟩
 | [],_ :: _,_,_,_,_,h,_=>h.elim
 | _ :: _,[],_,_,_,_,h,_=>h.elim
def insN (key:ByteArray) (ks:List ByteArray):Nat:=place key ks+if there key ks=true then 1 else 0
def insK (key:ByteArray) (ks:List ByteArray):List ByteArray:=ks.take (place key ks)++key :: ks.drop (insN key ks)
def insV (key:ByteArray) (ks:List ByteArray) (ov:List GV) (g:GV):List GV:=ov.take (place key ks)++g :: ov.drop (insN key ks)
theorem zmb (key:ByteArray) (ks:List ByteArray):insN key ks<=ks.length:=by
 have h:=zbA key ks;unfold insN;split
 ·rename_i ht
  have:place key ks<ks.length:=by
   unfold there at ht;rcases Nat.lt_or_ge (place key ks) ks.length with h' | h'
   ·exact h'
   ·rw [List.getElem?_eq_none h'] at ht;simp at ht
  omega
 ·omega
structure St (w:World) (ok:Nat->Prop) (W:World) (v:Value) (n:Nat) (ks:List ByteArray) (ov:List GV) (xs:List Value):Prop where
 below:Below w.heap.size w W
 size:w.heap.size+1<=W.heap.size
 own:W.ownsRow (w.heap.size+1) 56 6 v n xs
 row:RowO (fun k=>ok k/\k<w.heap.size) W ks ov xs
section
variable {w W W':World} {ok:Nat->Prop} {v:Value} {n:Nat} {ks:List ByteArray} {ov:List GV} {xs:List Value}
theorem St.step (h:St w ok W v n ks ov xs) (hb:Below W.heap.size W W'):St w ok W' v n ks ov xs:=
 ⟨h.below.trans (hb.mono (by have:=h.size;omega)),Nat.le_trans h.size hb.size,zaz h.own hb,h.row.keep (.of_below hb) (fun _ h _=>h)⟩
theorem St.app (h:St w ok W v n ks ov xs) {v':Value} {m:Nat} {ks':List ByteArray} {ov':List GV} {news:List Value} (hr:RowO (fun k=>ok k/\k<w.heap.size) W ks' ov' news)
  (hown:W'.ownsRow (w.heap.size+1) 56 6 v' (n+m) (xs++news)) (hgrow:W.grownBy W' v.ownBlock):St w ok W' v' (n+m) (ks++ks') (ov++ov') (xs++news):=by
 have hF:From (fun k=>ok k/\k<w.heap.size) W W':=fun k hk hlt=>hgrow.block k hlt (fun e=>by have:=(h.own.lt k e.symm).1;omega)
 exact ⟨h.below.grown hgrow (by have:=h.size;omega) (fun k hk=>by have:=(h.own.lt k hk).1;omega),Nat.le_trans h.size hgrow.size,hown,(h.row.app hr).keep hF (fun _ h _=>h)⟩
theorem St.done (h:St w ok W v ov.length ks ov xs):ObjV (fun k=>ok k\/w.heap.size<=k) W v ks ov:=
 ObjV.of_own h.own (h.row.keep (From.refl _ _) fun k hk _=>.inl hk.1) fun k hk=>.inr (by have:=(h.own.lt k hk).1;omega)
end
theorem St.first {w W W':World} {ok:Nat->Prop} (h:St w ok W (.slice none 0 0) 0 [] [] []) {v':Value} {m:Nat} {ks':List ByteArray} {ov':List GV} {news:List Value} (hr:RowO (fun k=>ok k/\k<w.heap.size) W ks' ov' news)
  (hown:W'.ownsRow (w.heap.size+1) 56 6 v' (0+m) ([]++news)) (hgrow:W.grownBy W' (Value.ownBlock (.slice none 0 0))):St w ok W' v' m ks' ov' news:=by
 have:=h.app hr hown hgrow
 simpa using this
theorem St.begin {w W:World} {ok:Nat->Prop} {o:Obj} (h:Below (w.alloc o).heap.size (w.alloc o) W):St w ok W (.slice none 0 0) 0 [] [] []:=
 ⟨((Below.refl _ _).alloc (Nat.le_refl _) _).trans (h.mono (by simp)),by have:=h.size;simpa using this,World.ownsRow_nil _ _ _ _,by simp [RowO]⟩
theorem zet {ok:Nat->Prop} {w W:World} {key:ByteArray} {g:GV} {L O:Value} (h:LstV (fun k=>ok k/\k<w.heap.size) w L g.il/\ObjV (fun k=>ok k/\k<w.heap.size) w O g.keys g.vz) (hb:Below w.heap.size w W):
  RowO (fun k=>ok k/\k<w.heap.size) W [key] [g] (.string key :: chunk g L O):=
 ⟨L,O,[],by simp,h.1.keep (From.of_below hb) (fun _ h _=>h),h.2.keep (From.of_below hb) (fun _ h _=>h),rfl⟩
def Part (ok:Nat->Prop) (w:World) (A:Option Addr) (ks:List ByteArray) (ov:List GV) (a m:Nat) (xs:List Value):Prop:=
 RowO (fun k=>ok k/\k<w.heap.size) w ((ks.drop a).take m) ((ov.drop a).take m) xs/\xs.length=m * 6/\(∀ u∈xs,u.oneCell'=true) /\
 ∀ b o,A=some ⟨b,o,none⟩->b<w.heap.size/\∀ (j:Nat) (u:Value),xs[j]? = some u->w.cell? ⟨b,o+a * 6+j,none⟩=some u
theorem zhS {ok:Nat->Prop} {w:World} {A:Option Addr} {n c:Nat} {ks:List ByteArray} {ov:List GV} (hO:ObjV ok w (.slice A n c) ks ov) (a m:Nat) (h:a+m<=ov.length):∃ xs,Part ok w A ks ov a m xs:=by
 have hl:=hO.1;rcases hO.2 with ⟨rfl,he⟩ | ⟨b,o,c',he,_,_,hK,hks,hE⟩
 ·cases he
  have hks:ks=[]:=List.eq_nil_of_length_eq_zero (by rw [hl];rfl)
  subst hks;simp at h
  refine ⟨[],?_,by simp [h.2],(fun u hu=>by cases hu),fun b o e=>by cases e⟩
  simp [RowO]
 ·cases he
  have k1:KeysAt w b (o+a * 6) ((ks.drop a).take m):=KeysAt.of fun i k hi=>by
   rw [List.getElem?_take] at hi;split at hi
   ·rw [List.getElem?_drop] at hi
    have:=hks.get hi
    rwa [show o+a * 6+i * 6=o+(a+i) * 6 by omega]
   ·cases hi
  have e1:GV.els ok w b 6 (o+a * 6+1) ((ov.drop a).take m):=GV.els_of fun i g hi=>by
   rw [List.getElem?_take] at hi;split at hi
   ·rw [List.getElem?_drop] at hi
    have:=GV.els_get hE hi
    rwa [show o+a * 6+1+i * 6=o+1+(a+i) * 6 by omega]
   ·cases hi
  obtain ⟨xs,hr,hlen,hc,h1⟩:=zdX (by simp;omega) k1 e1
  refine ⟨xs,hr.keep (From.refl _ _) (fun k hk hlt=>⟨hk,hlt⟩),by rw [hlen];simp;omega,h1,fun b' o' e=>?_⟩
  cases e
  exact ⟨hK.lt,hc⟩
theorem Part.put {ok:Nat->Prop} {w W:World} {A:Option Addr} {ks:List ByteArray} {ov:List GV} {a m:Nat} {xs:List Value} (h:Part ok w A ks ov a m xs) (hb:Below w.heap.size w W):
  RowO (fun k=>ok k/\k<w.heap.size) W ((ks.drop a).take m) ((ov.drop a).take m) xs:=h.1.keep (From.of_below hb) (fun _ h _=>h)
theorem Part.cells {ok:Nat->Prop} {w W:World} {A:Option Addr} {ks:List ByteArray} {ov:List GV} {a m:Nat} {xs:List Value} (h:Part ok w A ks ov a m xs) (hb:Below w.heap.size w W) {b o:Nat} (hA:A=some ⟨b,o,none⟩) {b' o':Nat} (hb':b'=b) (ho:m=0\/o'=o+a * 6):
  ∀ (ad:Addr),some (⟨b',o',none⟩:Addr)=some ad->∀ (j:Nat) (u:Value),xs[j]? = some u->W.cell? (ad.add j)=some u:=fun ad e j u hj=>by
 cases e
 subst hb';obtain ⟨hlt,hc⟩:=h.2.2.2 _ _ hA;rcases ho with h0 | rfl
 ·have:xs=[]:=List.eq_nil_of_length_eq_zero (by rw [h.2.1,h0])
  subst this;simp at hj
 ·have e2:(⟨b',o+a * 6,none⟩:Addr).add j =⟨b',o+a * 6+j,none⟩:=by unfold Addr.add;split<;>simp_all
  rw [e2];exact (hb.cell (p:=⟨b',o+a * 6+j,none⟩) hlt).trans (hc j u hj)
theorem zhH (ok) (O:Value) (ks ov) (key:ByteArray) (g:GV) (x:Value) (w) (hO:ObjV ok w O ks ov) (hx:g.val ok w x) (hn:ov.length<=1000000000):
  Calls Tryz.prog 35 #[O,.string key,x] w fun e w'=>∃ v',e=.returned v'/\ObjV (fun k=>ok k\/w.heap.size<=k) w' v' (insK key ks) (insV key ks ov g)/\Below w.heap.size w w':=by
 obtain ⟨L,O1,rfl,hL,hO1⟩:=hx;obtain ⟨BL,dL,rfl⟩:=zah hL;obtain ⟨BO,dO,rfl⟩:=zag hO1;have hkl:=hO.1;have hpl:=zbA key ks;have hql:=zmb key ks;obtain ⟨A,c,rfl,hc1,hc2,hf⟩:=hO.form;unfold maxLen at hc2;have hfield:∀ W,Below w.heap.size w W->Calls Tryz.prog 41 #[.agg #[.int .u8 0,.int .i64 0,.string ⟨#[]⟩,.slice none 0 0,.slice A ov.length c],.string key] W fun e w'=>e=.returned (.tuple #[.int .i64 (place key ks),.bool (there key ks)])/\Below W.heap.size W w':=fun W hW=>
  zaT (fun k=>ok k/\k<w.heap.size) _ (.mk 0 0 ⟨#[]⟩ [] ks ov) key W ⟨_,_,rfl,.inl ⟨rfl,rfl⟩,hO.keep (From.of_below hW) (fun k hk hlt=>⟨hk,hlt⟩)⟩
 have hAf:A=none\/∃ b o,A=some ⟨b,o,none⟩:=by
  rcases hO.2 with ⟨rfl,e⟩ | ⟨b,o,_,e,_⟩
  ·cases e;exact .inl rfl
  ·cases e;exact .inr ⟨b,o,rfl⟩
 have hA0:A=none->ov.length=0/\c=0:=fun e=>by
  rcases hO.2 with ⟨rfl,h2⟩ | ⟨b,o,_,h,_⟩
  ·cases h2;exact ⟨rfl,rfl⟩
  ·rw [e] at h;cases h
 obtain ⟨xs1,hP1⟩:=zhS hO 0 (place key ks) (by omega)
 obtain ⟨xs3,hP3⟩:=zhS hO (insN key ks) (ov.length - insN key ks) (by omega)
 have hLk:LstV (fun k=>ok k/\k<w.heap.size) w (.slice BL g.il.length dL) g.il:=hL.keep (From.refl _ _) fun k hk hlt=>⟨hk,hlt⟩
 have hOk:ObjV (fun k=>ok k/\k<w.heap.size) w (.slice BO g.vz.length dO) g.keys g.vz:=hO1.keep (From.refl _ _) fun k hk hlt=>⟨hk,hlt⟩
 have hfin:∀ W v,St w ok W v (place key ks+1+(ov.length - insN key ks)) (((ks.drop 0).take (place key ks)++[key])++(ks.drop (insN key ks)).take (ov.length - insN key ks)) (((ov.drop 0).take (place key ks)++[g])++(ov.drop (insN key ks)).take (ov.length - insN key ks)) ((xs1++(.string key :: chunk g (.slice BL g.il.length dL) (.slice BO g.vz.length dO)))++xs3) ->
   ∃ v',Ending.returned v=.returned v'/\ObjV (fun k=>ok k\/w.heap.size<=k) W v' (insK key ks) (insV key ks ov g)/\Below w.heap.size w W:=fun W v h=>by
  have e1:((ks.drop 0).take (place key ks)++[key])++(ks.drop (insN key ks)).take (ov.length - insN key ks)=insK key ks:=by
   unfold insK;rw [List.take_of_length_le (l:=ks.drop (insN key ks)) (by simp;omega)]
   simp
  have e2:((ov.drop 0).take (place key ks)++[g])++(ov.drop (insN key ks)).take (ov.length - insN key ks)=insV key ks ov g:=by
   unfold insV;rw [List.take_of_length_le (l:=ov.drop (insN key ks)) (by simp)]
   simp
  have e3:place key ks+1+(ov.length - insN key ks)=(insV key ks ov g).length:=by unfold insV;simp;omega
  rw [e1,e2,e3] at h;exact ⟨v,rfl,h.done,h.below⟩
 have hq:insN key ks=place key ks+if there key ks=true then 1 else 0:=rfl;obtain ⟨i1,hi1,hy0,hy1,hy2⟩:=info_parts infoField;have HI1:=hid (And.intro hi1 (And.intro hy0 (And.intro hy1 hy2)));have HF:=hid hfield;have HFIN:=hid hfin;have HV:=hid (And.intro hLk hOk);have HP:=hid (And.intro hP1 hP3);have HA0:=hid hA0;clear hi1 hy0 hy1 hy2 hfield hfin hLk hOk hP1 hP3 hO hL hO1 hf hA0;generalize place key ks=p at *;generalize there key ks=t at *;generalize insN key ks=q at *;generalize ov.length=n at *;have HKL:=hid hkl;clear hkl;have hpl':p<=n:=by have:=HKL.out;omega
 have hql':q<=n:=by have:=HKL.out;omega
 clear hpl hql;have hcases:(A=none/\Hid (n=0/\c=0))\/∃ b o,A=some ⟨b,o,none⟩:=by
  rcases hAf with h | h
  ·exact .inl ⟨h,hid (HA0.out h)⟩
  ·exact .inr h
 clear hAf;have hb1:p+1+(n - q)<=1000000001:=by cases t<;>simp at hq<;>omega
 have B1:=hid (show (0+p<=maxLen/\(0+p) * 96<=140737488355328)/\(p+1<=maxLen/\(p+1) * 96<=140737488355328)/\(p+1+(n - q)<=maxLen/\(p+1+(n - q)) * 96<=140737488355328) by unfold maxLen;omega)
 clear hb1;rcases hcases with ⟨rfl,hz⟩ | ⟨b,o,rfl⟩
 ·obtain ⟨rfl,rfl⟩:=hz.out
  obtain rfl:p=0:=by omega
  obtain rfl:q=0:=by omega
  cases t with
  | true=>simp at hq
  | false=>
   clear hq hz;go_enter Tryz.func35,Tryz.ntmps35
   go_wp2_with (first | (go_at_call 41;refine (HF.out _ ((Below.refl _ _).alloc (Nat.le_refl _) _)).mono ?_;rintro e W1 ⟨rfl,hb1⟩;have HX:=hid ((Whole.new w 29 #[.int .u8 g.kq,.int .i64 g.num,.string g.str,.slice BL g.il.length dL,.slice BO g.vz.length dO]).below hb1 (by simp));have hst:St w ok W1 (.slice none 0 0) 0 [] [] []:=St.begin hb1;have HST:=hid hst;clear hb1 hst) | (at_builtin;refine zaj _ rfl (.tmp 17) (.tmp 20) 27 rfl (w.heap.size+1) 56 i1 _ 6 96 Tryz.underlying27 HI1.out.1 HI1.out.2.1 HI1.out.2.2.1 HI1.out.2.2.2 rfl (by decide) (.slice none 0 0) 0 [] rfl HST.out.own none 0 0 xs1 rfl (fun _=>rfl) HP.out.1.2.1 (fun _ e=>by cases e) HP.out.1.2.2.1 B1.out.1.1 B1.out.1.2 HST.out.size ?_;intro v3 W3 hown3 hgrow3 hat3;have HST3:=hid (HST.out.first (HP.out.1.put HST.out.below) hown3 hgrow3);obtain ⟨A3,c3,rfl⟩:=zaf HST3.out.own;have HX3:=hid (HX.out.grown hgrow3 (by simp [Value.ownBlock]));obtain ⟨x0,x1,x2,x3,x4,_⟩:=HX3.out.five;clear hown3 hgrow3 hat3) | (at_builtin;refine wpList_append_own_at _ rfl (.tmp 22) (.tmp 26) 27 rfl (w.heap.size+1) 56 i1 _ 6 96 Tryz.underlying27 HI1.out.1 HI1.out.2.1 HI1.out.2.2.1 HI1.out.2.2.2 rfl (by decide) (.slice A3 0 c3) 0 xs1 rfl (HST3.out.step ((Below.refl _ W3).alloc (Nat.le_refl _) _)).own ⟨W3.heap.size,0,none⟩ 1 1 (.string key :: chunk g (.slice BL g.il.length dL) (.slice BO g.vz.length dO)) rfl rfl (row_cells' _ _ rfl _ _) (by simp [chunk,Value.oneCell']) B1.out.2.1.1 B1.out.2.1.2 (HST3.out.step ((Below.refl _ W3).alloc (Nat.le_refl _) _)).size ?_;intro v5 W5 hown5 hgrow5 _ hat5;obtain ⟨A5,c5,rfl⟩:=zaf hown5;have HST5:=hid ((HST3.out.step ((Below.refl _ W3).alloc (Nat.le_refl _) _)).app (zet HV.out (HST3.out.step ((Below.refl _ W3).alloc (Nat.le_refl _) _)).below) hown5 hgrow5);clear hown5 hgrow5 hat5) | (at_builtin;refine zaj _ rfl (.tmp 31) (.tmp 34) 27 rfl (w.heap.size+1) 56 i1 _ 6 96 Tryz.underlying27 HI1.out.1 HI1.out.2.1 HI1.out.2.2.1 HI1.out.2.2.2 rfl (by decide) (.slice A5 (0+1) c5) (0+1) _ rfl HST5.out.own none 0 0 xs3 rfl (fun _=>rfl) HP.out.2.2.1 (fun _ e=>by cases e) HP.out.2.2.2.1 B1.out.2.2.1 B1.out.2.2.2 HST5.out.size ?_;intro v7 W7 hown7 hgrow7 hat7;obtain ⟨A7,c7,rfl⟩:=zaf hown7;have HST7:=hid (HST5.out.app (HP.out.2.put HST5.out.below) hown7 hgrow7);clear hown7 hgrow7 hat7))
   go_ret
   have h7:=HFIN.out _ _ HST7.out
   first | exact h7 | (rw [Nat.add_sub_cancel' (by omega)] at h7;exact h7) | exact (by have h8:=h7;simpa using h8)
 ·have hpc:p<=c:=by omega
  have hqc:q<=c:=by omega
  cases t with
  | true=>
   obtain rfl:q=p+1:=by simpa using hq
   clear hq;by_cases hcq:c=p+1
   ·subst hcq
    have e0:n - (p+1)=0:=by omega
    rw [e0] at HP HFIN B1;go_enter Tryz.func35,Tryz.ntmps35
    go_wp2_with (first | (go_at_call 41;refine (HF.out _ ((Below.refl _ _).alloc (Nat.le_refl _) _)).mono ?_;rintro e W1 ⟨rfl,hb1⟩;have HX:=hid ((Whole.new w 29 #[.int .u8 g.kq,.int .i64 g.num,.string g.str,.slice BL g.il.length dL,.slice BO g.vz.length dO]).below hb1 (by simp));have hst:St w ok W1 (.slice none 0 0) 0 [] [] []:=St.begin hb1;have HST:=hid hst;clear hb1 hst) | (at_builtin;refine zaj _ rfl (.tmp 17) (.tmp 20) 27 rfl (w.heap.size+1) 56 i1 _ 6 96 Tryz.underlying27 HI1.out.1 HI1.out.2.1 HI1.out.2.2.1 HI1.out.2.2.2 rfl (by decide) (.slice none 0 0) 0 [] rfl HST.out.own (some ⟨b,o,none⟩) p (p+1) xs1 rfl (fun e=>by cases e) HP.out.1.2.1 (HP.out.1.cells HST.out.below rfl rfl (.inr (by omega))) HP.out.1.2.2.1 B1.out.1.1 B1.out.1.2 HST.out.size ?_;intro v3 W3 hown3 hgrow3 hat3;have HST3:=hid (HST.out.first (HP.out.1.put HST.out.below) hown3 hgrow3);obtain ⟨A3,c3,rfl⟩:=zaf HST3.out.own;have HX3:=hid (HX.out.grown hgrow3 (by simp [Value.ownBlock]));obtain ⟨x0,x1,x2,x3,x4,_⟩:=HX3.out.five;clear hown3 hgrow3 hat3) | (at_builtin;refine wpList_append_own_at _ rfl (.tmp 22) (.tmp 26) 27 rfl (w.heap.size+1) 56 i1 _ 6 96 Tryz.underlying27 HI1.out.1 HI1.out.2.1 HI1.out.2.2.1 HI1.out.2.2.2 rfl (by decide) (.slice A3 p c3) p xs1 rfl (HST3.out.step ((Below.refl _ W3).alloc (Nat.le_refl _) _)).own ⟨W3.heap.size,0,none⟩ 1 1 (.string key :: chunk g (.slice BL g.il.length dL) (.slice BO g.vz.length dO)) rfl rfl (row_cells' _ _ rfl _ _) (by simp [chunk,Value.oneCell']) B1.out.2.1.1 B1.out.2.1.2 (HST3.out.step ((Below.refl _ W3).alloc (Nat.le_refl _) _)).size ?_;intro v5 W5 hown5 hgrow5 _ hat5;obtain ⟨A5,c5,rfl⟩:=zaf hown5;have HST5:=hid ((HST3.out.step ((Below.refl _ W3).alloc (Nat.le_refl _) _)).app (zet HV.out (HST3.out.step ((Below.refl _ W3).alloc (Nat.le_refl _) _)).below) hown5 hgrow5);clear hown5 hgrow5 hat5) | (at_builtin;refine zaj _ rfl (.tmp 31) (.tmp 34) 27 rfl (w.heap.size+1) 56 i1 _ 6 96 Tryz.underlying27 HI1.out.1 HI1.out.2.1 HI1.out.2.2.1 HI1.out.2.2.2 rfl (by decide) (.slice A5 (p+1) c5) (p+1) _ rfl HST5.out.own (some ⟨b,o,none⟩) 0 0 xs3 rfl (fun e=>by cases e) HP.out.2.2.1 (HP.out.2.cells HST5.out.below rfl rfl (.inl rfl)) HP.out.2.2.2.1 B1.out.2.2.1 B1.out.2.2.2 HST5.out.size ?_;intro v7 W7 hown7 hgrow7 hat7;obtain ⟨A7,c7,rfl⟩:=zaf hown7;have HST7:=hid (HST5.out.app (HP.out.2.put HST5.out.below) hown7 hgrow7);clear hown7 hgrow7 hat7))
    go_ret
    have h7:=HFIN.out _ _ HST7.out
    first | exact h7 | (rw [Nat.add_sub_cancel' (by omega)] at h7;exact h7) | exact (by have h8:=h7;simpa using h8)
   ·go_enter Tryz.func35,Tryz.ntmps35
    go_wp2_with (first | (go_at_call 41;refine (HF.out _ ((Below.refl _ _).alloc (Nat.le_refl _) _)).mono ?_;rintro e W1 ⟨rfl,hb1⟩;have HX:=hid ((Whole.new w 29 #[.int .u8 g.kq,.int .i64 g.num,.string g.str,.slice BL g.il.length dL,.slice BO g.vz.length dO]).below hb1 (by simp));have hst:St w ok W1 (.slice none 0 0) 0 [] [] []:=St.begin hb1;have HST:=hid hst;clear hb1 hst) | (at_builtin;refine zaj _ rfl (.tmp 17) (.tmp 20) 27 rfl (w.heap.size+1) 56 i1 _ 6 96 Tryz.underlying27 HI1.out.1 HI1.out.2.1 HI1.out.2.2.1 HI1.out.2.2.2 rfl (by decide) (.slice none 0 0) 0 [] rfl HST.out.own (some ⟨b,o,none⟩) p c xs1 rfl (fun e=>by cases e) HP.out.1.2.1 (HP.out.1.cells HST.out.below rfl rfl (.inr (by omega))) HP.out.1.2.2.1 B1.out.1.1 B1.out.1.2 HST.out.size ?_;intro v3 W3 hown3 hgrow3 hat3;have HST3:=hid (HST.out.first (HP.out.1.put HST.out.below) hown3 hgrow3);obtain ⟨A3,c3,rfl⟩:=zaf HST3.out.own;have HX3:=hid (HX.out.grown hgrow3 (by simp [Value.ownBlock]));obtain ⟨x0,x1,x2,x3,x4,_⟩:=HX3.out.five;clear hown3 hgrow3 hat3) | (at_builtin;refine wpList_append_own_at _ rfl (.tmp 22) (.tmp 26) 27 rfl (w.heap.size+1) 56 i1 _ 6 96 Tryz.underlying27 HI1.out.1 HI1.out.2.1 HI1.out.2.2.1 HI1.out.2.2.2 rfl (by decide) (.slice A3 p c3) p xs1 rfl (HST3.out.step ((Below.refl _ W3).alloc (Nat.le_refl _) _)).own ⟨W3.heap.size,0,none⟩ 1 1 (.string key :: chunk g (.slice BL g.il.length dL) (.slice BO g.vz.length dO)) rfl rfl (row_cells' _ _ rfl _ _) (by simp [chunk,Value.oneCell']) B1.out.2.1.1 B1.out.2.1.2 (HST3.out.step ((Below.refl _ W3).alloc (Nat.le_refl _) _)).size ?_;intro v5 W5 hown5 hgrow5 _ hat5;obtain ⟨A5,c5,rfl⟩:=zaf hown5;have HST5:=hid ((HST3.out.step ((Below.refl _ W3).alloc (Nat.le_refl _) _)).app (zet HV.out (HST3.out.step ((Below.refl _ W3).alloc (Nat.le_refl _) _)).below) hown5 hgrow5);clear hown5 hgrow5 hat5) | (at_builtin;refine zaj _ rfl (.tmp 31) (.tmp 34) 27 rfl (w.heap.size+1) 56 i1 _ 6 96 Tryz.underlying27 HI1.out.1 HI1.out.2.1 HI1.out.2.2.1 HI1.out.2.2.2 rfl (by decide) (.slice A5 (p+1) c5) (p+1) _ rfl HST5.out.own (some ⟨b,o+(p+1) * 6,none⟩) (n - (p+1)) (c - (p+1)) xs3 rfl (fun e=>by cases e) HP.out.2.2.1 (HP.out.2.cells HST5.out.below rfl rfl (.inr rfl)) HP.out.2.2.2.1 B1.out.2.2.1 B1.out.2.2.2 HST5.out.size ?_;intro v7 W7 hown7 hgrow7 hat7;obtain ⟨A7,c7,rfl⟩:=zaf hown7;have HST7:=hid (HST5.out.app (HP.out.2.put HST5.out.below) hown7 hgrow7);clear hown7 hgrow7 hat7))
    go_ret
    have h7:=HFIN.out _ _ HST7.out
    first | exact h7 | (rw [Nat.add_sub_cancel' (by omega)] at h7;exact h7) | exact (by have h8:=h7;simpa using h8)
  | false=>
   obtain rfl:q=p:=by simpa using hq
   clear hq;by_cases hcq:c=q
   ·subst hcq
    have e0:n - c=0:=by omega
    rw [e0] at HP HFIN B1;go_enter Tryz.func35,Tryz.ntmps35
    go_wp2_with (first | (go_at_call 41;refine (HF.out _ ((Below.refl _ _).alloc (Nat.le_refl _) _)).mono ?_;rintro e W1 ⟨rfl,hb1⟩;have HX:=hid ((Whole.new w 29 #[.int .u8 g.kq,.int .i64 g.num,.string g.str,.slice BL g.il.length dL,.slice BO g.vz.length dO]).below hb1 (by simp));have hst:St w ok W1 (.slice none 0 0) 0 [] [] []:=St.begin hb1;have HST:=hid hst;clear hb1 hst) | (at_builtin;refine zaj _ rfl (.tmp 17) (.tmp 20) 27 rfl (w.heap.size+1) 56 i1 _ 6 96 Tryz.underlying27 HI1.out.1 HI1.out.2.1 HI1.out.2.2.1 HI1.out.2.2.2 rfl (by decide) (.slice none 0 0) 0 [] rfl HST.out.own (some ⟨b,o,none⟩) c c xs1 rfl (fun e=>by cases e) HP.out.1.2.1 (HP.out.1.cells HST.out.below rfl rfl (.inr (by omega))) HP.out.1.2.2.1 B1.out.1.1 B1.out.1.2 HST.out.size ?_;intro v3 W3 hown3 hgrow3 hat3;have HST3:=hid (HST.out.first (HP.out.1.put HST.out.below) hown3 hgrow3);obtain ⟨A3,c3,rfl⟩:=zaf HST3.out.own;have HX3:=hid (HX.out.grown hgrow3 (by simp [Value.ownBlock]));obtain ⟨x0,x1,x2,x3,x4,_⟩:=HX3.out.five;clear hown3 hgrow3 hat3) | (at_builtin;refine wpList_append_own_at _ rfl (.tmp 22) (.tmp 26) 27 rfl (w.heap.size+1) 56 i1 _ 6 96 Tryz.underlying27 HI1.out.1 HI1.out.2.1 HI1.out.2.2.1 HI1.out.2.2.2 rfl (by decide) (.slice A3 c c3) c xs1 rfl (HST3.out.step ((Below.refl _ W3).alloc (Nat.le_refl _) _)).own ⟨W3.heap.size,0,none⟩ 1 1 (.string key :: chunk g (.slice BL g.il.length dL) (.slice BO g.vz.length dO)) rfl rfl (row_cells' _ _ rfl _ _) (by simp [chunk,Value.oneCell']) B1.out.2.1.1 B1.out.2.1.2 (HST3.out.step ((Below.refl _ W3).alloc (Nat.le_refl _) _)).size ?_;intro v5 W5 hown5 hgrow5 _ hat5;obtain ⟨A5,c5,rfl⟩:=zaf hown5;have HST5:=hid ((HST3.out.step ((Below.refl _ W3).alloc (Nat.le_refl _) _)).app (zet HV.out (HST3.out.step ((Below.refl _ W3).alloc (Nat.le_refl _) _)).below) hown5 hgrow5);clear hown5 hgrow5 hat5) | (at_builtin;refine zaj _ rfl (.tmp 31) (.tmp 34) 27 rfl (w.heap.size+1) 56 i1 _ 6 96 Tryz.underlying27 HI1.out.1 HI1.out.2.1 HI1.out.2.2.1 HI1.out.2.2.2 rfl (by decide) (.slice A5 (c+1) c5) (c+1) _ rfl HST5.out.own (some ⟨b,o,none⟩) 0 0 xs3 rfl (fun e=>by cases e) HP.out.2.2.1 (HP.out.2.cells HST5.out.below rfl rfl (.inl rfl)) HP.out.2.2.2.1 B1.out.2.2.1 B1.out.2.2.2 HST5.out.size ?_;intro v7 W7 hown7 hgrow7 hat7;obtain ⟨A7,c7,rfl⟩:=zaf hown7;have HST7:=hid (HST5.out.app (HP.out.2.put HST5.out.below) hown7 hgrow7);clear hown7 hgrow7 hat7))
    go_ret
    have h7:=HFIN.out _ _ HST7.out
    first | exact h7 | (rw [Nat.add_sub_cancel' (by omega)] at h7;exact h7) | exact (by have h8:=h7;simpa using h8)
   ·go_enter Tryz.func35,Tryz.ntmps35
    go_wp2_with (first | (go_at_call 41;refine (HF.out _ ((Below.refl _ _).alloc (Nat.le_refl _) _)).mono ?_;rintro e W1 ⟨rfl,hb1⟩;have HX:=hid ((Whole.new w 29 #[.int .u8 g.kq,.int .i64 g.num,.string g.str,.slice BL g.il.length dL,.slice BO g.vz.length dO]).below hb1 (by simp));have hst:St w ok W1 (.slice none 0 0) 0 [] [] []:=St.begin hb1;have HST:=hid hst;clear hb1 hst) | (at_builtin;refine zaj _ rfl (.tmp 17) (.tmp 20) 27 rfl (w.heap.size+1) 56 i1 _ 6 96 Tryz.underlying27 HI1.out.1 HI1.out.2.1 HI1.out.2.2.1 HI1.out.2.2.2 rfl (by decide) (.slice none 0 0) 0 [] rfl HST.out.own (some ⟨b,o,none⟩) q c xs1 rfl (fun e=>by cases e) HP.out.1.2.1 (HP.out.1.cells HST.out.below rfl rfl (.inr (by omega))) HP.out.1.2.2.1 B1.out.1.1 B1.out.1.2 HST.out.size ?_;intro v3 W3 hown3 hgrow3 hat3;have HST3:=hid (HST.out.first (HP.out.1.put HST.out.below) hown3 hgrow3);obtain ⟨A3,c3,rfl⟩:=zaf HST3.out.own;have HX3:=hid (HX.out.grown hgrow3 (by simp [Value.ownBlock]));obtain ⟨x0,x1,x2,x3,x4,_⟩:=HX3.out.five;clear hown3 hgrow3 hat3) | (at_builtin;refine wpList_append_own_at _ rfl (.tmp 22) (.tmp 26) 27 rfl (w.heap.size+1) 56 i1 _ 6 96 Tryz.underlying27 HI1.out.1 HI1.out.2.1 HI1.out.2.2.1 HI1.out.2.2.2 rfl (by decide) (.slice A3 q c3) q xs1 rfl (HST3.out.step ((Below.refl _ W3).alloc (Nat.le_refl _) _)).own ⟨W3.heap.size,0,none⟩ 1 1 (.string key :: chunk g (.slice BL g.il.length dL) (.slice BO g.vz.length dO)) rfl rfl (row_cells' _ _ rfl _ _) (by simp [chunk,Value.oneCell']) B1.out.2.1.1 B1.out.2.1.2 (HST3.out.step ((Below.refl _ W3).alloc (Nat.le_refl _) _)).size ?_;intro v5 W5 hown5 hgrow5 _ hat5;obtain ⟨A5,c5,rfl⟩:=zaf hown5;have HST5:=hid ((HST3.out.step ((Below.refl _ W3).alloc (Nat.le_refl _) _)).app (zet HV.out (HST3.out.step ((Below.refl _ W3).alloc (Nat.le_refl _) _)).below) hown5 hgrow5);clear hown5 hgrow5 hat5) | (at_builtin;refine zaj _ rfl (.tmp 31) (.tmp 34) 27 rfl (w.heap.size+1) 56 i1 _ 6 96 Tryz.underlying27 HI1.out.1 HI1.out.2.1 HI1.out.2.2.1 HI1.out.2.2.2 rfl (by decide) (.slice A5 (q+1) c5) (q+1) _ rfl HST5.out.own (some ⟨b,o+q * 6,none⟩) (n - q) (c - q) xs3 rfl (fun e=>by cases e) HP.out.2.2.1 (HP.out.2.cells HST5.out.below rfl rfl (.inr rfl)) HP.out.2.2.2.1 B1.out.2.2.1 B1.out.2.2.2 HST5.out.size ?_;intro v7 W7 hown7 hgrow7 hat7;obtain ⟨A7,c7,rfl⟩:=zaf hown7;have HST7:=hid (HST5.out.app (HP.out.2.put HST5.out.below) hown7 hgrow7);clear hown7 hgrow7 hat7))
    go_ret
    have h7:=HFIN.out _ _ HST7.out
    first | exact h7 | (rw [Nat.add_sub_cancel' (by omega)] at h7;exact h7) | exact (by have h8:=h7;simpa using h8)
open Go Go.RowKit Go.Shelf
def low7 (c:UInt8):Int:=(c.toNat:Int) % 128
def plainB (s:ByteArray):ByteArray:=strOfNums ((s.data.toList.take 40).map low7)
theorem zax (s:ByteArray):(plainB s).size<=40:=by
 unfold plainB;rw [strOfNums_size,List.length_map,List.length_take];omega
theorem zaY (s:ByteArray):valid (plainB s)=true:=by
 unfold valid;have h:=Lib.validD_ascii (plainB s).data.toList.length (plainB s).data.toList (fun b hb=>by
  rw [List.take_length] at hb;unfold plainB at hb;rw [strOfNums_data] at hb;obtain ⟨n,hn,rfl⟩:=List.mem_map.1 hb;obtain ⟨c,_,rfl⟩:=List.mem_map.1 hn;unfold low7;have:((c.toNat:Int) % 128).toNat<128:=by omega
  rw [UInt8.toNat_ofNat'];omega)
 rw [h,List.drop_length]
 rfl
theorem infoByte:(Tryz.prog.info? 5).map (fun i=>(i.zero,i.size,i.bytes))=some (some (.int .u8 0),1,1):=by kernel_rfl
def PlainRel (w:World) (s:ByteArray) (v i:Value) (wr:World):Prop:=∃ k:Nat,i=.int .i64 k/\k<=s.size/\k<=40 /\
 wr.ownsRow w.heap.size 5 1 v k (((s.data.toList.take k).map low7).map (Value.int .u8))/\Below w.heap.size w wr
theorem zgz (s:ByteArray) (w:World) (_hs:s.size<=9223372036854775807):
  Calls Tryz.prog 34 #[.string s] w fun e w'=>e=.returned (.string (plainB s))/\Below w.heap.size w w':=by
 obtain ⟨i0,hi0,hz0,hz1,hz2⟩:=info_parts infoByte;have HI0:=hid (And.intro hi0 (And.intro hz0 (And.intro hz1 hz2)));clear hi0 hz0 hz1 hz2;go_enter Tryz.func34,Tryz.ntmps34
 go_wp2
 go_loopw [3,4] (PlainRel w s) (fun _ i _=>s.size - (intOf i).toNat)
 case atStart=>exact ⟨0,rfl,Nat.zero_le _,Nat.zero_le _,World.ownsRow_nil _ _ _ _,Below.refl _ _⟩
 case round=>
  obtain ⟨k,rfl,hk,hk40,hown,hB⟩:=hrel;obtain ⟨A,c,rfl⟩:=zaf hown;by_cases hgo:k<s.size/\k<40
  ·obtain ⟨hlt,hlt40⟩:=hgo
   have hmax:k+1<=maxLen:=by unfold maxLen;omega
   have hby:(k+1) * 1<=140737488355328:=by omega
   have HM:=hid (And.intro hmax hby);have HO:=hid hown;have HB:=hid hB;have hsn:(s.data.toList.take (k+1)).map low7=(s.data.toList.take k).map low7++[low7 s[k]]:=by
    rw [List.take_succ_eq_append_getElem (by simpa using hlt),List.map_append]
    rfl
   have HSN:=hid hsn;have hb0:0<=(s[k].toNat:Int):=by omega
   have hb1:(s[k].toNat:Int)<=255:=by have:=s[k].toNat_lt;omega
   have hlow:low7 s[k]=(s[k].toNat:Int) % 128:=rfl;have HLOW:=hid hlow;clear hmax hby hown hB hsn hlow
   go_wp2_with (at_builtin;refine wpList_append_own_at _ rfl (.tmp 15) (.tmp 20) 40 rfl w.heap.size 5 i0 _ 1 1 Tryz.underlying40 HI0.out.1 HI0.out.2.1 HI0.out.2.2.1 HI0.out.2.2.2 rfl (by decide) (.slice A k c) k _ rfl (HO.out.alloc _) ⟨wr.heap.size,0,none⟩ 1 1 [.int .u8 ((s[k].toNat:Int) % 128)] rfl rfl (row_cells' _ _ rfl _ _) (by simp [Value.oneCell']) HM.out.1 HM.out.2 (by have:=HB.out.size;simp;omega) ?_;intro v3 W3 hown3 hgrow3 _ hat3;obtain ⟨A3,c3,rfl⟩:=zaf hown3;have H3:=hid (And.intro hown3 (And.intro hgrow3 hat3));clear hown3 hgrow3 hat3)
   go_roundw
   case rel=>exact ⟨k+1,by go_num,by omega,by omega,by rw [HSN.out,List.map_append];exact H3.out.1,(HB.out.alloc HB.out.size _).grown H3.out.2.1 (by have:=HB.out.size;simp;omega) (fun j hj=>(HO.out.lt j hj).1)⟩
   case measure=>simp [intOf];omega
  ·have htk:s.data.toList.take 40=s.data.toList.take k:=by
    by_cases h:k<s.size
    ·rw [show k=40 by omega]
    ·rw [List.take_of_length_le (by simp;omega),List.take_of_length_le (by simp;omega)]
   have hlen:((s.data.toList.take k).map low7).length=k:=by simp;omega
   have hconv:(convert 40 9 (.slice A k c)).run Tryz.prog wr=.ok (.string (plainB s)) wr:=by
    unfold plainB;rw [htk];rcases hown.2 with ⟨e,hn⟩ | ⟨g,cap,cur,e,_⟩
    ·cases e
     exact run_convert_bytes_nil wr _ _ Tryz.underlying40 Tryz.underlying5 _ _ _ Tryz.underlying9
    ·cases e
     refine run_convert_bytes_arg wr _ _ Tryz.underlying40 Tryz.underlying5 g 0 k c _ hlen (fun i hi=>?_) _ Tryz.underlying9
     generalize (s.data.toList.take k).map low7=xs at *;have:=hown.cells (g:=g) rfl i (.int .u8 (xs.getD i 0)) (by rw [List.getElem?_map,List.getElem?_eq_getElem (by omega)];simp [List.getElem?_eq_getElem (show i<xs.length by omega)])
     by_cases e:i=0<;>simpa [Addr.add,e] using this
   have HB:=hid hB;clear htk hlen hown hB;by_cases hlt:k<s.size
   ·have hk4:¬ k<40:=by omega
    clear hgo;go_wp2
    go_ret
    exact ⟨rfl,HB.out⟩
   ·clear hgo
    go_wp2
    go_ret
    exact ⟨rfl,HB.out⟩
open Go Go.RowKit
theorem zbM (key:ByteArray):∀ (ks:List ByteArray) (k:ByteArray),ks[place key ks]? = some k->less k key=false
 | [],_,h=>by simp at h
 | x :: r,k,h=>by
  unfold place at h;by_cases hx:less x key=true
  ·rw [if_pos hx,Nat.add_comm] at h
   exact zbM key r k (by simpa using h)
  ·rw [if_neg hx] at h
   simp at h
   subst h
   simpa using hx
theorem zdP (key:ByteArray) (ks:List ByteArray) (i:Nat):(insK key ks)[i]? = if i<place key ks then ks[i]? else if i=place key ks then some key else ks[insN key ks+(i - place key ks - 1)]?:=by
 have hp:=zbA key ks;unfold insK;rw [List.getElem?_append,List.length_take,Nat.min_eq_left hp];by_cases h:i<place key ks
 ·rw [if_pos h,if_pos h,List.getElem?_take,if_pos h]
 ·rw [if_neg h,if_neg h]
  by_cases e:i=place key ks
  ·subst e;simp
  ·rw [if_neg e]
   obtain ⟨j,hj⟩:∃ j,i - place key ks=j+1:=⟨i - place key ks - 1,by omega⟩
   rw [hj,List.getElem?_cons_succ,List.getElem?_drop]
   congr 1
theorem zkY (key:ByteArray) (ks:List ByteArray) (ov:List GV) (g:GV):(insV key ks ov g).length<=ov.length+1:=by
 unfold insV insN;simp
 split<;>omega
theorem zlt {key:ByteArray} {ks:List ByteArray} {ov:List GV} {g x:GV} (h:x∈insV key ks ov g):x=g\/x∈ov:=by
 unfold insV at h;simp only [List.mem_append,List.mem_cons] at h;rcases h with h | h | h
 ·exact .inr (List.mem_of_mem_take h)
 ·exact .inl h
 ·exact .inr (List.mem_of_mem_drop h)
theorem zhn (key:ByteArray) (ks:List ByteArray):place key ks<=insN key ks:=by unfold insN;omega
theorem ziq {a b c:ByteArray} (h:(a.toList == b.toList)=true) (hl:less' a c=true):less' b c=true:=by
 have:a.toList=b.toList:=by simpa using h
 unfold less' at *
 rwa [<- this]
theorem zis {key k:ByteArray} (h:less k key=false) (hne:(k.toList == key.toList)=false):less' key k=true:=by
 have:=zcl key.toList k.toList;unfold less at h;unfold less';rw [h] at this;have h2:(key.toList == k.toList)=false:=by
  have:¬ k.toList=key.toList:=by simpa using hne
  simpa using fun e=>this e.symm
 rw [h2] at this
 simpa using this
theorem zjf {key:ByteArray} {ks:List ByteArray} (h:KeysOk ks) (hv:valid key=true):KeysOk (insK key ks):=by
 have hp:=zbA key ks;have hq:=zhn key ks;intro i k _ hk;rw [zdP] at hk;by_cases h1:i<place key ks
 ·rw [if_pos h1] at hk
  have hi:i<ks.length:=by omega
  refine ⟨(h i k hi hk).1,fun j p e hj=>?_⟩
  rw [zdP,if_pos (by omega)] at hj
  exact (h i k hi hk).2 j p e hj
 ·rw [if_neg h1] at hk
  by_cases h2:i=place key ks
  ·rw [if_pos h2] at hk
   cases hk
   refine ⟨hv,fun j p e hj=>?_⟩
   rw [zdP,if_pos (by omega)] at hj
   exact zdV key ks j p hj (by omega)
  ·rw [if_neg h2] at hk
   have hi:insN key ks+(i - place key ks - 1)<ks.length:=(List.getElem?_eq_some_iff.1 hk).1;have hh:=h _ k hi hk;refine ⟨hh.1,fun j p e hj=>?_⟩
   rw [zdP,if_neg (by omega)] at hj
   by_cases h3:j=place key ks
   ·rw [if_pos h3] at hj
    cases hj
    have h0:i - place key ks - 1=0:=by omega
    rw [h0,Nat.add_zero] at hk;by_cases ht:there key ks=true
    ·have hN:insN key ks=place key ks+1:=by unfold insN;rw [if_pos ht]
     unfold there at ht;cases hx:ks[place key ks]? with
     | none=>rw [hx] at ht;simp at ht
     | some x=>
      rw [hx] at ht;rw [hN] at hk;exact ziq ht ((h (place key ks+1) k (by rw [hN] at hi;omega) hk).2 _ x rfl hx)
    ·have hN:insN key ks=place key ks:=by unfold insN;rw [if_neg ht];rfl
     rw [hN] at hk;refine zis (zbM key ks k hk) ?_
     unfold there at ht;rw [hk] at ht
     simpa using ht
   ·rw [if_neg h3] at hj
    exact hh.2 _ p (by omega) hj
mutual
def GV.mass:GV->Nat
 | .mk _ _ s l ks ov=>9+s.size+GV.masses l+(ks.map (·.size)).sum+GV.masses ov
def GV.masses:List GV->Nat
 | []=>0
 | g :: r=>GV.mass g+GV.masses r
end
mutual
theorem zeD:∀ (g:GV),g.weight<=g.mass
 | .mk k n s l ks ov=>by
  have h1:=zb9 l;have h2:=zb9 ov;simp only [GV.weight,GV.mass];omega
theorem zb9:∀ (l:List GV),GV.weights l<=GV.masses l
 | []=>by simp [GV.weights,GV.masses]
 | g :: r=>by
  have h1:=zeD g;have h2:=zb9 r;simp only [GV.weights,GV.masses];omega
end
theorem zbX:∀ (l:List GV) (p q:Nat),p<=q->GV.weights (l.take p)+GV.weights (l.drop q)<=GV.weights l
 | [],_,_,_=>by simp [GV.weights]
 | x :: r,0,0,_=>by simp [GV.weights]
 | x :: r,0,q+1,_=>by have:=zbX r 0 q (by omega);simp [GV.weights] at *;omega
 | x :: r,p+1,0,h=>by omega
 | x :: r,p+1,q+1,h=>by have:=zbX r p q (by omega);simp only [List.take_succ_cons,List.drop_succ_cons,GV.weights] at *;omega
theorem zdA:∀ (l:List GV) (p q:Nat),p<=q->GV.masses (l.take p)+GV.masses (l.drop q)<=GV.masses l
 | [],_,_,_=>by simp [GV.masses]
 | x :: r,0,0,_=>by simp [GV.masses]
 | x :: r,0,q+1,_=>by have:=zdA r 0 q (by omega);simp [GV.masses] at *;omega
 | x :: r,p+1,0,h=>by omega
 | x :: r,p+1,q+1,h=>by have:=zdA r p q (by omega);simp only [List.take_succ_cons,List.drop_succ_cons,GV.masses] at *;omega
theorem zeh (a b:List GV):GV.weights (a++b)=GV.weights a+GV.weights b:=by
 induction a with
 | nil=>simp [GV.weights]
 | cons x r ih=>simp [GV.weights,ih];omega
theorem ze9 (a b:List GV):GV.masses (a++b)=GV.masses a+GV.masses b:=by
 induction a with
 | nil=>simp [GV.masses]
 | cons x r ih=>simp [GV.masses,ih];omega
theorem zcO:∀ (l:List ByteArray) (p q:Nat),p<=q->ksum (l.take p)+ksum (l.drop q)<=ksum l
 | [],_,_,_=>by simp [ksum]
 | x :: r,0,0,_=>by simp [ksum]
 | x :: r,0,q+1,_=>by have:=zcO r 0 q (by omega);simp [ksum] at *;omega
 | x :: r,p+1,0,h=>by omega
 | x :: r,p+1,q+1,h=>by have:=zcO r p q (by omega);simp [ksum] at *;omega
theorem zhb (key:ByteArray) (ks:List ByteArray) (ov:List GV) (g:GV):GV.masses (insV key ks ov g)<=GV.masses ov+g.mass:=by
 unfold insV;have:=zdA ov (place key ks) (insN key ks) (zhn key ks);rw [ze9];simp only [GV.masses];omega
theorem ziW (key:ByteArray) (ks:List ByteArray):ksum (insK key ks)<=ksum ks+key.size:=by
 unfold insK;have:=zcO ks (place key ks) (insN key ks) (zhn key ks);simp [ksum] at *
 omega
def AscB (s:ByteArray):Prop:=∀ b∈s.data.toList,b.toNat<128
mutual
def GV.Asc:GV->Prop
 | .mk _ _ s l _ ov=>AscB s/\GV.Ascs l/\GV.Ascs ov
def GV.Ascs:List GV->Prop
 | []=>True
 | g :: r=>GV.Asc g/\GV.Ascs r
end
theorem zcQ:∀ (l:List GV),GV.Ascs l↔∀ x∈l,x.Asc
 | []=>by simp [GV.Ascs]
 | x :: r=>by simp [GV.Ascs,zcQ r]
theorem zbR:AscB ⟨#[]⟩:=fun b hb=>by simp at hb
theorem zeJ (s:ByteArray):AscB (plainB s):=fun b hb=>by
 unfold plainB at hb;rw [strOfNums_data] at hb;obtain ⟨n,hn,rfl⟩:=List.mem_map.1 hb;obtain ⟨c,_,rfl⟩:=List.mem_map.1 hn;unfold low7;have:((c.toNat:Int) % 128).toNat<128:=by omega
 rw [UInt8.toNat_ofNat'];omega
def Good (d:Nat) (g:GV):Prop:=g.Sound/\g.deep+d<=6/\g.PosN/\g.Asc
theorem zhG {l:List GV} {m:Nat} (h:∀ x∈l,1+x.deep<=m):GV.deeps l<=m:=by
 induction l with
 | nil=>simp [GV.deeps]
 | cons x r ih=>
  have h1:=h x (by simp)
  have h2:=ih fun y hy=>h y (by simp [hy])
  simp only [GV.deeps];omega
theorem ziE:KeysOk []:=fun i k h _=>by simp at h
theorem zgR (d:Nat) (hd:d<=6):Good d (.mk 0 0 ⟨#[]⟩ [] [] []):=⟨by simp [GV.Sound,GV.Sounds,SelfP],by simp [GV.deep,GV.deeps];exact hd,by simp [GV.PosN,GV.PosNs],by simp [GV.Asc,GV.Ascs,zbR]⟩
theorem zkk (d:Nat) (hd:d<=6) (n:Int) (hn:n=0\/n=1):Good d (.mk 1 n ⟨#[]⟩ [] [] []):=⟨by simp [GV.Sound,GV.Sounds,SelfP];exact hn,by simp [GV.deep,GV.deeps];exact hd,by simp [GV.PosN,GV.PosNs];omega,by simp [GV.Asc,GV.Ascs,zbR]⟩
theorem zlD (d:Nat) (hd:d<=6) (n:Int) (hn:-9223372036854775808<=n/\n<=9223372036854775807):Good d (.mk 2 n ⟨#[]⟩ [] [] []):=⟨by simp [GV.Sound,GV.Sounds,SelfP],by simp [GV.deep,GV.deeps];exact hd,by simp [GV.PosN,GV.PosNs];exact hn,by simp [GV.Asc,GV.Ascs,zbR]⟩
theorem zkf (d:Nat) (hd:d<=6) (s:ByteArray) (hs:valid s=true) (ha:AscB s):Good d (.mk 3 0 s [] [] []):=⟨by simp [GV.Sound,GV.Sounds,SelfP,hs],by simp [GV.deep,GV.deeps];exact hd,by simp [GV.PosN,GV.PosNs],by simp [GV.Asc,GV.Ascs,ha]⟩
theorem zj5 (d:Nat) (hd:d<=6) (l:List GV) (h:∀ x∈l,Good (d+1) x):Good d (.mk 4 0 ⟨#[]⟩ l [] []):=by
 refine ⟨?_,?_,?_,?_⟩
 ·simp only [GV.Sound,GV.Sounds,and_true]
  exact ⟨⟨by simp,by simp,.inr ⟨by simp,by simp⟩,.inl rfl,.inr ⟨by simp,rfl⟩⟩,(zap l).2 fun x hx=>(h x hx).1⟩
 ·have:GV.deeps l<=6 - d:=zhG fun x hx=>by have:=(h x hx).2.1;omega
  simp only [GV.deep,GV.deeps];omega
 ·simp only [GV.PosN,GV.PosNs,and_true]
  exact ⟨by omega,(zd7 l).2 fun x hx=>(h x hx).2.2.1⟩
 ·simp only [GV.Asc,GV.Ascs,and_true]
  exact ⟨zbR,(zcQ l).2 fun x hx=>(h x hx).2.2.2⟩
theorem zlv (d:Nat) (hd:d<=6) (ks:List ByteArray) (ov:List GV) (hk:KeysOk ks) (h:∀ x∈ov,Good (d+1) x):Good d (.mk 5 0 ⟨#[]⟩ [] ks ov):=by
 refine ⟨?_,?_,?_,?_⟩
 ·simp only [GV.Sound,GV.Sounds,true_and]
  exact ⟨⟨by simp,by simp,.inr ⟨by simp,by simp⟩,.inr rfl,.inl ⟨rfl,hk⟩⟩,(zap ov).2 fun x hx=>(h x hx).1⟩
 ·have:GV.deeps ov<=6 - d:=zhG fun x hx=>by have:=(h x hx).2.1;omega
  simp only [GV.deep,GV.deeps];omega
 ·simp only [GV.PosN,GV.PosNs,true_and]
  exact ⟨by omega,(zd7 ov).2 fun x hx=>(h x hx).2.2.1⟩
 ·simp only [GV.Asc,GV.Ascs,true_and]
  exact ⟨zbR,(zcQ ov).2 fun x hx=>(h x hx).2.2.2⟩
def OnePost (ts:List GTok) (d:Nat) (w:World) (e:Ending) (w':World):Prop:=
 ∃ (g:GV) (L O:Value) (n:Nat),e=.returned (.tuple #[.agg #[.int .u8 g.kq,.int .i64 g.num,.string g.str,L,O],.int .i64 n]) /\
  LstV (fun k=>w.heap.size<=k) w' L g.il/\ObjV (fun k=>w.heap.size<=k) w' O g.keys g.vz/\Good d g/\n<=ts.length/\(ts≠[]->1<=n)/\(ts=[]->n=0)/\g.mass+(if n=0 then 0 else 40)<=9+99 * n/\Below w.heap.size w w'
structure Ones (w:World) (t:GTok) (wr:World):Prop where
 below:Below w.heap.size w wr
 tok:Whole wr (w.heap.size+1) 53 #[.int .u8 t.k,.int .i64 t.n,.string t.s,.int .u8 t.m]
 res:∃ cs,cs.size=5/\Whole wr w.heap.size 29 cs
structure OneL (w:World) (t:GTok) (ts:List GTok) (d u k:Nat) (l:List GV) (vL:Value) (xs:List Value) (wr:World):Prop where
 ones:Ones w t wr
 val:Whole wr (w.heap.size+2) 29 #[.int .u8 4,.int .i64 0,.string ⟨#[]⟩,vL,.slice none 0 0]
 own:wr.ownsRow (w.heap.size+3) 29 5 vL l.length xs
 row:RowL (fun j=>w.heap.size+3<=j/\vL.ownBlock≠some j) wr l xs
 good:∀ x∈l,Good (d+1) x
 weigh:GV.masses l<=9 * k+99 * (u - 1)
 len:l.length=k
structure OneO (w:World) (t:GTok) (ts:List GTok) (d u k:Nat) (ks:List ByteArray) (ov:List GV) (vO:Value) (wr:World):Prop where
 ones:Ones w t wr
 val:Whole wr (w.heap.size+2) 29 #[.int .u8 5,.int .i64 0,.string ⟨#[]⟩,.slice none 0 0,vO]
 obj:ObjV (fun j=>w.heap.size+3<=j) wr vO ks ov
 keys:KeysOk ks
 good:∀ x∈ov,Good (d+1) x
 weigh:ksum ks+GV.masses ov<=9 * k+99 * (u - 1)
 len:ov.length<=k
section
variable {w wr W:World} {t:GTok} {ts:List GTok} {d u k:Nat} {l:List GV} {ks:List ByteArray} {ov:List GV} {vL vO:Value} {xs:List Value}
theorem Ones.step (h:Ones w t wr) (hb:Below wr.heap.size wr W):Ones w t W:=
 ⟨h.below.trans (hb.mono h.below.size),h.tok.below hb h.tok.lt,by obtain ⟨cs,h1,h2⟩:=h.res;exact ⟨cs,h1,h2.below hb h2.lt⟩⟩
theorem Ones.far (h:Ones w t wr) {p:Addr} (hp:w.heap.size+2<=p.block) (v:Value):Ones w t (wr.setCell p v):=
 ⟨h.below.setCell (by omega) _,h.tok.far (by omega) _,by obtain ⟨cs,h1,h2⟩:=h.res;exact ⟨cs,h1,h2.far (by omega) _⟩⟩
theorem Ones.grown (h:Ones w t wr) {row:Option Nat} (hg:wr.grownBy W row) (hr:∀ j,row=some j->w.heap.size+3<=j):Ones w t W:=
 ⟨h.below.grown hg h.below.size (fun j hj=>by have:=hr j hj;omega),h.tok.grown hg (fun e=>by have:=hr _ e.symm;omega),by obtain ⟨cs,h1,h2⟩:=h.res;exact ⟨cs,h1,h2.grown hg (fun e=>by have:=hr _ e.symm;omega)⟩⟩
theorem OneL.step (h:OneL w t ts d u k l vL xs wr) (hb:Below wr.heap.size wr W):OneL w t ts d u k l vL xs W:=
 ⟨h.ones.step hb,h.val.below hb h.val.lt,zaz h.own hb,h.row.keep (.of_below hb) (fun _ h _=>h),h.good,h.weigh,h.len⟩
theorem OneO.step (h:OneO w t ts d u k ks ov vO wr) (hb:Below wr.heap.size wr W):OneO w t ts d u k ks ov vO W:=
 ⟨h.ones.step hb,h.val.below hb h.val.lt,h.obj.keep (.of_below hb) (fun _ h _=>h),h.keys,h.good,h.weigh,h.len⟩
theorem at_ne' {W:World} {v v':Value} (hat:v'.ownBlock=v.ownBlock\/v'.ownBlock=some W.heap.size) {j:Nat} (h1:v.ownBlock≠some j) (h2:j<W.heap.size):v'.ownBlock≠some j:=by
 rcases hat with e | e
 ·rwa [e]
 ·rw [e];intro h;cases h;omega
theorem OneL.add (h:OneL w t ts d u k l vL xs wr) (hu:1<=u) {W1 W3:World} {v':Value} {g:GV} {L O:Value} {n:Nat} (hb1:Below wr.heap.size wr W1)
  (hL:LstV (fun j=>wr.heap.size<=j) W1 L g.il) (hO:ObjV (fun j=>wr.heap.size<=j) W1 O g.keys g.vz) (hg:Good (d+1) g) (hw:g.mass<=9+99 * n)
  (hown:W3.ownsRow (w.heap.size+3) 29 5 v' (l.length+1) (xs++chunk g L O)) (hgrow:W1.grownBy W3 vL.ownBlock) (hat:v'.ownBlock=vL.ownBlock\/v'.ownBlock=some W1.heap.size):
  OneL w t ts d (u+n) (k+1) (l++[g]) v' (xs++chunk g L O) (W3.setCell ⟨w.heap.size+2,3,none⟩ v'):=by
 have h1:=h.step hb1;have hsz:w.heap.size+3<=wr.heap.size:=by have:=h.val.lt;omega
 have hrow:∀ j,vL.ownBlock=some j->w.heap.size+3<=j:=fun j hj=>(h.own.lt j hj).1
 have hF:From (fun j=>w.heap.size+3<=j/\vL.ownBlock≠some j) W1 (W3.setCell ⟨w.heap.size+2,3,none⟩ v'):=fun j hj hlt=>
  (Below.heap_setCell W3 ⟨w.heap.size+2,3,none⟩ v' j (by simp only;omega)).trans (hgrow.block j hlt (fun e=>hj.2 e.symm))
 have hfr:∀ j,wr.heap.size<=j->w.heap.size+3<=j/\vL.ownBlock≠some j:=fun j hj=>⟨by omega,fun e=>by have:=(h.own.lt j e).2;omega⟩
 refine ⟨(h1.ones.grown hgrow hrow).far (by simp) _,(h1.val.grown hgrow (fun e=>by have:=hrow _ e.symm;omega)).put 3 v',?_,?_,?_,?_,?_⟩
 ·rw [List.length_append];exact ownsRow_setCell_below hown (by simp only;omega) _
 ·exact (RowL.snoc (hL.keep (From.refl _ _) fun j hj _=>hfr j hj) (hO.keep (From.refl _ _) fun j hj _=>hfr j hj) h1.row).keep hF fun j hj hlt=>⟨hj.1,at_ne' hat hj.2 hlt⟩
 ·intro x hx
  rcases List.mem_append.1 hx with hx | hx
  ·exact h.good x hx
  ·simp at hx;subst hx;exact hg
 ·have:=h.weigh
  rw [ze9];simp only [GV.masses];omega
 ·rw [List.length_append,h.len];rfl
theorem OneO.add (h:OneO w t ts d u k ks ov vO wr) (hu:1<=u) {W1 W3:World} {v':Value} {g:GV} {key:ByteArray} {n:Nat} (hb1:Below wr.heap.size wr W1) (hb3:Below W1.heap.size W1 W3)
  (hobj:ObjV (fun j=>w.heap.size+3<=j) W3 v' (insK key ks) (insV key ks ov g)) (hv:valid key=true) (hg:Good (d+1) g) (hw:g.mass+key.size<=9+99 * n):
  OneO w t ts d (u+n) (k+1) (insK key ks) (insV key ks ov g) v' (W3.setCell ⟨w.heap.size+2,4,none⟩ v'):=by
 have h3:=(h.step hb1).step hb3;refine ⟨h3.ones.far (by simp) _,h3.val.put 4 v',?_,zjf h.keys hv,?_,?_,?_⟩
 ·exact hobj.keep (fun j hj _=>Below.heap_setCell W3 ⟨w.heap.size+2,4,none⟩ v' j (by simp only;omega)) (fun _ h _=>h)
 ·intro x hx
  rcases zlt hx with rfl | hx
  ·exact hg
  ·exact h.good x hx
 ·have h1:=zhb key ks ov g
  have h2:=ziW key ks;have:=h.weigh;omega
 ·have:=zkY key ks ov g
  have:=h.len;omega
theorem zhJ (W:World) (b:Nat) (a0 a1 a2 a3 a4:Value):From (fun j=>b+1<=j) W (put5 W b a0 a1 a2 a3 a4):=fun j hj _=>zac W b a0 a1 a2 a3 a4 j (by omega)
theorem OneL.done (h:OneL w t ts d u k l vL xs wr) (hd:d<=6) (hu1:1<=u) (hu2:u<=ts.length) (hk:k<=3) (hW:Below wr.heap.size wr W) (a0 a1 a2 a3 a4:Value):
  OnePost ts d w (.returned (.tuple #[.agg #[.int .u8 4,.int .i64 0,.string ⟨#[]⟩,vL,.slice none 0 0],.int .i64 u])) (put5 W w.heap.size a0 a1 a2 a3 a4):=by
 have h1:=h.step hW;have hL:LstV (fun j=>w.heap.size+3<=j) W vL l:=LstV.of_own h1.own (h1.row.keep (From.refl _ _) fun j hj _=>hj.1) fun j hj=>(h1.own.lt j hj).1
 refine ⟨.mk 4 0 ⟨#[]⟩ l [] [],vL,_,u,rfl,hL.keep (fun j hj hlt=>zhJ W _ a0 a1 a2 a3 a4 j (by omega) hlt) (fun j hj _=>by omega),⟨rfl,.inl ⟨rfl,rfl⟩⟩,zj5 d hd l h.good,hu2,fun _=>hu1,fun e=>?_,?_,zae h1.ones.below (Nat.le_refl _) _ _ _ _ _⟩
 ·subst e;simp at hu2;omega
 ·have:=h.weigh
  rw [if_neg (by omega)]
  have e0:(⟨#[]⟩:ByteArray).size=0:=rfl;simp only [GV.mass,GV.masses,List.map_nil,List.sum_nil];omega
theorem OneO.done (h:OneO w t ts d u k ks ov vO wr) (hd:d<=6) (hu1:1<=u) (hu2:u<=ts.length) (hk:k<=3) (hW:Below wr.heap.size wr W) (a0 a1 a2 a3 a4:Value):
  OnePost ts d w (.returned (.tuple #[.agg #[.int .u8 5,.int .i64 0,.string ⟨#[]⟩,.slice none 0 0,vO],.int .i64 u])) (put5 W w.heap.size a0 a1 a2 a3 a4):=by
 have h1:=h.step hW;refine ⟨.mk 5 0 ⟨#[]⟩ [] ks ov,_,vO,u,rfl,.inl ⟨rfl,rfl⟩,h1.obj.keep (fun j hj hlt=>zhJ W _ a0 a1 a2 a3 a4 j (by omega) hlt) (fun j hj _=>by omega),zlv d hd ks ov h.keys h.good,hu2,fun _=>hu1,fun e=>?_,?_,zae h1.ones.below (Nat.le_refl _) _ _ _ _ _⟩
 ·subst e;simp at hu2;omega
 ·have:=h.weigh
  rw [if_neg (by omega)]
  have e0:(⟨#[]⟩:ByteArray).size=0:=rfl;unfold ksum at this;simp only [GV.mass,GV.masses];omega
theorem zd0 {g:GV} (hg:Good d g) (h1:g.il=[]) (h2:g.keys=[]) (h3:g.vz=[]) (h4:g.str.size<=40) (hts:ts≠[]) (hW:Below w.heap.size w W):
  OnePost ts d w (.returned (.tuple #[.agg #[.int .u8 g.kq,.int .i64 g.num,.string g.str,.slice none 0 0,.slice none 0 0],.int .i64 1])) W:=by
 refine ⟨g,_,_,1,rfl,.inl ⟨h1,rfl⟩,⟨by rw [h2,h3];rfl,.inl ⟨h3,rfl⟩⟩,hg,?_,fun _=>Nat.le_refl _,fun e=>absurd e hts,?_,hW⟩
 ·cases ts with
  | nil=>exact absurd rfl hts
  | cons _ _=>simp
 ·cases g with | mk k n s l ks ov=>
   simp only [GV.il,GV.keys,GV.vz,GV.str] at h1 h2 h3 h4;subst h1 h2 h3;simp [GV.mass,GV.masses]
   omega
end
open Go Go.RowKit
theorem zhs (A:Option Addr) (cap:Nat) (d:Nat) (hd:d<=6) (z:Int) (w:World):
  Calls Tryz.prog 16 #[.slice A 0 cap,.int .i64 z] w (OnePost [] d w):=by
 go_enter Tryz.func16,Tryz.ntmps16
 go_wp2
 refine bodyPost_ret (v:=.tuple #[.agg #[.int .u8 0,.int .i64 0,.string ⟨#[]⟩,.slice none 0 0,.slice none 0 0],.int .i64 0]) (by simp [results,Tryz.results16,go_sem]) rfl ?_
 exact ⟨.mk 0 0 ⟨#[]⟩ [] [] [],_,_,0,rfl,.inl ⟨rfl,rfl⟩,⟨rfl,.inl ⟨rfl,rfl⟩⟩,zgR d hd,Nat.zero_le _,fun h=>absurd rfl h,fun _=>rfl,by decide,(Below.refl _ _).alloc (Nat.le_refl _) _⟩
def OneRelL (w:World) (t:GTok) (ts:List GTok) (d:Nat) (used i:Value) (wr:World):Prop:=
 ∃ (u k:Nat) (l:List GV) (vL:Value) (xs:List Value),used=.int .i64 u/\i=.int .u8 k/\1<=u/\u<=ts.length/\(k:Int)<=t.m % 4/\OneL w t ts d u k l vL xs wr
def OneRelO (w:World) (t:GTok) (ts:List GTok) (d:Nat) (used i:Value) (wr:World):Prop:=
 ∃ (u k:Nat) (ks:List ByteArray) (ov:List GV) (vO:Value),used=.int .i64 u/\i=.int .u8 k/\1<=u/\u<=ts.length/\(k:Int)<=t.m % 4/\OneO w t ts d u k ks ov vO wr
theorem zkM (n:Int):bits .and .i64 n 1=0\/bits .and .i64 n 1=1:=by
 have h1:(BitVec.ofInt 64 1).toNat=2 ^ 1 - 1:=by decide
 have key:(BitVec.ofInt 64 n &&& BitVec.ofInt 64 1).toNat=(n % ((2 ^ 64:Nat):Int)).toNat % 2 ^ 1:=by
  rw [BitVec.toNat_and,BitVec.toNat_ofInt,h1,Nat.and_two_pow_sub_one_eq_mod]
 show IntKind.i64.wrap ((BitVec.ofInt 64 n &&& BitVec.ofInt 64 1).toNat:Nat)=0\/IntKind.i64.wrap ((BitVec.ofInt 64 n &&& BitVec.ofInt 64 1).toNat:Nat)=1
 rw [key,IntKind.wrap_i64];omega
theorem two {wr W1:World} (h:Below wr.heap.size wr W1) {o o':Obj}:Below wr.heap.size wr ((W1.alloc o).alloc o'):=(h.alloc h.size _).alloc (by have:=h.size;simp;omega) _
theorem one1 {wr W1:World} (h:Below wr.heap.size wr W1) {o:Obj}:Below wr.heap.size wr (W1.alloc o):=h.alloc h.size _
theorem zgm {W1:World} {ok:Nat->Prop} (o:Obj):From ok W1 (W1.alloc o):=fun _ _ hj=>Below.heap_alloc _ _ _ hj
theorem zcu {W1:World} {ok:Nat->Prop} (o o':Obj):From ok W1 ((W1.alloc o).alloc o'):=fun j _ hj=>by rw [Below.heap_alloc _ _ _ (by simp;omega),Below.heap_alloc _ _ _ hj]
theorem zgd {w:World} {t:GTok} {o:Obj}:Ones w t (((w.alloc (.cells #[.int .u8 0,.int .i64 0,.string ⟨#[]⟩,.slice none 0 0,.slice none 0 0] 29)).alloc (.cells #[.int .u8 t.k,.int .i64 t.n,.string t.s,.int .u8 t.m] 53)).alloc o):=by
 refine ⟨(((Below.refl _ _).alloc (Nat.le_refl _) _).alloc (by simp) _).alloc (by simp;omega) _,?_,_,rfl,((Whole.new w _ _).alloc _).alloc _⟩
 have h:=(Whole.new (w.alloc (.cells #[.int .u8 0,.int .i64 0,.string ⟨#[]⟩,.slice none 0 0,.slice none 0 0] 29)) 53 #[.int .u8 t.k,.int .i64 t.n,.string t.s,.int .u8 t.m]).alloc o;rw [World.size_alloc] at h;exact h
theorem ziY {w:World} {o o':Obj} {t:TypeId} {cs:Array Value}:Whole (((w.alloc o).alloc o').alloc (.cells cs t)) (w.heap.size+2) t cs:=by
 have h:=Whole.new ((w.alloc o).alloc o') t cs;rw [World.size_alloc,World.size_alloc] at h;exact h
theorem zhZ {F hi n u d cap ab ao:Nat} {w wr:World} {t:GTok} {rest:List GTok}
  (IH:∀ (hi:Nat) (A:Option Addr) (cap:Nat) (ts:List GTok) (d:Nat) (w:World),ts.length<=F->ts.length<=cap->cap<=maxLen->ts.length<=200->d<=6->hi<=w.heap.size->Toks hi w A ts ->
   (∀ t∈ts,0<=t.k/\t.k<=255/\0<=t.m/\t.m<=255)->(∀ t∈ts,t.s.size<=140737488351232)->Calls Tryz.prog 16 #[.slice A ts.length cap,.int .i64 d] w (OnePost ts d w))
  (HN:(t :: rest).length=n) (HT:Toks hi w (some ⟨ab,ao,none⟩) (t :: rest)) (h:Ones w t wr) (HR:∀ x∈t :: rest,0<=x.k/\x.k<=255/\0<=x.m/\x.m<=255) (HSZ:∀ x∈t :: rest,x.s.size<=140737488351232)
  (hF:n<=F+1) (hcap:n<=cap) (hm:cap<=maxLen) (h200:n<=200) (hd:d+1<=6) (hhi:hi<=w.heap.size) (hl:ab<hi) (hu1:1<=u) (hun:u<=n) (A:Option Addr) (c:Nat) (hA:u=n\/A=some ⟨ab,ao+u * 4,none⟩/\c=cap - u):
  Calls Tryz.prog 16 #[.slice A (n - u) c,.int .i64 ((d:Int)+1)] wr (OnePost ((t :: rest).drop u) (d+1) wr):=by
 rcases hA with rfl | ⟨rfl,rfl⟩
 ·have e:(t :: rest).drop u=[]:=List.drop_of_length_le (by omega)
  rw [e,Nat.sub_self];exact zhs A c (d+1) hd _ wr
 ·have hTk:Toks hi wr (some ⟨ab,ao+u * 4,none⟩) ((t :: rest).drop u):=fun _=>⟨⟨ab,ao+u * 4,none⟩,rfl,rfl,hl,fun i t' ht'=>by
   have:=(HT.keep (h.below.mono hhi) (Nat.le_refl _)) (by simp)
   obtain ⟨a,ha,_,_,hc⟩:=this;cases ha
   have:=hc (u+i) t' (by rw [<- ht',List.getElem?_drop])
   simp only [show ao+u * 4+i * 4=ao+(u+i) * 4 by omega]
   exact this⟩
  have:=IH hi (some ⟨ab,ao+u * 4,none⟩) (cap - u) ((t :: rest).drop u) (d+1) wr (by rw [List.length_drop,HN];omega) (by rw [List.length_drop,HN];omega) (by unfold maxLen at *;omega) (by rw [List.length_drop,HN];omega) hd (by have:=h.below.size;omega) hTk (fun x hx=>HR x (List.mem_of_mem_drop hx)) (fun x hx=>HSZ x (List.mem_of_mem_drop hx))
  rw [List.length_drop,HN] at this;exact this
theorem zlS (F:Nat):∀ (hi:Nat) (A:Option Addr) (cap:Nat) (ts:List GTok) (d:Nat) (w:World),ts.length<=F->ts.length<=cap->cap<=maxLen->ts.length<=200->d<=6->hi<=w.heap.size->Toks hi w A ts ->
  (∀ t∈ts,0<=t.k/\t.k<=255/\0<=t.m/\t.m<=255)->(∀ t∈ts,t.s.size<=140737488351232) ->
  Calls Tryz.prog 16 #[.slice A ts.length cap,.int .i64 d] w (OnePost ts d w):=by
 induction F with
 | zero=>
  intro hi A cap ts d w hF _ _ _ hd _ _ _ _;have:ts=[]:=List.eq_nil_of_length_eq_zero (by omega)
  subst this;exact zhs A cap d hd _ w
 | succ F ih=>
  intro hi A cap ts d w hF hcap hm h200 hd hhi hT hrange hsz;by_cases hts:ts=[]
  ·subst hts;exact zhs A cap d hd _ w
  obtain ⟨⟨ab,ao,_⟩,rfl,rfl,hl,hc⟩:=hT hts;obtain ⟨t,rest,rfl⟩:∃ t r,ts=t :: r:=by cases ts with | nil=>exact absurd rfl hts | cons t r=>exact ⟨t,r,rfl⟩
  obtain ⟨hc0,hc1,hc2,hc3⟩:=hc 0 t rfl;simp only [Nat.zero_mul,Nat.add_zero] at hc0 hc1 hc2 hc3;simp only at hl;have hcA:∀ (o:Obj) (j:Nat) (v:Value),w.cell? ⟨ab,j,none⟩=some v->(w.alloc o).cell? ⟨ab,j,none⟩=some v:=fun o j v h=>(World.cell?_of_block (a:=⟨ab,j,none⟩) (Below.heap_alloc w o ab (by omega))).trans h
  have hd0:=fun o=>hcA o _ _ hc0
  have hd1:=fun o=>hcA o _ _ hc1
  have hd2:=fun o=>hcA o _ _ hc2
  have hd3:=fun o=>hcA o _ _ hc3
  clear hcA hc0 hc1 hc2 hc3;obtain ⟨hk0,hk1,hm0,hm1⟩:=hrange t (by simp)
  have hts0:=hsz t (by simp)
  have hpz:(plainB t.s).size<=40:=zax _;unfold maxLen at hm;have HT:=hid hT;have HC:=hid hc;have HR:=hid hrange;have HI:=hid ih;have HSZ:=hid hsz;have HNE:=hid hts;clear hT hc hrange ih hts hsz;generalize hn:(t :: rest).length=n at *;have HN:=hid hn;have hn1:1<=n:=by rw [<- hn];simp
  clear hn;have hnz:((n:Int) == 0)=false:=by simp;omega
  have hpl:=fun W=>zgz t.s W (by omega)
  have HPL:=hid hpl;clear hpl;have hj:t.k % 6=0\/t.k % 6=1\/t.k % 6=2\/t.k % 6=3\/t.k % 6=4\/t.k % 6=5:=by omega
  have hb2:∀ (o1 o2:Obj),Below w.heap.size w ((w.alloc o1).alloc o2):=fun o1 o2=>((Below.refl _ _).alloc (Nat.le_refl _) _).alloc (by simp) _
  have HB2:=hid hb2;clear hb2;rcases hj with hj | hj | hj | hj | hj | hj
  ·go_enter Tryz.func16,Tryz.ntmps16
   go_wp2
   refine bodyPost_ret (v:=.tuple #[.agg #[.int .u8 0,.int .i64 0,.string ⟨#[]⟩,.slice none 0 0,.slice none 0 0],.int .i64 1]) (by simp [results,Tryz.results16,go_sem]) rfl ?_
   exact zd0 (g:=.mk 0 0 ⟨#[]⟩ [] [] []) (zgR d hd) rfl rfl rfl (by decide) HNE.out (HB2.out _ _)
  ·go_enter Tryz.func16,Tryz.ntmps16
   go_wp2
   refine bodyPost_ret (v:=.tuple #[.agg #[.int .u8 1,.int .i64 _,.string ⟨#[]⟩,.slice none 0 0,.slice none 0 0],.int .i64 1]) (by simp [results,Tryz.results16,go_sem];rfl) rfl ?_
   exact zd0 (g:=.mk 1 (bits .and .i64 t.n 1) ⟨#[]⟩ [] [] []) (zkk d hd _ (zkM _)) rfl rfl rfl (by show (⟨#[]⟩:ByteArray).size<=40;decide) HNE.out (HB2.out _ _)
  ·go_enter Tryz.func16,Tryz.ntmps16
   go_wp2
   refine bodyPost_ret (v:=.tuple #[.agg #[.int .u8 2,.int .i64 t.n,.string ⟨#[]⟩,.slice none 0 0,.slice none 0 0],.int .i64 1]) (by simp [results,Tryz.results16,go_sem]) rfl ?_
   exact zd0 (g:=.mk 2 t.n ⟨#[]⟩ [] [] []) (zlD d hd _ t.hn) rfl rfl rfl (by show (⟨#[]⟩:ByteArray).size<=40;decide) HNE.out (HB2.out _ _)
  ·go_enter Tryz.func16,Tryz.ntmps16
   go_wp2_with (go_at_call 34;refine (HPL.out _).mono ?_;rintro e W1 ⟨rfl,hb1⟩;have HB1:=hid hb1;obtain ⟨x0,x1,x2,x3,x4,f0,f1,f2,f3,f4⟩:=(((Whole.new w 29 #[.int .u8 0,.int .i64 0,.string ⟨#[]⟩,.slice none 0 0,.slice none 0 0]).alloc (.cells #[.int .u8 t.k,.int .i64 t.n,.string t.s,.int .u8 t.m] 53)).below hb1 (by simp;omega)).five;clear hb1)
   refine bodyPost_ret (v:=.tuple #[.agg #[.int .u8 3,.int .i64 0,.string (plainB t.s),.slice none 0 0,.slice none 0 0],.int .i64 1]) (by simp [results,Tryz.results16,go_sem,x0,x1,x2,x3,x4]) rfl ?_
   exact zd0 (g:=.mk 3 0 (plainB t.s) [] [] []) (zkf d hd _ (zaY _) (zeJ _)) rfl rfl rfl hpz HNE.out (zae ((HB2.out _ _).trans (HB1.out.mono (by simp;omega))) (Nat.le_refl _) _ _ _ _ _)
  ·go_enter Tryz.func16,Tryz.ntmps16
   go_wp2
   clear hj
   go_loopw [7,9] (OneRelL w t (t :: rest) d) (fun _ i _=>(t.m % 4 - intOf i).toNat)
   case atStart=>
    refine ⟨1,0,[],_,[],rfl,rfl,Nat.le_refl _,by simp,by simp only [Int.ofNat_zero];omega,zgd,?_,World.ownsRow_nil _ _ _ _,rfl,(by simp),by simp [GV.masses],rfl⟩
    exact ziY
   case round=>
    obtain ⟨u,k,l,vL,xs,rfl,rfl,hu1,hu2,hk,h⟩:=hrel;obtain ⟨AL,cL,rfl⟩:=zaf h.own;have ht3:wr.cell? ⟨w.heap.size+1,3,none⟩=some (.int .u8 t.m):=(h.ones.tok.cell 3).trans rfl;have hun:u<=n:=by rw [<- HN.out];exact hu2
    have HU:=hid hu2;have HP:=hid h;clear hu2 h;by_cases hgo:(k:Int)<t.m % 4/\d<6
    ·obtain ⟨hlt,hd6⟩:=hgo
     have hd6z:(d:Int)<6:=by omega
     have hk3:(k:Int)<=3:=by omega
     have hmax:l.length+1<=maxLen:=by have:=HP.out.len;unfold maxLen;omega
     have hby:(l.length+1) * 80<=140737488355328:=by have:=HP.out.len;omega
     have HM:=hid (And.intro hmax hby);obtain ⟨i0,hi0,hz0,hz1,hz2⟩:=info_parts infoVal;have HI0:=hid (And.intro hi0 (And.intro hz0 (And.intro hz1 hz2)));clear hi0 hz0 hz1 hz2 hmax hby;have hcall:∀ A c,(u=n\/A=some ⟨ab,ao+u * 4,none⟩/\c=cap - u)->Calls Tryz.prog 16 #[.slice A (n - u) c,.int .i64 ((d:Int)+1)] wr (OnePost ((t :: rest).drop u) (d+1) wr):=fun A c hA=>zhZ HI.out HN.out HT.out HP.out.ones HR.out HSZ.out hF hcap (by unfold maxLen;omega) h200 (by omega) hhi hl hu1 hun A c hA
     have HC2:=hid hcall;have HDR:=hid (show ((t :: rest).drop u).length=n - u by rw [List.length_drop,HN.out])
     clear hcall;by_cases hend:u=n
     ·subst hend
      have hz:u - u=0:=Nat.sub_self u;rw [hz] at HC2
      go_wp2_with (first | (go_at_call 16;refine (HC2.out _ _ (.inl rfl)).mono ?_;rintro e W1 ⟨g,L,O,n1,rfl,hL,hO,hgd,hn1,hn2,hn3,hw1,hb1⟩;obtain ⟨BL,dL,rfl⟩:=zah hL;obtain ⟨BO,dO,rfl⟩:=zag hO;have H1:=hid (And.intro hL (And.intro hO (And.intro hgd (And.intro hn2 (And.intro hw1 hb1)))));have hn1':n1<=0:=by { have:=HDR.out;omega };have hq:=HP.out.step hb1;have q3:∀ o,(W1.alloc o).cell? ⟨w.heap.size+1+1,3,none⟩=some (.slice AL l.length cL):=fun o=>zab o ((hq.val.cell 3).trans rfl);clear hL hO hgd hn1 hn2 hn3 hw1 hb1 hq) | (at_builtin;refine wpList_append_own_at _ rfl (.tmp 71) (.tmp 73) 26 rfl (w.heap.size+3) 29 i0 _ 5 80 Tryz.underlying26 HI0.out.1 HI0.out.2.1 HI0.out.2.2.1 HI0.out.2.2.2 rfl (by decide) (.slice AL l.length cL) l.length xs rfl ((HP.out.step (two H1.out.2.2.2.2.2)).own) ⟨W1.heap.size+1,0,none⟩ 1 1 (chunk g (.slice BL g.il.length dL) (.slice BO g.vz.length dO)) rfl rfl (row_cells' _ _ (by simp) _ _) (by simp [chunk,Value.oneCell']) HM.out.1 HM.out.2 (by have:=HP.out.val.lt;have:=H1.out.2.2.2.2.2.size;simp;omega) ?_;intro v3 W3 hown3 hgrow3 _ hat3;obtain ⟨A3,c3,rfl⟩:=zaf hown3;have hq:=((HP.out.step (two H1.out.2.2.2.2.2)).val.grown hgrow3 (fun e=>by have:=(HP.out.own.lt _ e.symm).1;omega));have w31:W3.cell? ⟨w.heap.size+1+1,3,none⟩=some (.slice AL l.length cL):=(hq.cell 3).trans rfl;have w32:W3.frozen? ⟨w.heap.size+1+1,3,none⟩=false:=hq.frozen 3;have H3:=hid (And.intro hown3 (And.intro hgrow3 hat3));clear hown3 hgrow3 hat3 hq))
      all_goals
       go_roundw
       case rel=>exact ⟨u+n1,k+1,_,_,_,by go_num,by go_num,by omega,by rw [HN.out];omega,by push_cast;omega,HP.out.add hu1 (two H1.out.2.2.2.2.2) (H1.out.1.keep (zcu _ _) (fun _ h _=>h)) (H1.out.2.1.keep (zcu _ _) (fun _ h _=>h)) H1.out.2.2.1 (by have:=H1.out.2.2.2.2.1;split at this<;>omega) H3.out.1 H3.out.2.1 H3.out.2.2⟩
       case measure=>simp [intOf];omega
     ·have hcu:¬ cap=u:=by omega
      go_wp2_with (first | (go_at_call 16;refine (HC2.out (some ⟨ab,ao+u * 4,none⟩) (cap - u) (.inr ⟨rfl,rfl⟩)).mono ?_;rintro e W1 ⟨g,L,O,n1,rfl,hL,hO,hgd,hn1,hn2,hn3,hw1,hb1⟩;obtain ⟨BL,dL,rfl⟩:=zah hL;obtain ⟨BO,dO,rfl⟩:=zag hO;have H1:=hid (And.intro hL (And.intro hO (And.intro hgd (And.intro hn2 (And.intro hw1 hb1)))));have hn1':n1<=n - u:=by { have:=HDR.out;omega };have hq:=HP.out.step hb1;have q3:∀ o,(W1.alloc o).cell? ⟨w.heap.size+1+1,3,none⟩=some (.slice AL l.length cL):=fun o=>zab o ((hq.val.cell 3).trans rfl);clear hL hO hgd hn1 hn2 hn3 hw1 hb1 hq) | (at_builtin;refine wpList_append_own_at _ rfl (.tmp 71) (.tmp 73) 26 rfl (w.heap.size+3) 29 i0 _ 5 80 Tryz.underlying26 HI0.out.1 HI0.out.2.1 HI0.out.2.2.1 HI0.out.2.2.2 rfl (by decide) (.slice AL l.length cL) l.length xs rfl ((HP.out.step (two H1.out.2.2.2.2.2)).own) ⟨W1.heap.size+1,0,none⟩ 1 1 (chunk g (.slice BL g.il.length dL) (.slice BO g.vz.length dO)) rfl rfl (row_cells' _ _ (by simp) _ _) (by simp [chunk,Value.oneCell']) HM.out.1 HM.out.2 (by have:=HP.out.val.lt;have:=H1.out.2.2.2.2.2.size;simp;omega) ?_;intro v3 W3 hown3 hgrow3 _ hat3;obtain ⟨A3,c3,rfl⟩:=zaf hown3;have hq:=((HP.out.step (two H1.out.2.2.2.2.2)).val.grown hgrow3 (fun e=>by have:=(HP.out.own.lt _ e.symm).1;omega));have w31:W3.cell? ⟨w.heap.size+1+1,3,none⟩=some (.slice AL l.length cL):=(hq.cell 3).trans rfl;have w32:W3.frozen? ⟨w.heap.size+1+1,3,none⟩=false:=hq.frozen 3;have H3:=hid (And.intro hown3 (And.intro hgrow3 hat3));clear hown3 hgrow3 hat3 hq))
      go_roundw
      case rel=>first | exact ⟨u+n1,k+1,_,_,_,by go_num,by go_num,by omega,by rw [HN.out];omega,by push_cast;omega,HP.out.add hu1 (two H1.out.2.2.2.2.2) (H1.out.1.keep (zcu _ _) (fun _ h _=>h)) (H1.out.2.1.keep (zcu _ _) (fun _ h _=>h)) H1.out.2.2.1 (by have:=H1.out.2.2.2.2.1;split at this<;>omega) H3.out.1 H3.out.2.1 H3.out.2.2⟩ | ((repeat apply Exists.intro);exact ⟨⟨u+n1,k+1,_,_,_,by go_num,by go_num,by omega,by rw [HN.out];omega,by push_cast;omega,HP.out.add hu1 (two H1.out.2.2.2.2.2) (H1.out.1.keep (zcu _ _) (fun _ h _=>h)) (H1.out.2.1.keep (zcu _ _) (fun _ h _=>h)) H1.out.2.2.1 (by have:=H1.out.2.2.2.2.1;split at this<;>omega) H3.out.1 H3.out.2.1 H3.out.2.2⟩,rfl⟩)
      case measure=>simp [intOf];omega
    ·obtain ⟨v0,v1,v2,v3,v4,_⟩:=HP.out.val.five
     obtain ⟨⟨cs⟩,hcs,hr⟩:=HP.out.ones.res
     match cs,hcs with
     | [z0,z1,z2,z3,z4],_=>
      obtain ⟨y0,y1,y2,y3,y4,f0,f1,f2,f3,f4⟩:=hr.five;have hk3:k<=3:=by omega
      by_cases hlt:(k:Int)<t.m % 4
      ·have hd6:¬ (d:Int)<6:=by omega
       clear hgo;go_wp2
       refine bodyPost_ret (v:=.tuple #[.agg #[.int .u8 4,.int .i64 0,.string ⟨#[]⟩,.slice AL l.length cL,.slice none 0 0],.int .i64 u]) (by simp [results,Tryz.results16,go_sem,y0,y1,y2,y3,y4]) rfl ?_
       exact HP.out.done hd hu1 HU.out hk3 (Below.refl _ _) _ _ _ _ _
      ·clear hgo
       go_wp2
       refine bodyPost_ret (v:=.tuple #[.agg #[.int .u8 4,.int .i64 0,.string ⟨#[]⟩,.slice AL l.length cL,.slice none 0 0],.int .i64 u]) (by simp [results,Tryz.results16,go_sem,y0,y1,y2,y3,y4]) rfl ?_
       exact HP.out.done hd hu1 HU.out hk3 (Below.refl _ _) _ _ _ _ _
  ·go_enter Tryz.func16,Tryz.ntmps16
   go_wp2
   clear hj
   go_loopw [7,13] (OneRelO w t (t :: rest) d) (fun _ i _=>(t.m % 4 - intOf i).toNat)
   case atStart=>
    refine ⟨1,0,[],[],_,rfl,rfl,Nat.le_refl _,by simp,by simp only [Int.ofNat_zero];omega,zgd,?_,⟨rfl,.inl ⟨rfl,rfl⟩⟩,ziE,(by simp),by simp [GV.masses,ksum],Nat.le_refl _⟩
    exact ziY
   case round=>
    obtain ⟨u,k,ks,ov,vO,rfl,rfl,hu1,hu2,hk,h⟩:=hrel;obtain ⟨AO,cO,rfl⟩:=zag h.obj;have ht3:wr.cell? ⟨w.heap.size+1,3,none⟩=some (.int .u8 t.m):=(h.ones.tok.cell 3).trans rfl;have hun:u<=n:=by rw [<- HN.out];exact hu2
    have HU:=hid hu2;have HP:=hid h;clear hu2 h;by_cases hgo:(k:Int)<t.m % 4/\d<6
    ·obtain ⟨hlt,hd6⟩:=hgo
     have hd6z:(d:Int)<6:=by omega
     have hk3:(k:Int)<=3:=by omega
     have hcall:∀ W,Below wr.heap.size wr W->∀ A c,(u=n\/A=some ⟨ab,ao+u * 4,none⟩/\c=cap - u)->Calls Tryz.prog 16 #[.slice A (n - u) c,.int .i64 ((d:Int)+1)] W (OnePost ((t :: rest).drop u) (d+1) W):=fun W hW A c hA=>zhZ HI.out HN.out HT.out (HP.out.ones.step hW) HR.out HSZ.out hF hcap (by unfold maxLen;omega) h200 (by omega) hhi hl hu1 hun A c hA
     have HC2:=hid hcall;have HDR:=hid (show ((t :: rest).drop u).length=n - u by rw [List.length_drop,HN.out])
     clear hcall;by_cases hend:u=n
     ·subst hend
      have hz:u - u=0:=Nat.sub_self u;rw [hz] at HC2;have HBP:=hid (Below.refl wr.heap.size wr)
      go_wp2_with (first | (go_at_call 16;refine (HC2.out _ HBP.out _ _ (.inl rfl)).mono ?_;rintro e W1 ⟨g,L,O,n1,rfl,hL,hO,hgd,hn1,hn2,hn3,hw1,hb1⟩;obtain ⟨BL,dL,rfl⟩:=zah hL;obtain ⟨BO,dO,rfl⟩:=zag hO;have hb2:=HBP.out.trans (hb1.mono HBP.out.size);have H1:=hid (And.intro hL (And.intro hO (And.intro hgd (And.intro hn2 (And.intro hw1 hb2)))));have hn1':n1<=0:=by { have:=HDR.out;omega };have hq:=HP.out.step hb2;have q4:∀ o,(W1.alloc o).cell? ⟨w.heap.size+1+1,4,none⟩=some (.slice AO ov.length cO):=fun o=>zab o ((hq.val.cell 4).trans rfl);clear hL hO hgd hn1 hn2 hn3 hw1 hb1 hb2 hq) | (go_at_call 35;refine (zhH (fun j=>w.heap.size+3<=j) _ ks ov ⟨#[]⟩ g _ _ ((HP.out.step (one1 H1.out.2.2.2.2.2)).obj) (GV.val_keep (zgm _) (fun j hj _=>by have h0:=HP.out.val.lt;have h9:=HBP.out.size;omega) (⟨_,_,rfl,H1.out.1,H1.out.2.1⟩)) (by have:=HP.out.len;omega)).mono ?_;rintro e W3 ⟨v3,rfl,hobj,hb3⟩;obtain ⟨A3,c3,rfl⟩:=zag hobj;have hq:=(HP.out.step (one1 H1.out.2.2.2.2.2)).step hb3;have w31:W3.cell? ⟨w.heap.size+1+1,4,none⟩=some (.slice AO ov.length cO):=(hq.val.cell 4).trans rfl;have w32:W3.frozen? ⟨w.heap.size+1+1,4,none⟩=false:=hq.val.frozen 4;have H3:=hid (And.intro (hobj.keep (ok':=fun j=>w.heap.size+3<=j) (From.refl _ _) (fun j hj _=>by rcases hj with hj | hj;exact hj;have:=HP.out.val.lt;have:=H1.out.2.2.2.2.2.size;simp at hj;omega)) hb3);clear hobj hb3 hq))
      all_goals
       go_roundw
       case rel=>exact ⟨u+n1,k+1,_,_,_,by go_num,by go_num,by omega,by rw [HN.out];omega,by push_cast;omega,HP.out.add hu1 (one1 H1.out.2.2.2.2.2) H3.out.2 H3.out.1 rfl H1.out.2.2.1 (by have:=H1.out.2.2.2.2.1;have e0:(⟨#[]⟩:ByteArray).size=0:=rfl;split at this<;>omega)⟩
       case measure=>simp [intOf];omega
     ·have hcu:¬ cap=u:=by omega
      have hlu:u<n:=by omega
      have hlu2:u<(t :: rest).length:=by rw [HN.out];exact hlu
      have hx2 : wr.cell? ⟨ab, ao + u * 4 + 2, none⟩ = some (.string ((t :: rest)[u]'hlu2).s) := by
       obtain ⟨a,ha,_,_,hc⟩:=HT.out.keep (HP.out.ones.below.mono hhi) (Nat.le_refl _) (by simp)
       cases ha
       exact (hc u _ (List.getElem?_eq_getElem hlu2)).2.2.1
      have hs2:=HSZ.out _ (List.getElem_mem hlu2);generalize ((t :: rest)[u]'hlu2).s = sk at *;have hu0:(0:Int)<=(u:Int):=by omega
      have hu9:(u:Int)<(n:Int):=by omega
      have HPK:=hid (fun W=>zgz sk W (by omega))
      clear hlu2
      go_wp2_with (first | (go_at_call 34;refine (HPK.out _).mono ?_;rintro e W0 ⟨rfl,hb0⟩;have HBP:=hid hb0;clear hb0) | (go_at_call 16;refine (HC2.out _ HBP.out (some ⟨ab,ao+u * 4,none⟩) (cap - u) (.inr ⟨rfl,rfl⟩)).mono ?_;rintro e W1 ⟨g,L,O,n1,rfl,hL,hO,hgd,hn1,hn2,hn3,hw1,hb1⟩;obtain ⟨BL,dL,rfl⟩:=zah hL;obtain ⟨BO,dO,rfl⟩:=zag hO;have hb2:=HBP.out.trans (hb1.mono HBP.out.size);have H1:=hid (And.intro hL (And.intro hO (And.intro hgd (And.intro hn2 (And.intro hw1 hb2)))));have hn1':n1<=n - u:=by { have:=HDR.out;omega };have hq:=HP.out.step hb2;have q4:∀ o,(W1.alloc o).cell? ⟨w.heap.size+1+1,4,none⟩=some (.slice AO ov.length cO):=fun o=>zab o ((hq.val.cell 4).trans rfl);clear hL hO hgd hn1 hn2 hn3 hw1 hb1 hb2 hq) | (go_at_call 35;refine (zhH (fun j=>w.heap.size+3<=j) _ ks ov (plainB sk) g _ _ ((HP.out.step (one1 H1.out.2.2.2.2.2)).obj) (GV.val_keep (zgm _) (fun j hj _=>by have h0:=HP.out.val.lt;have h9:=HBP.out.size;omega) (⟨_,_,rfl,H1.out.1,H1.out.2.1⟩)) (by have:=HP.out.len;omega)).mono ?_;rintro e W3 ⟨v3,rfl,hobj,hb3⟩;obtain ⟨A3,c3,rfl⟩:=zag hobj;have hq:=(HP.out.step (one1 H1.out.2.2.2.2.2)).step hb3;have w31:W3.cell? ⟨w.heap.size+1+1,4,none⟩=some (.slice AO ov.length cO):=(hq.val.cell 4).trans rfl;have w32:W3.frozen? ⟨w.heap.size+1+1,4,none⟩=false:=hq.val.frozen 4;have H3:=hid (And.intro (hobj.keep (ok':=fun j=>w.heap.size+3<=j) (From.refl _ _) (fun j hj _=>by rcases hj with hj | hj;exact hj;have:=HP.out.val.lt;have:=H1.out.2.2.2.2.2.size;simp at hj;omega)) hb3);clear hobj hb3 hq))
      go_roundw
      case rel=>exact ⟨u+n1,k+1,_,_,_,by go_num,by go_num,by omega,by rw [HN.out];omega,by push_cast;omega,HP.out.add hu1 (one1 H1.out.2.2.2.2.2) H3.out.2 H3.out.1 (zaY _) H1.out.2.2.1 (by have h1:=H1.out.2.2.2.2.1;have h2:=zax sk;have h3:=H1.out.2.2.2.1 (fun e=>by have h5:=HDR.out;rw [e] at h5;simp at h5;omega);rw [if_neg (by omega)] at h1;omega)⟩
      case measure=>simp [intOf];omega
    ·obtain ⟨v0,v1,v2,v3,v4,_⟩:=HP.out.val.five
     obtain ⟨⟨cs⟩,hcs,hr⟩:=HP.out.ones.res
     match cs,hcs with
     | [z0,z1,z2,z3,z4],_=>
      obtain ⟨y0,y1,y2,y3,y4,f0,f1,f2,f3,f4⟩:=hr.five;have hk3:k<=3:=by omega
      by_cases hlt:(k:Int)<t.m % 4
      ·have hd6:¬ (d:Int)<6:=by omega
       clear hgo;go_wp2
       refine bodyPost_ret (v:=.tuple #[.agg #[.int .u8 5,.int .i64 0,.string ⟨#[]⟩,.slice none 0 0,.slice AO ov.length cO],.int .i64 u]) (by simp [results,Tryz.results16,go_sem,y0,y1,y2,y3,y4]) rfl ?_
       exact HP.out.done hd hu1 HU.out hk3 (Below.refl _ _) _ _ _ _ _
      ·clear hgo
       go_wp2
       refine bodyPost_ret (v:=.tuple #[.agg #[.int .u8 5,.int .i64 0,.string ⟨#[]⟩,.slice none 0 0,.slice AO ov.length cO],.int .i64 u]) (by simp [results,Tryz.results16,go_sem,y0,y1,y2,y3,y4]) rfl ?_
       exact HP.out.done hd hu1 HU.out hk3 (Below.refl _ _) _ _ _ _ _
def BuildOutM (w:World) (e:Ending) (w':World):Prop:=
 ∃ (g:GV) (v:Value),e=.returned v/\g.val (fun k=>w.heap.size<=k) w' v/\Good 0 g/\g.mass<=6000/\Below w.heap.size w w'
theorem ze1 {ts:List GTok} {w w':World} {e:Ending} (hl:ts.length<=60) (h:OnePost ts 0 w e w'):∃ (g:GV) (L O:Value) (n:Nat),e=.returned (.tuple #[.agg #[.int .u8 g.kq,.int .i64 g.num,.string g.str,L,O],.int .i64 n]) /\
  LstV (fun k=>w.heap.size<=k) w' L g.il/\ObjV (fun k=>w.heap.size<=k) w' O g.keys g.vz/\g.mass<=6000/\Good 0 g/\Below w.heap.size w w':=by
 obtain ⟨g,L,O,n,e,hL,hO,hg,hn,_,_,hw,hb⟩:=h;exact ⟨g,L,O,n,e,hL,hO,by omega,hg,hb⟩
theorem ziL (hi:Nat) (A) (cap:Nat) (ts:List GTok) (w:World) (hcap:ts.length<=cap) (hm:cap<=maxLen) (hhi:hi<=w.heap.size) (hT:Toks hi w A ts)
  (hr:∀ t∈ts,0<=t.k/\t.k<=255/\0<=t.m/\t.m<=255) (hss:∀ t∈ts,t.s.size<=140737488351232):
  Calls Tryz.prog 7 #[.slice A ts.length cap] w (BuildOutM w):=by
 have hcall:∀ (o:Obj),Calls Tryz.prog 16 #[.slice A (min ts.length 60) cap,.int .i64 0] (w.alloc o) (OnePost (ts.take 60) 0 (w.alloc o)):=fun o=>by
  have hb:Below w.heap.size w (w.alloc o):=(Below.refl _ _).alloc (Nat.le_refl _) _;have hTk:Toks hi (w.alloc o) A (ts.take 60):=fun hn=>by
   obtain ⟨a,rfl,hs,hl,hc⟩:=hT.keep (hb.mono hhi) (Nat.le_refl _) (fun e=>hn (by rw [e];rfl))
   exact ⟨a,rfl,hs,hl,fun i t hi=>hc i t (by rw [List.getElem?_take] at hi;split at hi<;>simp_all)⟩
  have:=zlS (ts.take 60).length hi A cap (ts.take 60) 0 (w.alloc o) (Nat.le_refl _) (by rw [List.length_take];omega) hm (by rw [List.length_take];omega) (by omega) (by simp;omega) hTk (fun t ht=>hr t (List.mem_of_mem_take ht)) (fun t ht=>hss t (List.mem_of_mem_take ht))
  rw [List.length_take,Nat.min_comm] at this;exact this
 have HL60:=hid (show (ts.take 60).length<=60 by rw [List.length_take];omega)
 unfold maxLen at hm;have HC:=hid hcall;clear hcall hT hr hss;have hz:=fun (W:World) (o:Obj) (h:Below (w.heap.size+1) (w.alloc (.cells #[.int .u8 0,.int .i64 0,.string ⟨#[]⟩,.slice none 0 0,.slice none 0 0] 29)) W)=>((((Whole.new w 29 #[.int .u8 0,.int .i64 0,.string ⟨#[]⟩,.slice none 0 0,.slice none 0 0])).below h (by omega)).alloc o).five
 have HZ:=hid hz;clear hz;have fin:∀ (g:GV) (BL BO:Option Addr) (dL dO:Nat) (W1:World) (o:Obj),LstV (fun k=>w.heap.size+1<=k) W1 (.slice BL g.il.length dL) g.il->ObjV (fun k=>w.heap.size+1<=k) W1 (.slice BO g.vz.length dO) g.keys g.vz->g.mass<=6000->Good 0 g ->
   Below (w.heap.size+1) (w.alloc (.cells #[.int .u8 0,.int .i64 0,.string ⟨#[]⟩,.slice none 0 0,.slice none 0 0] 29)) W1->∀ a0 a1 a2 a3 a4,
   BuildOutM w (.returned (.agg #[.int .u8 g.kq,.int .i64 g.num,.string g.str,.slice BL g.il.length dL,.slice BO g.vz.length dO])) (put5 (W1.alloc o) w.heap.size a0 a1 a2 a3 a4):=fun g BL BO dL dO W1 o hL hO hw hp hb a0 a1 a2 a3 a4=>
  ⟨g,_,rfl,GV.val_put5 ⟨_,_,rfl,hL,hO⟩ o a0 a1 a2 a3 a4,hp,hw,
   zae ((((Below.refl _ w).alloc (Nat.le_refl _) _).trans (hb.mono (by omega))).alloc (by have:=hb.size;simp at this;omega) o) (Nat.le_refl _) _ _ _ _ _⟩
 have FIN:=hid fin;clear fin;by_cases h60:ts.length<=60
 ·have e:min ts.length 60=ts.length:=by omega
  rw [e] at HC;have HL:=hid e;clear e;generalize ts.length=n at *;have hmn:(min (n:Int) 60).toNat=n:=by omega
  go_enter Tryz.func7,Tryz.ntmps7
  go_wp2_with (go_at_call 16;refine (HC.out _).mono ?_;rintro e W1 he;obtain ⟨g,L,O,n1,rfl,hL,hO,hw,hp,hb⟩:=ze1 HL60.out he;obtain ⟨BL,dL,rfl⟩:=zah hL;obtain ⟨BO,dO,rfl⟩:=zag hO;simp only [World.size_alloc] at hL hO hb;have H:=hid (And.intro hL (And.intro hO (And.intro hw hb)));have HPO:=hid hp;clear hL hO hw hp hb he;have q0:=fun o=>(HZ.out W1 o H.out.2.2.2).c0;have q1:=fun o=>(HZ.out W1 o H.out.2.2.2).c1;have q2:=fun o=>(HZ.out W1 o H.out.2.2.2).c2;have q3:=fun o=>(HZ.out W1 o H.out.2.2.2).c3;have q4:=fun o=>(HZ.out W1 o H.out.2.2.2).c4;have r0:=fun o=>(HZ.out W1 o H.out.2.2.2).f0;have r1:=fun o=>(HZ.out W1 o H.out.2.2.2).f1;have r2:=fun o=>(HZ.out W1 o H.out.2.2.2).f2;have r3:=fun o=>(HZ.out W1 o H.out.2.2.2).f3;have r4:=fun o=>(HZ.out W1 o H.out.2.2.2).f4)
  refine bodyPost_ret (v:=.agg #[.int .u8 g.kq,.int .i64 g.num,.string g.str,.slice BL g.il.length dL,.slice BO g.vz.length dO]) (by simp [results,Tryz.results7,go_sem,q0,q1,q2,q3,q4]) rfl ?_
  exact FIN.out g BL BO dL dO W1 _ H.out.1 H.out.2.1 H.out.2.2.1 HPO.out H.out.2.2.2 _ _ _ _ _
 ·have e:min ts.length 60=60:=by omega
  rw [e] at HC;have HL:=hid e;clear e;have h60':60<ts.length:=by omega
  generalize ts.length=n at *;have hmn:(min (n:Int) 60).toNat=60:=by omega
  go_enter Tryz.func7,Tryz.ntmps7
  go_wp2_with (go_at_call 16;refine (HC.out _).mono ?_;rintro e W1 he;obtain ⟨g,L,O,n1,rfl,hL,hO,hw,hp,hb⟩:=ze1 HL60.out he;obtain ⟨BL,dL,rfl⟩:=zah hL;obtain ⟨BO,dO,rfl⟩:=zag hO;simp only [World.size_alloc] at hL hO hb;have H:=hid (And.intro hL (And.intro hO (And.intro hw hb)));have HPO:=hid hp;clear hL hO hw hp hb he;have q0:=fun o=>(HZ.out W1 o H.out.2.2.2).c0;have q1:=fun o=>(HZ.out W1 o H.out.2.2.2).c1;have q2:=fun o=>(HZ.out W1 o H.out.2.2.2).c2;have q3:=fun o=>(HZ.out W1 o H.out.2.2.2).c3;have q4:=fun o=>(HZ.out W1 o H.out.2.2.2).c4;have r0:=fun o=>(HZ.out W1 o H.out.2.2.2).f0;have r1:=fun o=>(HZ.out W1 o H.out.2.2.2).f1;have r2:=fun o=>(HZ.out W1 o H.out.2.2.2).f2;have r3:=fun o=>(HZ.out W1 o H.out.2.2.2).f3;have r4:=fun o=>(HZ.out W1 o H.out.2.2.2).f4)
  refine bodyPost_ret (v:=.agg #[.int .u8 g.kq,.int .i64 g.num,.string g.str,.slice BL g.il.length dL,.slice BO g.vz.length dO]) (by simp [results,Tryz.results7,go_sem,q0,q1,q2,q3,q4]) rfl ?_
  exact FIN.out g BL BO dL dO W1 _ H.out.1 H.out.2.1 H.out.2.2.1 HPO.out H.out.2.2.2 _ _ _ _ _
def BuildOut (w:World) (e:Ending) (w':World):Prop:=
 ∃ (g:GV) (v:Value),e=.returned v/\g.val (fun k=>w.heap.size<=k) w' v/\Good 0 g/\g.weight<=6000/\Below w.heap.size w w'
theorem BuildOutM.plain {w:World} {e:Ending} {w':World} (h:BuildOutM w e w'):BuildOut w e w':=by
 obtain ⟨g,v,h1,h2,h3,h4,h5⟩:=h;exact ⟨g,v,h1,h2,h3,Nat.le_trans (zeD g) h4,h5⟩
theorem zjo (hi:Nat) (A) (cap:Nat) (ts:List GTok) (w:World) (hcap:ts.length<=cap) (hm:cap<=maxLen) (hhi:hi<=w.heap.size) (hT:Toks hi w A ts)
  (hr:∀ t∈ts,0<=t.k/\t.k<=255/\0<=t.m/\t.m<=255) (hss:∀ t∈ts,t.s.size<=140737488351232):
  Calls Tryz.prog 7 #[.slice A ts.length cap] w (BuildOut w):=(ziL hi A cap ts w hcap hm hhi hT hr hss).mono fun _ _ h=>h.plain
end Go.Proofs.YtmmgdkpkcoopgaaGreatDoor
