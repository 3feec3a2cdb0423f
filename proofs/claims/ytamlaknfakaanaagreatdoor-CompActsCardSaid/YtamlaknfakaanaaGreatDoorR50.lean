/- Texts in one: CompK, CompQ, CompKn. -/
import Derived.Test.YtamlaknfakaanaaGreatDoorR32
set_option maxRecDepth 100000
set_option maxHeartbeats 8000000
namespace Go.Proofs.YtamlaknfakaanaaGreatDoor
open Go Go.RowKit
set_option linter.unusedVariables false
set_option linter.unusedSimpArgs false
def TrueBelow (w:World) (e:Ending) (w':World):Prop:=e=.returned (.bool true)∧Below w.heap.size w w'
def nG (n:Int):GV:=.mk 2 n ⟨#[]⟩ [] [] []
def kV (n:Int):GV:=.mk 5 0 ⟨#[]⟩ [] [⟨#[97]⟩] [nG n]
def kW:GV:=.mk 5 0 ⟨#[]⟩ [] ([⟨#[97]⟩]++[⟨#[98]⟩]) ([nG 1]++[nG 2])
def cAdd (p:List GStep) (m:Int):GC:=⟨1,p,⟨#[]⟩,0,0,m,noG,⟨#[]⟩⟩
def kPut:GC:=⟨2,[],⟨#[98]⟩,0,0,0,nG 2,⟨#[]⟩⟩
def kDel:GC:=⟨3,[],⟨#[122]⟩,0,0,0,noG,⟨#[]⟩⟩
def wayA:List GStep:=[⟨false,0,⟨#[97]⟩⟩]
theorem nG_sound (n:Int):(nG n).Sound:=by
 have h0:(⟨#[]⟩:ByteArray).toList=[]:=by decide +kernel
 simp [nG,GV.Sound,GV.Sounds,SelfP,h0]
theorem noG_sound:noG.Sound:=by
 have h0:(⟨#[]⟩:ByteArray).toList=[]:=by decide +kernel
 simp [noG,GV.Sound,GV.Sounds,SelfP,h0]
theorem nG_deep (n:Int):(nG n).deep=0:=by simp [nG,GV.deep,GV.deeps]
theorem nG_weight (n:Int):(nG n).weight=1:=by
 have h0:(⟨#[]⟩:ByteArray).size=0:=rfl
 simp [nG,GV.weight,GV.weights,h0]
theorem noG_deep:noG.deep=0:=by simp [noG,GV.deep,GV.deeps]
theorem noG_weight:noG.weight=1:=by
 have h0:(⟨#[]⟩:ByteArray).size=0:=rfl
 simp [noG,GV.weight,GV.weights,h0]
theorem empty_valid:valid ⟨#[]⟩=true:=by decide +kernel
theorem cAdd_sound {p:List GStep} (m:Int) (hp:soundP p=true) (hl:p.length≤15):(cAdd p m).Sound:=
 ⟨Int.le_refl _,Int.le_refl _,empty_valid,hp,⟨⟨by show (1:Int)≤1;omega,by show (1:Int)≤9;omega⟩,⟨.inl rfl,.inr (.inr empty_list),.inr (.inr (.inr noG_same)),.inr rfl,.inr rfl,.inr empty_list⟩,(fun h=>by cases h),(fun h=>by cases h)⟩,⟨noG_sound,by show p.length+1+noG.deep≤16;rw [noG_deep];omega,by show noG.weight≤20000;rw [noG_weight];omega⟩⟩
theorem soundP_nil:soundP []=true:=by decide +kernel
theorem kPut_sound:kPut.Sound:=
 ⟨Int.le_refl _,Int.le_refl _,by decide +kernel,soundP_nil,⟨⟨by decide,by decide⟩,⟨.inr (.inr rfl),.inl rfl,.inl rfl,.inr rfl,.inr rfl,.inr empty_list⟩,(fun h=>by cases h),(fun h=>by cases h)⟩,⟨nG_sound 2,by show 0+1+(nG 2).deep≤16;rw [nG_deep];omega,by show (nG 2).weight≤20000;rw [nG_weight];omega⟩⟩
theorem kDel_sound:kDel.Sound:=
 ⟨Int.le_refl _,Int.le_refl _,by decide +kernel,soundP_nil,⟨⟨by decide,by decide⟩,⟨.inr (.inr rfl),.inr (.inl rfl),.inr (.inr (.inr noG_same)),.inr rfl,.inr rfl,.inr empty_list⟩,(fun h=>by cases h),(fun h=>by cases h)⟩,⟨noG_sound,by show 0+1+noG.deep≤16;rw [noG_deep];omega,by show noG.weight≤20000;rw [noG_weight];omega⟩⟩
theorem there_a (n:Int):there ⟨#[97]⟩ (kV n).keys=true:=by show there ⟨#[97]⟩ [⟨#[97]⟩]=true;decide +kernel
theorem place_a (n:Int):place ⟨#[97]⟩ (kV n).keys=0:=by show place ⟨#[97]⟩ [⟨#[97]⟩]=0;decide +kernel
theorem there_b (n:Int):there ⟨#[98]⟩ (kV n).keys=false:=by show there ⟨#[98]⟩ [⟨#[97]⟩]=false;decide +kernel
theorem place_b (n:Int):place ⟨#[98]⟩ (kV n).keys=1:=by show place ⟨#[98]⟩ [⟨#[97]⟩]=1;decide +kernel
theorem there_z (n:Int):there ⟨#[122]⟩ (kV n).keys=false:=by show there ⟨#[122]⟩ [⟨#[97]⟩]=false;decide +kernel
theorem get_a (n:Int):(kV n).get wayA=some (nG n):=by
 simp only [GV.get,wayA,GV.inside,there_a,place_a]
 rfl
theorem put_a (n:Int) (x:GV):(kV n).put x wayA=some (.mk 5 0 ⟨#[]⟩ [] [⟨#[97]⟩] [x]):=by
 have hi:(kV n).inside ⟨false,0,⟨#[97]⟩⟩=some (nG n):=by
  simp only [GV.inside,there_a,place_a]
  rfl
 have hs:(kV n).setIn ⟨false,0,⟨#[97]⟩⟩ x=.mk 5 0 ⟨#[]⟩ [] [⟨#[97]⟩] [x]:=by
  simp only [GV.setIn,place_a]
  rfl
 simp only [GV.put,wayA,hi,Option.bind_some,Option.map_some,hs]
theorem chk_add (p:List GStep) (n m:Int):chkH (nG n) (cAdd p m)=0:=by
 simp [chkH,nG,cAdd,worksOn,GV.kind]
theorem do_add_is (p:List GStep) (n m:Int):doH (nG n) (cAdd p m)=nG (wrap64 (n+m)):=by
 unfold doH
 rw [if_pos (show (cAdd p m).kind=1 from rfl),IntWalk.i64_left]
 rfl
theorem chk_put:chkH (kV 1) kPut=0:=by simp [chkH,kV,kPut,worksOn,GV.kind]
theorem chk_del:chkH (kV 1) kDel=33:=by
 have h:=there_z 1
 simp only [chkH,kV,kDel,worksOn,GV.kind,GV.keys] at h ⊢
 rw [h]
 simp
theorem do_put_is:doH (kV 1) kPut=kW:=by
 unfold doH
 rw [if_neg (by decide),if_pos (show kPut.kind=2 from rfl)]
 have h1:there kPut.key (kV 1).keys=false:=there_b 1
 have h2:place kPut.key (kV 1).keys=1:=place_b 1
 rw [if_neg (by rw [h1];simp),h2]
 rfl
theorem chk_add_is {g:GV} {p:List GStep} {n m:Int} (hp:soundP p=true) (hl:p.length≤15) (hget:g.get p=some (nG n)):ChkIs g (cAdd p m) 0:=.inr ⟨cAdd_sound m hp hl,.inr ⟨nG n,hget,(chk_add p n m).symm⟩⟩
theorem chk_put_is:ChkIs (kV 1) kPut 0:=.inr ⟨kPut_sound,.inr ⟨kV 1,rfl,chk_put.symm⟩⟩
theorem chk_del_is:ChkIs (kV 1) kDel 33:=.inr ⟨kDel_sound,.inr ⟨kV 1,rfl,chk_del.symm⟩⟩
theorem kV_weight (n:Int):(kV n).weight≤100:=by
 have h0:(⟨#[]⟩:ByteArray).size=0:=rfl
 have h1:(⟨#[97]⟩:ByteArray).size=1:=rfl
 simp [kV,nG,GV.weight,GV.weights,ksum,h0,h1]
theorem kW_weight:kW.weight≤100:=by
 have h0:(⟨#[]⟩:ByteArray).size=0:=rfl
 have h1:(⟨#[97]⟩:ByteArray).size=1:=rfl
 have h2:(⟨#[98]⟩:ByteArray).size=1:=rfl
 simp [kW,nG,GV.weight,GV.weights,ksum,h0,h1,h2]
theorem does_ok {g:GV} {c:GC} {w w':World} {e:Ending} {h y:GV} (hc:ChkIs g c 0) (hget:g.get c.path=some h) (hput:g.put (doH h c) c.path=some y) (hd:DoesOut g c w e w'):ValOk y w e w':=by
 obtain ⟨hb,n,hn,⟨h0,_⟩ | ⟨_,h',y',BL,BO,dL,dO,h1,_,h2,he,hv,_⟩⟩:=hd
 ·exact absurd (chk_one hn hc) h0
 ·rw [hget] at h1
  cases h1
  rw [hput] at h2
  cases h2
  exact ⟨BL,BO,dL,dO,he,hv,hb⟩
theorem no_text {w:World} {c:GC} {A AL AO:Option Addr} {cp cL cO:Nat} (h:worksOn c.kind≠3):TextChecks w c A AL AO cp cL cO:=fun _ _ _ h3 _ _=>absurd h3 h
structure KB (w W:World):Prop where
 row:Whole W w.heap.size 59 #[.string ⟨#[97]⟩,.int .u8 2,.int .i64 1,.string ⟨#[]⟩,.slice none 0 0,.slice none 0 0]
 box:Whole W (w.heap.size+1) 31 #[.int .u8 5,.int .i64 0,.string ⟨#[]⟩,.slice none 0 0,.slice (some ⟨w.heap.size,0,none⟩) 1 1]
 below:Below w.heap.size w W
theorem KB.later {w W W':World} (h:KB w W) (hb:Below W.heap.size W W'):KB w W':=⟨h.row.below hb h.row.lt,h.box.below hb h.box.lt,h.below.trans (hb.mono h.below.size)⟩
theorem KB.start (w:World):KB w ((w.alloc (.cells #[.string ⟨#[97]⟩,.int .u8 2,.int .i64 1,.string ⟨#[]⟩,.slice none 0 0,.slice none 0 0] 59)).alloc (.cells #[.int .u8 5,.int .i64 0,.string ⟨#[]⟩,.slice none 0 0,.slice (some ⟨w.heap.size,0,none⟩) 1 1] 31)):=by
 have h2:=Whole.new (w.alloc (.cells #[.string ⟨#[97]⟩,.int .u8 2,.int .i64 1,.string ⟨#[]⟩,.slice none 0 0,.slice none 0 0] 59)) 31 #[.int .u8 5,.int .i64 0,.string ⟨#[]⟩,.slice none 0 0,.slice (some ⟨w.heap.size,0,none⟩) 1 1]
 rw [World.size_alloc] at h2
 exact ⟨(Whole.new w _ _).alloc _,h2,(below_alloc w _).alloc (by simp) _⟩
theorem KB.vl {w W:World} (h:KB w W):Vl W (kV 1) none (some ⟨w.heap.size,0,none⟩) 0 1:=by
 have hc:∀ (j:Nat) (u:Value),(#[.string ⟨#[97]⟩,.int .u8 2,.int .i64 1,.string ⟨#[]⟩,.slice none 0 0,.slice none 0 0]:Array Value).toList[j]? = some u→W.cell? ⟨w.heap.size,0+j,none⟩=some u:=fun j u hu=>by rw [Nat.zero_add,h.row.cell];simpa using hu
 have h1:=RowO.els (ok:=fun _=>True) (W:=W) (b:=w.heap.size) (ks:=(kV 1).keys) (ov:=(kV 1).vals) (xs:=(#[.string ⟨#[97]⟩,.int .u8 2,.int .i64 1,.string ⟨#[]⟩,.slice none 0 0,.slice none 0 0]:Array Value).toList) (off:=0) ⟨_,_,_,rfl,.inl ⟨rfl,rfl⟩,⟨rfl,.inl ⟨rfl,rfl⟩⟩,rfl⟩ hc
 exact ⟨.inl ⟨rfl,rfl⟩,rfl,.inr ⟨w.heap.size,0,1,rfl,Nat.le_refl _,by decide,h.row.kind trivial,h1.1,h1.2⟩⟩
theorem wy_step {W:World} {S:Nat} {l:Bool} {i:Int} {k:ByteArray} (h:Whole W S 61 #[.bool l,.int .i64 i,.string k]):Wy W (some ⟨S,0,none⟩) 1 [⟨l,i,k⟩]:=⟨fun _=>⟨_,rfl,rfl,h.lt,fun j s hs=>by
 match j with
 | 0=>simp at hs;subst hs;exact ⟨(h.cell 0).trans rfl,(h.cell 1).trans rfl,(h.cell 2).trans rfl⟩
 | j+1=>simp at hs⟩,Nat.le_refl _,by decide⟩
theorem small_key {s:ByteArray} (h:s.size≤10):s.size≤9223372036854775807:=by omega
theorem add_ok {W:World} {g:GV} {GL GO:Option Addr} {eL eO S:Nat} {l:Bool} {i:Int} {k:ByteArray} (n m:Int) (y:GV) (hg:Vl W g GL GO eL eO) (hw:g.weight≤100) (hS:Whole W S 61 #[.bool l,.int .i64 i,.string k]) (hk:k.size≤10) (hp:soundP [⟨l,i,k⟩]=true) (hget:g.get [⟨l,i,k⟩]=some (nG n)) (hput:g.put (nG (wrap64 (n+m))) [⟨l,i,k⟩]=some y) (hT:Tabs W):
  Calls Tryz.prog 10 #[.agg #[.int .u8 g.kind,.int .i64 g.num,.string g.str,.slice GL g.items.length eL,.slice GO g.vals.length eO],.agg #[.int .u8 1,.slice (some ⟨S,0,none⟩) 1 1,.string ⟨#[]⟩,.int .i64 0,.int .i64 0,.int .i64 m,.int .u8 0,.int .i64 0,.string ⟨#[]⟩,.slice none 0 0,.slice none 0 0,.string ⟨#[]⟩]] W (ValOk y W):=
 (comp_Do g GL GO eL eO (cAdd [⟨l,i,k⟩] m) (some ⟨S,0,none⟩) none none 1 0 0 W hg ⟨wy_step hS,vl_noG W⟩ (by omega) (by show noG.weight≤1000000000;rw [noG_weight];omega) (small_key (by show (⟨#[]⟩:ByteArray).size≤10;decide)) (small_key (by show (⟨#[]⟩:ByteArray).size≤10;decide)) (fun s hs=>by simp [cAdd] at hs;subst hs;exact small_key hk) hT (no_text (by show worksOn 1≠3;decide))
  (fun h _ _ _=>do_add h _ _ _ _ _ _ _ _ rfl) (fun h hh _=>by
   have h1:h=nG n:=by have:=hh.symm.trans hget;simpa using this
   subst h1
   rw [do_add_is,nG_weight];omega)).mono fun e w' hd=>does_ok (chk_add_is hp (by simp) hget) hget (by rw [do_add_is];exact hput) hd
theorem put_ok {w W:World} (hK:KB w W) (hT:Tabs W):Calls Tryz.prog 10 #[.agg #[.int .u8 5,.int .i64 0,.string ⟨#[]⟩,.slice none 0 0,.slice (some ⟨w.heap.size,0,none⟩) 1 1],.agg #[.int .u8 2,.slice none 0 0,.string ⟨#[98]⟩,.int .i64 0,.int .i64 0,.int .i64 0,.int .u8 2,.int .i64 2,.string ⟨#[]⟩,.slice none 0 0,.slice none 0 0,.string ⟨#[]⟩]] W (ValOk kW W):=
 (comp_Do (kV 1) none (some ⟨w.heap.size,0,none⟩) 0 1 kPut none none none 0 0 0 W hK.vl ⟨wy_nil W,⟨.inl ⟨rfl,rfl⟩,⟨rfl,.inl ⟨rfl,rfl⟩⟩⟩⟩ (by have:=kV_weight 1;omega) (by show (nG 2).weight≤1000000000;rw [nG_weight];omega) (small_key (by decide)) (small_key (by decide)) (fun s hs=>by cases hs) hT (no_text (by decide))
  (fun h hh _ _=>by
   have h1:h=kV 1:=by have:=hh.symm;simpa [kPut,GV.get] using this
   subst h1
   exact do_put_end _ _ _ _ _ _ _ _ _ rfl ⟨.inl ⟨rfl,rfl⟩,⟨rfl,.inl ⟨rfl,rfl⟩⟩⟩ (there_b 1) (place_b 1) (by decide) rfl) (fun h hh _=>by
   have h1:h=kV 1:=by have:=hh.symm;simpa [kPut,GV.get] using this
   subst h1
   rw [do_put_is];have:=kW_weight;omega)).mono fun e w' hd=>does_ok chk_put_is rfl (by rw [do_put_is];rfl) hd
theorem del_ok {w W:World} (hK:KB w W) (hT:Tabs W):Calls Tryz.prog 13 #[.agg #[.int .u8 5,.int .i64 0,.string ⟨#[]⟩,.slice none 0 0,.slice (some ⟨w.heap.size,0,none⟩) 1 1],.agg #[.int .u8 3,.slice none 0 0,.string ⟨#[122]⟩,.int .i64 0,.int .i64 0,.int .i64 0,.int .u8 0,.int .i64 0,.string ⟨#[]⟩,.slice none 0 0,.slice none 0 0,.string ⟨#[]⟩]] W fun e w'=>e=.returned (.int .u16 33)∧Below W.heap.size W w':=
 (comp_Check (kV 1) none (some ⟨w.heap.size,0,none⟩) 0 1 kDel none none none 0 0 0 W hK.vl ⟨wy_nil W,vl_noG W⟩ (by have:=kV_weight 1;omega) (by show noG.weight≤1000000000;rw [noG_weight];omega) (small_key (by decide)) (small_key (by decide)) (fun s hs=>by cases hs) hT (no_text (by decide))).mono fun e w' ⟨n,he,hn,hb⟩=>⟨by rw [he,chk_one hn chk_del_is],hb⟩
theorem whole_new1 (w:World) (a:Obj) (t:TypeId) (cs:Array Value):Whole ((w.alloc a).alloc (.cells cs t)) (w.heap.size+1) t cs:=by
 have h:=Whole.new (w.alloc a) t cs
 rwa [World.size_alloc] at h
theorem key_one {W:World} {AO:Option Addr} {cO:Nat} {A:Option Addr} {cL:Nat} (h:Vl W kW A AO cL cO):∃ b o,AO=some ⟨b,o,none⟩∧b<W.heap.size∧W.cell? ⟨b,o+6,none⟩=some (.string ⟨#[98]⟩):=by
 obtain ⟨hl,hO⟩:=h.obj
 rcases hO with ⟨h0,_⟩ | ⟨b,o,c,he,_,_,hK,hks,_⟩
 ·exact absurd h0 (by simp [kW,GV.vals])
 ·simp only [Value.slice.injEq] at he
  obtain ⟨rfl,_,rfl⟩:=he
  exact ⟨b,o,rfl,hK.lt,hks.get (i:=1) (k:=⟨#[98]⟩) rfl⟩
theorem num_one {W:World} {AO:Option Addr} {cO:Nat} {A:Option Addr} {cL:Nat} (h:Vl W (kV 3) A AO cL cO):∃ b o,AO=some ⟨b,o,none⟩∧b<W.heap.size∧W.cell? ⟨b,o+1+1,none⟩=some (.int .i64 3):=by
 obtain ⟨hl,hO⟩:=h.obj
 rcases hO with ⟨h0,_⟩ | ⟨b,o,c,he,_,_,hK,_,hE⟩
 ·exact absurd h0 (by simp [kV,GV.vals])
 ·simp only [Value.slice.injEq] at he
  obtain ⟨rfl,_,rfl⟩:=he
  obtain ⟨L,O,c0,c1,_⟩:=GV.at_iff.1 (GV.els_get hE (i:=0) (g:=nG 3) rfl)
  rw [show o+1+0 * 6+1=o+1+1 by omega] at c1
  exact ⟨b,o,rfl,hK.lt,c1⟩
theorem cknown_true (w:World) (hT:Tabs w):Calls Tryz.prog 6 #[] w (TrueBelow w):=by
 have HD1:=Lib.hid (fun W (hK:KB w W)=>(put_ok hK (hT.below hK.below (Nat.le_refl _))).mono (R':=fun e w'=>∃ (A:Option Addr) (dL b o dO:Nat),e=.returned (.tuple #[.agg #[.int .u8 5,.int .i64 0,.string ⟨#[]⟩,.slice A 0 dL,.slice (some ⟨b,o,none⟩) 2 dO],.int .u16 0])∧(∀ W'',Below w'.heap.size w' W''→W''.cell? ⟨b,o+6,none⟩=some (.string ⟨#[98]⟩))∧Below W.heap.size W w') fun e w' ⟨BL,BO,dL,dO,he,hv,hb⟩=>by
  obtain ⟨b,o,rfl,hlt,hc⟩:=key_one hv
  exact ⟨BL,dL,b,o,dO,he,fun W'' hb'=>(hb'.cell (p:=⟨b,o+6,none⟩) hlt).trans hc,hb⟩)
 have HD2:=Lib.hid (fun W (S:Nat) (hK:KB w W) (hS:Whole W S 61 #[.bool false,.int .i64 0,.string ⟨#[97]⟩])=>(add_ok 1 2 (kV 3) hK.vl (kV_weight 1) hS (by decide) (by decide +kernel) (get_a 1) ((put_a 1 (nG (wrap64 (1+2)))).trans (by rw [show wrap64 (1+2)=3 by unfold wrap64;omega];rfl)) (hT.below hK.below (Nat.le_refl _))).mono (R':=fun e w'=>∃ (A:Option Addr) (dL b o dO:Nat),e=.returned (.tuple #[.agg #[.int .u8 5,.int .i64 0,.string ⟨#[]⟩,.slice A 0 dL,.slice (some ⟨b,o,none⟩) 1 dO],.int .u16 0])∧(∀ W'',Below w'.heap.size w' W''→W''.cell? ⟨b,o+1+1,none⟩=some (.int .i64 3))∧Below W.heap.size W w') fun e w' ⟨BL,BO,dL,dO,he,hv,hb⟩=>by
  obtain ⟨b,o,rfl,hlt,hc⟩:=num_one hv
  exact ⟨BL,dL,b,o,dO,he,fun W'' hb'=>(hb'.cell (p:=⟨b,o+1+1,none⟩) hlt).trans hc,hb⟩)
 have HC:=Lib.hid (fun W (hK:KB w W)=>del_ok hK (hT.below hK.below (Nat.le_refl _)))
 have HK0:=Lib.hid (KB.start w)
 clear hT
 go_enter Tryz.func6,Tryz.ntmps6
 go_wp2_with (first
  | (go_at_call 10;refine (HD1.out _ HK0.out).mono ?_;rintro e w1 ⟨A1,d1,b1,o1,e1,rfl,hc,hb⟩;have HK1:=Lib.hid (HK0.out.later hb);have HC1:=Lib.hid hc;have v0:=fun o=>cell_alloc o HK1.out.box.five.c0;have v1:=fun o=>cell_alloc o HK1.out.box.five.c1;have v2:=fun o=>cell_alloc o HK1.out.box.five.c2;have v3:=fun o=>cell_alloc o HK1.out.box.five.c3;have v4:=fun o=>cell_alloc o HK1.out.box.five.c4;clear hc hb HD1)
  | (go_at_call 10;refine (HD2.out _ (w1.heap.size+1) (HK1.out.later ((below_alloc w1 _).alloc (by simp) _)) (whole_new1 w1 _ _ _)).mono ?_;rintro e w2 ⟨A2,d2,b2,o2,e2,rfl,hc,hb⟩;have HB2:=Lib.hid (((below_alloc w1 (.cells #[.int .u8 5,.int .i64 0,.string ⟨#[]⟩,.slice A1 0 d1,.slice (some ⟨b1,o1,none⟩) 2 e1] 31)).alloc (by simp) (.cells #[.bool false,.int .i64 0,.string ⟨#[97]⟩] 61)).trans (hb.mono (by simp;omega)));have HK2:=Lib.hid (HK1.out.later HB2.out);have HW2:=Lib.hid ((Whole.new w1 31 #[.int .u8 5,.int .i64 0,.string ⟨#[]⟩,.slice A1 0 d1,.slice (some ⟨b1,o1,none⟩) 2 e1]).alloc (.cells #[.bool false,.int .i64 0,.string ⟨#[97]⟩] 61) |>.below hb (by simp;omega));clear v0 v1 v2 v3 v4;have v0:=fun o=>cell_alloc o HK2.out.box.five.c0;have v1:=fun o=>cell_alloc o HK2.out.box.five.c1;have v2:=fun o=>cell_alloc o HK2.out.box.five.c2;have v3:=fun o=>cell_alloc o HK2.out.box.five.c3;have v4:=fun o=>cell_alloc o HK2.out.box.five.c4;have x4:=fun o=>cell_alloc o HW2.out.five.c4;have y1:=fun o=>HC1.out _ (HB2.out.trans ((below_alloc w2 o).mono HB2.out.size));have y2:=fun o=>hc _ (below_alloc w2 o);clear hc hb HD2)
  | (go_at_call 13;refine (HC.out _ (HK2.out.later (below_alloc w2 _))).mono ?_;rintro e w3 ⟨rfl,hb⟩;have HK3:=Lib.hid (HK2.out.below.trans (((below_alloc w2 (.cells #[.int .u8 5,.int .i64 0,.string ⟨#[]⟩,.slice A2 0 d2,.slice (some ⟨b2,o2,none⟩) 1 e2] 31)).trans (hb.mono (by simp))).mono HK2.out.below.size));clear hb))
 go_ret
 exact ⟨rfl,HK3.out⟩
end Go.Proofs.YtamlaknfakaanaaGreatDoor
