/- Texts in one: RtA, RtB, RtC, RqW, RefCR, RPutL, RqA, CompT. -/
import Derived.Test.YtmmgdkpkcoopgaaGreatDoorP13
import Derived.Test.YtmmgdkpkcoopgaaGreatDoorLaysT
import Derived.OwnWalk
import Derived.BigQuiet
import Derived.RegionTactic
import Derived.Deep.QuietTactic
import Derived.IntWalk
import Derived.Test.YtmmgdkpkcoopgaaGreatDoorP10
import Derived.Test.YtmmgdkpkcoopgaaGreatDoorP12
import Derived.Test.YtmmgdkpkcoopgaaGreatDoorP9
set_option maxRecDepth 100000
set_option maxHeartbeats 8000000
namespace Go.Proofs.YtmmgdkpkcoopgaaGreatDoor
open Go.Lib(hid)
open Go Go.RowKit Go.Shelf
set_option linter.unusedVariables false
set_option linter.unusedSimpArgs false
theorem infoInt:(Tryz.prog.info? 3).map (fun i=>(i.zero,i.size,i.bytes))=some (some (.int .i64 0),1,8):=by kernel_rfl
theorem zhi (s:ByteArray) (p:Nat) (w:World) (hp:p<s.size) (hT:Tabs w):Calls Tryz.prog 74 #[.string (s.extract p s.size)] w fun e w'=>∃ r:Int,e=.returned (.tuple #[.int .i32 r,.int .i64 (wdS s p)])/\Below w.heap.size w w':=
 (Tryz.utf8_DecodeRuneInString (s.extract p s.size) w hT).mono fun e w' ⟨he,hb⟩=>by
  have hz:(s.extract p s.size).size≠0:=by rw [zee s p (by omega)];omega
  have hd:(Lib.decodeGo (s.extract p s.size)).2=wdS s p:=by
   have:=congrFun (zmq s p) 0;unfold wdS at this ⊢;simp only [Lib.decodeGo,hz,if_false]
   simpa using this
  rw [hd] at he;exact ⟨_,he,hb⟩
def intV (n:Nat):Value:=.int .i64 n
def CutsOut (s:ByteArray) (m:Nat) (w:World) (e:Ending) (w':World):Prop:=
 ∃ b c,e=.returned (.slice (some ⟨b,0,none⟩) (m+1) c)/\w.heap.size<=b/\b<w'.heap.size/\(∀ k,k<=m->w'.cell? ⟨b,k,none⟩=some (.int .i64 (cutS s k)))/\Below w.heap.size w w'
def CutsRel (w:World) (s:ByteArray) (m:Nat) (v i:Value) (wr:World):Prop:=∃ k:Nat,i=.int .i64 (cutS s k)/\k<=m/\wr.ownsRow w.heap.size 3 1 v k ((cutsL (wdS s) s.size k).map intV)/\Below w.heap.size w wr
theorem zlr {s:ByteArray} {m:Nat} {w w':World} {v:Value} (hown:w'.ownsRow w.heap.size 3 1 v (m+1) ((cutsL (wdS s) s.size m).map intV++[.int .i64 s.size])) (he:cutS s m=s.size) (hb:Below w.heap.size w w'):CutsOut s m w (.returned v) w':=by
 rcases hown.2 with ⟨e,hn⟩ | ⟨g,cap,cur,e,hg,_⟩
 ·simp at hn
 ·subst e
  have hlt:=(hown.lt g rfl);refine ⟨g,cap,rfl,hlt.1,hlt.2,fun k hk=>?_,hb⟩
  have:=hown.cells (g:=g) rfl k (.int .i64 (cutS s k)) (by
   rw [show (cutsL (wdS s) s.size m).map intV++[.int .i64 s.size]=(cutsL (wdS s) s.size (m+1)).map intV by rw [zgt,List.map_append,show cutAt (wdS s) s.size m=s.size from he];rfl,List.getElem?_map,zkv _ _ _ (by omega)]
   rfl)
  by_cases e:k=0<;>simpa [Addr.add,e] using this
theorem zfB (s:ByteArray) (w:World) (hs:s.size<=1000000000) (hT:Tabs w):
  Calls Tryz.prog 45 #[.string s] w (CutsOut s (nChars s) w):=by
 obtain ⟨hch,hle⟩:=zaR s;have HC:=hid hch;have HT:=hid (fun W (hb:Below w.heap.size w W)=>hT.below hb (Nat.le_refl _))
 obtain ⟨i0,hi0,hz0,hz1,hz2⟩:=info_parts infoInt;have HI0:=hid (And.intro hi0 (And.intro hz0 (And.intro hz1 hz2)));clear hi0 hz0 hz1 hz2 hch hT;generalize hm:nChars s=m at *;clear hm;go_enter Tryz.func45,Tryz.ntmps45
 go_wp2
 go_loopw [3,4] (CutsRel w s m) (fun _ i _=>s.size - (intOf i).toNat)
 case atStart=>exact ⟨0,rfl,Nat.zero_le _,World.ownsRow_nil _ _ _ _,Below.refl _ _⟩
 case round=>
  obtain ⟨k,rfl,hk,hown,hB⟩:=hrel;obtain ⟨A,cp,rfl⟩:=zaf hown;have HO:=hid hown;have HB:=hid hB;have hmax:k+1<=maxLen:=by unfold maxLen;omega
  have hby:(k+1) * 8<=140737488355328:=by omega
  have HM:=hid (And.intro hmax hby);clear hmax hby hown hB;by_cases hp:cutS s k<s.size
  ·have hkc:k<m:=(Chars.iff HC.out).1 hp
   have hnext:cutS s (k+1)=cutS s k+wdS s (cutS s k):=zfh hp;have hwd:=zdZ s (cutS s k) hp;have HCS:=hid (show (cutsL (wdS s) s.size (k+1)).map intV=(cutsL (wdS s) s.size k).map intV++[.int .i64 (cutS s k)] by rw [zgt,List.map_append];rfl)
   have HN:=hid hnext;have HD:=hid (fun W (hb:Below w.heap.size w W)=>zhi s (cutS s k) W hp (HT.out W hb))
   generalize cutS s k=p at *;generalize wdS s p=d at *;clear hnext
   go_wp2_with (first
    | (at_builtin;refine wpList_append_own_at _ rfl (.tmp 11) (.tmp 13) 91 rfl w.heap.size 3 i0 _ 1 8 Tryz.underlying91 HI0.out.1 HI0.out.2.1 HI0.out.2.2.1 HI0.out.2.2.2 rfl (by decide) (.slice A k cp) k _ rfl (HO.out.alloc _) ⟨wr.heap.size,0,none⟩ 1 1 [.int .i64 p] rfl rfl (row_cells' _ _ rfl _ _) (by simp [Value.oneCell']) HM.out.1 HM.out.2 (by have:=HB.out.size;simp;omega) ?_;intro v3 W3 hown3 hgrow3 _ hat3;obtain ⟨A3,c3,rfl⟩:=zaf hown3;have H3:=hid (And.intro hown3 ((HB.out.alloc HB.out.size _).grown hgrow3 (by have:=HB.out.size;simp;omega) (fun j hj=>(HO.out.lt j hj).1)));clear hown3 hgrow3 hat3)
    | (go_at_call 74;refine (HD.out _ H3.out.2).mono ?_;rintro e w4 ⟨r,rfl,hb⟩;have H4:=hid (And.intro (zaz H3.out.1 hb) (H3.out.2.trans (hb.mono H3.out.2.size)));clear hb))
   go_roundw
   case rel=>exact ⟨k+1,by rw [HN.out];go_num,hkc,by rw [HCS.out];exact H4.out.1,H4.out.2⟩
   case measure=>simp [intOf];omega
  ·have hkc:k=m:=by
    have h1:¬ k<m:=fun h=>hp ((Chars.iff HC.out).2 h)
    omega
   have hend:cutS s k=s.size:=by have:=zcH s k;omega
   subst hkc;have HE:=hid hend;rw [hend];clear hp hend
   go_wp2_with (at_builtin;refine wpList_append_own_at _ rfl (.tmp 25) (.tmp 28) 91 rfl w.heap.size 3 i0 _ 1 8 Tryz.underlying91 HI0.out.1 HI0.out.2.1 HI0.out.2.2.1 HI0.out.2.2.2 rfl (by decide) (.slice A k cp) k _ rfl (HO.out.alloc _) ⟨wr.heap.size,0,none⟩ 1 1 [.int .i64 s.size] rfl rfl (row_cells' _ _ rfl _ _) (by simp [Value.oneCell']) HM.out.1 HM.out.2 (by have:=HB.out.size;simp;omega) ?_;intro v3 W3 hown3 hgrow3 _ hat3;have H3:=hid (zlr hown3 HE.out ((HB.out.alloc HB.out.size _).grown hgrow3 (by have:=HB.out.size;simp;omega) (fun j hj=>(HO.out.lt j hj).1)));obtain ⟨A3,c3,rfl⟩:=zaf hown3;clear hown3 hgrow3 hat3)
   go_ret
   exact H3.out
theorem zl8 (s:ByteArray) (w:World) (hs:s.size<=1000000000) (hT:Tabs w):
  Calls Tryz.prog 73 #[.string s] w fun e w'=>e=.returned (.int .i64 (nChars s))/\Below w.heap.size w w':=by
 have HL:=hid (zfB s w hs hT);have hle:=(zaR s).2;generalize nChars s=m at *;go_enter Tryz.func73,Tryz.ntmps73
 go_wp2_with (go_at_call 45;refine HL.out.mono ?_;rintro e w1 ⟨b,c,rfl,_,_,_,hb⟩;have H1:=hid hb;clear hb)
 go_ret
 exact ⟨zhV (by omega),H1.out⟩
end Go.Proofs.YtmmgdkpkcoopgaaGreatDoor
namespace Go.Proofs.YtmmgdkpkcoopgaaGreatDoor
open Go.Lib(hid)
open Go Go.RowKit Go.Shelf
set_option linter.unusedVariables false
set_option linter.unusedSimpArgs false
theorem zct (s:ByteArray) (c:GC) (A AL AO:Option Addr) (cp cL cO:Nat) (w:World) (hs:s.size<=1000000000) (hT:Tabs w) (hk:c.kq=8\/c.kq=9):
  Calls Tryz.prog 44 #[.string s,.agg #[.int .u8 c.kq,.slice A c.path.length cp,.string c.key,.int .i64 c.i,.int .i64 c.j,.int .i64 c.n,.int .u8 c.v.kq,.int .i64 c.v.num,.string c.v.str,.slice AL c.v.il.length cL,.slice AO c.v.vz.length cO,.string c.s]] w fun e w'=>e=.returned (.int .i64 (chkT (nChars s) c.kq.toNat c.i c.n))/\Below w.heap.size w w':=by
 have HL:=hid (fun W (hb:Below w.heap.size w W)=>zl8 s W hs (hT.below hb (Nat.le_refl _)))
 have hle:nChars s<=1000000000:=Nat.le_trans (zaR s).2 hs;have H0:=hid (Whole.new w 45 #[.int .u8 c.kq,.slice A c.path.length cp,.string c.key,.int .i64 c.i,.int .i64 c.j,.int .i64 c.n,.int .u8 c.v.kq,.int .i64 c.v.num,.string c.v.str,.slice AL c.v.il.length cL,.slice AO c.v.vz.length cO,.string c.s]);have HB:=hid (zaa w (.cells #[.int .u8 c.kq,.slice A c.path.length cp,.string c.key,.int .i64 c.i,.int .i64 c.j,.int .i64 c.n,.int .u8 c.v.kq,.int .i64 c.v.num,.string c.v.str,.slice AL c.v.il.length cL,.slice AO c.v.vz.length cO,.string c.s] 45));clear hT;obtain ⟨c0,c1,c2,c3,c4,c5,c6,c7,c8,c9,c10,c11,_⟩:=H0.out.tw;rcases hk with hk | hk
 ·have hk8:(c.kq != 8)=false:=by simp;omega
  have hk9:(c.kq == 9)=false:=by simp;omega
  rw [show chkT (nChars s) c.kq.toNat c.i c.n=if c.i<0 then 32 else if (nChars s:Int)<c.i then 32 else 0 by unfold chkT;rw [show c.kq.toNat=8 by omega];simp;repeat' split;all_goals omega]
  clear hk;generalize nChars s=m at *;by_cases h0:c.i<0<;>by_cases h1:(m:Int)<c.i<;>first | (exfalso;omega) | (have K0:=hid h0;have K1:=hid h1;(go_enter Tryz.func44,Tryz.ntmps44;go_wp2_with (go_at_call 73;refine (HL.out _ HB.out).mono ?_;rintro e w1 ⟨rfl,hb⟩;have H1:=hid (H0.out.below hb (by simp));have HB1:=hid (HB.out.trans (hb.mono (by simp)));clear c0 c1 c2 c3 c4 c5 c6 c7 c8 c9 c10 c11;obtain ⟨c0,c1,c2,c3,c4,c5,c6,c7,c8,c9,c10,c11,_⟩:=H1.out.tw;clear hb);go_ret;exact ⟨by simp [K0.out,K1.out],HB1.out⟩))
 ·have hk8:(c.kq != 8)=true:=by simp;omega
  have hk9n:(c.kq != 9)=false:=by simp;omega
  have hk9:(c.kq == 9)=true:=by simp;omega
  rw [show chkT (nChars s) c.kq.toNat c.i c.n=if c.i<0 then 32 else if (nChars s:Int)<c.i then 32 else if c.n<1 then 32 else if (nChars s:Int) - c.i<c.n then 32 else 0 by unfold chkT;rw [show c.kq.toNat=9 by omega];simp;repeat' split;all_goals omega]
  clear hk;generalize nChars s=m at *;by_cases h0:c.i<0<;>by_cases h1:(m:Int)<c.i<;>by_cases h2:c.n<1<;>by_cases h3:(m:Int) - c.i<c.n<;>first | (exfalso;omega) | (have K0:=hid h0;have K1:=hid h1;have K2:=hid h2;have K3:=hid h3;(go_enter Tryz.func44,Tryz.ntmps44;go_wp2_with (go_at_call 73;refine (HL.out _ HB.out).mono ?_;rintro e w1 ⟨rfl,hb⟩;have H1:=hid (H0.out.below hb (by simp));have HB1:=hid (HB.out.trans (hb.mono (by simp)));clear c0 c1 c2 c3 c4 c5 c6 c7 c8 c9 c10 c11;obtain ⟨c0,c1,c2,c3,c4,c5,c6,c7,c8,c9,c10,c11,_⟩:=H1.out.tw;clear hb);go_ret;exact ⟨by simp [K0.out,K1.out,K2.out,K3.out],HB1.out⟩))
end Go.Proofs.YtmmgdkpkcoopgaaGreatDoor
namespace Go.Proofs.YtmmgdkpkcoopgaaGreatDoor
open Go.Lib(hid)
open Go Go.RowKit Go.Shelf
set_option linter.unusedVariables false
set_option linter.unusedSimpArgs false
theorem zib (s:ByteArray) (c:GC) (i:Nat) (A AL AO:Option Addr) (cp cL cO:Nat) (w:World) (hs:s.size<=1000000000) (hs2:c.s.size<=1000000000) (hT:Tabs w) (hk:c.kq=8) (hi:c.i=i) (hin:i<=nChars s):
  Calls Tryz.prog 28 #[.string s,.agg #[.int .u8 c.kq,.slice A c.path.length cp,.string c.key,.int .i64 c.i,.int .i64 c.j,.int .i64 c.n,.int .u8 c.v.kq,.int .i64 c.v.num,.string c.v.str,.slice AL c.v.il.length cL,.slice AO c.v.vz.length cO,.string c.s]] w fun e w'=>e=.returned (.tuple #[.string (insS s i c.s),.int .i64 0])/\Below w.heap.size w w':=by
 have h0:chkT (nChars s) c.kq.toNat c.i c.n=0:=by
  unfold chkT;rw [show c.kq.toNat=8 by omega,hi]
  simp
  omega
 have HCK:=hid (fun W (hb:Below w.heap.size w W)=>zct s c A AL AO cp cL cO W hs (hT.below hb (Nat.le_refl _)) (.inl hk))
 rw [h0] at HCK;have HCU:=hid (fun W (hb:Below w.heap.size w W)=>zfB s W hs (hT.below hb (Nat.le_refl _)))
 have hcl:=zcH s i;have hnl:=(zaR s).2;have hk8:(c.kq == 8)=true:=by simp;omega
 have H0:=hid (Whole.new w 45 #[.int .u8 c.kq,.slice A c.path.length cp,.string c.key,.int .i64 c.i,.int .i64 c.j,.int .i64 c.n,.int .u8 c.v.kq,.int .i64 c.v.num,.string c.v.str,.slice AL c.v.il.length cL,.slice AO c.v.vz.length cO,.string c.s]);have HB:=hid (zaa w (.cells #[.int .u8 c.kq,.slice A c.path.length cp,.string c.key,.int .i64 c.i,.int .i64 c.j,.int .i64 c.n,.int .u8 c.v.kq,.int .i64 c.v.num,.string c.v.str,.slice AL c.v.il.length cL,.slice AO c.v.vz.length cO,.string c.s] 45));rw [hi] at HCK H0 HB ⊢;show Calls _ _ _ w fun e w'=>e=.returned (.tuple #[.string (s.extract 0 (cutS s i)++c.s++s.extract (cutS s i) s.size),.int .i64 0])/\Below w.heap.size w w'
 have hsz1:(s.extract 0 (cutS s i)).size=cutS s i:=by simp [ByteArray.size_extract];omega
 have hsz2:(s.extract 0 (cutS s i)++c.s).size=cutS s i+c.s.size:=by rw [ByteArray.size_append,hsz1]
 have hsz3:(s.extract (cutS s i) s.size).size=s.size - cutS s i:=zee s _ hcl;have hp1:¬ 9223372036854775807<(s.extract 0 (cutS s i)).size+c.s.size:=by omega
 have hp2:¬ 9223372036854775807<(s.extract 0 (cutS s i)++c.s).size+(s.extract (cutS s i) s.size).size:=by omega
 have HI:=hid hin;clear hk hi h0 hT;generalize nChars s=m at *;generalize hf:cutS s i=f at *;have HF:=hid hf;have hf0:(0:Int)<=(f:Int):=by omega
 have hf1:(f:Int)<=(s.size:Int):=by omega
 have hi0:(0:Int)<=(i:Int):=by omega
 have hi1:(i:Int)<((m+1:Nat):Int):=by omega
 clear hf hsz1 hsz2 hsz3 hin;go_enter Tryz.func28,Tryz.ntmps28
 go_wp2_with (first
  | (go_at_call 44;refine (HCK.out _ HB.out).mono ?_;rintro e w1 ⟨rfl,hb⟩;have H1:=hid (And.intro (H0.out.below hb (by simp)) (HB.out.trans (hb.mono (by simp))));clear hb;obtain ⟨c0,c1,c2,c3,c4,c5,c6,c7,c8,c9,c10,c11,_⟩:=H1.out.1.tw)
  | (go_at_call 45;refine (HCU.out _ H1.out.2).mono ?_;rintro e w2 ⟨b,cap,rfl,_,_,hcut,hb⟩;have H2:=hid (And.intro (H1.out.1.below hb H1.out.1.lt) (H1.out.2.trans (hb.mono H1.out.2.size)));have q0:=(hcut i HI.out);rw [HF.out] at q0;clear hcut hb c0 c1 c2 c3 c4 c5 c6 c7 c8 c9 c10 c11;obtain ⟨c0,c1,c2,c3,c4,c5,c6,c7,c8,c9,c10,c11,_⟩:=H2.out.1.tw))
 go_region
 go_wp2
 go_ret2
 exact ⟨rfl,H2.out.2.drew⟩
theorem ziI (s:ByteArray) (c:GC) (i n:Nat) (A AL AO:Option Addr) (cp cL cO:Nat) (w:World) (hs:s.size<=1000000000) (hT:Tabs w) (hk:c.kq=9) (hi:c.i=i) (hn:c.n=n) (h1:1<=n) (hin:i+n<=nChars s):
  Calls Tryz.prog 28 #[.string s,.agg #[.int .u8 c.kq,.slice A c.path.length cp,.string c.key,.int .i64 c.i,.int .i64 c.j,.int .i64 c.n,.int .u8 c.v.kq,.int .i64 c.v.num,.string c.v.str,.slice AL c.v.il.length cL,.slice AO c.v.vz.length cO,.string c.s]] w fun e w'=>e=.returned (.tuple #[.string (delS s i n),.int .i64 0])/\Below w.heap.size w w':=by
 have h0:chkT (nChars s) c.kq.toNat c.i c.n=0:=by
  unfold chkT;rw [show c.kq.toNat=9 by omega,hi,hn]
  simp
  omega
 have HCK:=hid (fun W (hb:Below w.heap.size w W)=>zct s c A AL AO cp cL cO W hs (hT.below hb (Nat.le_refl _)) (.inr hk))
 rw [h0] at HCK;have HCU:=hid (fun W (hb:Below w.heap.size w W)=>zfB s W hs (hT.below hb (Nat.le_refl _)))
 have hcl:=zcH s i;have hcl2:=zcH s (i+n);have hnl:=(zaR s).2;have hk8:(c.kq == 8)=false:=by simp;omega
 have H0:=hid (Whole.new w 45 #[.int .u8 c.kq,.slice A c.path.length cp,.string c.key,.int .i64 c.i,.int .i64 c.j,.int .i64 c.n,.int .u8 c.v.kq,.int .i64 c.v.num,.string c.v.str,.slice AL c.v.il.length cL,.slice AO c.v.vz.length cO,.string c.s]);have HB:=hid (zaa w (.cells #[.int .u8 c.kq,.slice A c.path.length cp,.string c.key,.int .i64 c.i,.int .i64 c.j,.int .i64 c.n,.int .u8 c.v.kq,.int .i64 c.v.num,.string c.v.str,.slice AL c.v.il.length cL,.slice AO c.v.vz.length cO,.string c.s] 45));rw [hi,hn] at HCK H0 HB ⊢;show Calls _ _ _ w fun e w'=>e=.returned (.tuple #[.string (s.extract 0 (cutS s i)++s.extract (cutS s (i+n)) s.size),.int .i64 0])/\Below w.heap.size w w'
 have hsz1:(s.extract 0 (cutS s i)).size=cutS s i:=by simp [ByteArray.size_extract];omega
 have hsz3:(s.extract (cutS s (i+n)) s.size).size=s.size - cutS s (i+n):=zee s _ hcl2;have hp1:¬ 9223372036854775807<(s.extract 0 (cutS s i)).size+(s.extract (cutS s (i+n)) s.size).size:=by omega
 have HI:=hid hin;clear hk hi hn h0 hT;generalize nChars s=m at *;generalize hf:cutS s i=f at *;generalize hf':cutS s (i+n)=f' at *;have HF:=hid (And.intro hf hf');have hf0:(0:Int)<=(f:Int):=by omega
 have hf1:(f:Int)<=(s.size:Int):=by omega
 have hf2:(0:Int)<=(f':Int):=by omega
 have hf3:(f':Int)<=(s.size:Int):=by omega
 have hi0:(0:Int)<=(i:Int):=by omega
 have hi1:(i:Int)<((m+1:Nat):Int):=by omega
 have hi2:(0:Int)<=(i:Int)+(n:Int):=by omega
 have hi3:(i:Int)+(n:Int)<((m+1:Nat):Int):=by omega
 have hwr:IntKind.i64.wrap ((i:Int)+(n:Int))=(i:Int)+(n:Int):=IntWalk.i64_in _ (by omega)
 have htn:((i:Int)+(n:Int)).toNat=i+n:=by omega
 clear hf hf' hsz1 hsz3 hin;go_enter Tryz.func28,Tryz.ntmps28
 go_wp2_with (first
  | (go_at_call 44;refine (HCK.out _ HB.out).mono ?_;rintro e w1 ⟨rfl,hb⟩;have H1:=hid (And.intro (H0.out.below hb (by simp)) (HB.out.trans (hb.mono (by simp))));clear hb;obtain ⟨c0,c1,c2,c3,c4,c5,c6,c7,c8,c9,c10,c11,_⟩:=H1.out.1.tw)
  | (go_at_call 45;refine (HCU.out _ H1.out.2).mono ?_;rintro e w2 ⟨b,cap,rfl,_,_,hcut,hb⟩;have H2:=hid (And.intro (H1.out.1.below hb H1.out.1.lt) (H1.out.2.trans (hb.mono H1.out.2.size)));have q0:=(hcut i (by have:=HI.out;omega));have q1:=(hcut (i+n) HI.out);rw [HF.out.1] at q0;rw [HF.out.2] at q1;clear hcut hb c0 c1 c2 c3 c4 c5 c6 c7 c8 c9 c10 c11;obtain ⟨c0,c1,c2,c3,c4,c5,c6,c7,c8,c9,c10,c11,_⟩:=H2.out.1.tw))
 go_region
 go_wp2
 go_ret2
 exact ⟨rfl,H2.out.2.drew⟩
end Go.Proofs.YtmmgdkpkcoopgaaGreatDoor
namespace Go.Proofs.YtmmgdkpkcoopgaaGreatDoor
open Go.Lib(hid)
open Go Go.RowKit
set_option linter.unusedVariables false
set_option linter.unusedSimpArgs false
def fromAt (A:Option Addr) (c i:Nat):Option Addr:=if c=i then A else A.map fun p=>⟨p.block,p.off+i * 5,none⟩
theorem zh2 (A:Option Addr) (n c i:Nat) (hA:∀ p,A=some p->p.spot=none) (hi:i<=n) (hn:n<=c) (hc:c<=maxLen) (W:World):(Instr.slice 26 (.slice A n c) (some (.int .i64 i)) none none).run Tryz.prog W=.ok (.slice (fromAt A c i) (n - i) (c - i)) W:=by
 unfold maxLen at hc;rw [run_slice_l (ht:=Tryz.underlying26) (h0:=by omega) (h1:=by omega)]
 by_cases e:c=i
 ·subst e;simp [go_sem,fromAt]
 ·cases A with
  | none=>simp [go_sem,fromAt]
  | some p=>
   obtain ⟨pb,po,ps⟩:=p;have:=hA _ rfl;simp only at this;subst this;have hz:(c:Int)≠i:=by omega
   simp [go_sem,fromAt,e,Addr.add]
   try omega
theorem zhN (A:Option Addr) (n c i:Nat) (hi:i<=n) (hn:n<=c) (hc:c<=maxLen) (W:World):(Instr.slice 26 (.slice A n c) none (some (.int .i64 i)) none).run Tryz.prog W=.ok (.slice A i c) W:=by
 unfold maxLen at hc;rw [run_slice_h (ht:=Tryz.underlying26) (h0:=by omega) (h2:=by omega)]
 cases A<;>simp [go_sem,Addr.add]
theorem zjC {ok:Nat->Prop} {W:World} {A:Option Addr} {c:Nat} {l:List GV} (h:LstV ok W (.slice A l.length c) l) (i:Nat) (hi:i<=l.length):∃ xs,Lc ok W (fromAt A c i) (l.drop i) xs:=by
 rcases h with ⟨rfl,e⟩ | ⟨b',o',c',e,h1,h2,hK,hE⟩
 ·cases e
  simp at hi
  subst hi;exact ⟨[],by simp [RowL],rfl,(fun ad h=>by simp [fromAt] at h),(fun u h=>by cases h)⟩
 ·simp only [Value.slice.injEq] at e
  obtain ⟨rfl,_,rfl⟩:=e;by_cases hba:c=i
  ·have hd:l.drop i=[]:=List.drop_eq_nil_of_le (by omega)
   rw [hd];exact ⟨[],rfl,rfl,(fun ad h=>by simp [fromAt,hba] at h;subst h;exact ⟨hK.lt,fun j u hj=>by simp at hj⟩),(fun u h=>by cases h)⟩
  ·have hE':GV.els ok W b' 5 (o'+i * 5) (l.drop i):=GV.els_of fun j g hj=>by
    rw [List.getElem?_drop] at hj;have:=GV.els_get hE hj
    rwa [show o'+i * 5+j * 5=o'+(i+j) * 5 by omega]
   obtain ⟨xs,hr,hl,hc,h1⟩:=zd1 hE';refine ⟨xs,hr,hl,fun ad h=>?_,h1⟩
   simp [fromAt,hba] at h
   subst h;refine ⟨hK.lt,fun j u hj=>?_⟩
   have e2:(⟨b',o'+i * 5,none⟩:Addr).add j =⟨b',o'+i * 5+j,none⟩:=by unfold Addr.add;split<;>simp_all
   rw [e2];exact hc j u hj
theorem zkg {ok:Nat->Prop} {W:World} {A:Option Addr} {c:Nat} {l:List GV} (h:LstV ok W (.slice A l.length c) l) (i:Nat) (hi:i<=l.length):∃ xs,Lc ok W A (l.take i) xs:=by
 rcases h with ⟨rfl,e⟩ | ⟨b',o',c',e,h1,h2,hK,hE⟩
 ·cases e
  exact ⟨[],by simp [RowL],by simp,(fun ad h=>by cases h),(fun u h=>by cases h)⟩
 ·simp only [Value.slice.injEq] at e
  obtain ⟨rfl,_,rfl⟩:=e;have hE':GV.els ok W b' 5 o' (l.take i):=GV.els_of fun j g hj=>by
   rw [List.getElem?_take] at hj;split at hj
   ·exact GV.els_get hE hj
   ·cases hj
  obtain ⟨xs,hr,hl,hc,h1⟩:=zd1 hE';refine ⟨xs,hr,hl,fun ad h=>?_,h1⟩
  cases h
  refine ⟨hK.lt,fun j u hj=>?_⟩
  have e2:(⟨b',o',none⟩:Addr).add j =⟨b',o'+j,none⟩:=by unfold Addr.add;split<;>simp_all
  rw [e2];exact hc j u hj
theorem zgS {A:Option Addr} {c i:Nat} (h:fromAt A c i=none):A=none:=by unfold fromAt at h;split at h<;>simpa using h
end Go.Proofs.YtmmgdkpkcoopgaaGreatDoor
namespace Go.Proofs.YtmmgdkpkcoopgaaGreatDoor
open Go.Lib(hid)
open Go Go.RowKit
structure CopyRows (lo:Nat) (l:List GV) (ks:List ByteArray) (ov:List GV) (W:World) (vL vO:Value) (xs ys:List Value):Prop where
 ownL:W.ownsRow lo 29 5 vL l.length xs
 ownO:W.ownsRow lo 56 6 vO ov.length ys
 rowL:RowL (Away lo vL vO) W l xs
 rowO:RowO (Away lo vL vO) W ks ov ys
theorem Rows.whole {B:Nat} {W0 wr:World} {l:List GV} {ks:List ByteArray} {ov:List GV} {vL vO:Value} {xs ys:List Value} (h:Rows B W0 l ks ov l.length ov.length vL vO xs ys wr) (hkl:ks.length=ov.length) {W:World} (hW:∀ k,B<=k->k<wr.heap.size->W.heap[k]? = wr.heap[k]?) {lo:Nat} (hlo:lo<=B):
  CopyRows lo l ks ov W vL vO xs ys:=by
 have hF:From (Away B vL vO) wr W:=fun k hk hlt=>hW k hk.1 hlt
 have e1:=h.rowL;have e2:=h.rowO;rw [List.take_length] at e1;rw [List.take_length,<- hkl,List.take_length] at e2;have base:∀ {e:TypeId} {size n:Nat} {v:Value} {xs:List Value},W.ownsRow B e size v n xs->W.ownsRow lo e size v n xs:=fun h=>⟨h.1,h.2.imp id fun ⟨g,cap,cur,h1,h2,h3⟩=>⟨g,cap,cur,h1,Nat.le_trans hlo h2,h3⟩⟩
 exact ⟨base (zbo h.ownL fun k hk=>hW k (h.ownL.lt k hk).1 (h.ownL.lt k hk).2),base (zbo h.ownO fun k hk=>hW k (h.ownO.lt k hk).1 (h.ownO.lt k hk).2),
  e1.keep hF (fun k hk _=>⟨Nat.le_trans hlo hk.1,hk.2⟩),e2.keep hF (fun k hk _=>⟨Nat.le_trans hlo hk.1,hk.2⟩)⟩
theorem zgE (ok:Nat->Prop) (v:Value) (g:GV) (w:World) (hv:g.val ok w v) (hsz:g.size<=1000000000):
  Calls Tryz.prog 20 #[v] w fun e w'=>∃ AL cL AO cO xs ys,e=.returned (.agg #[.int .u8 g.kq,.int .i64 g.num,.string g.str,.slice AL g.il.length cL,.slice AO g.vz.length cO])/\CopyRows w.heap.size g.il g.keys g.vz w' (.slice AL g.il.length cL) (.slice AO g.vz.length cO) xs ys/\Below w.heap.size w w':=by
 have ih:=zcX g.size;have hF:g.size<=g.size+1:=Nat.le_succ _;obtain ⟨L,O,rfl,hL,hO⟩:=hv;have hkl:=hO.1;obtain ⟨A,c,rfl,hc1,hc2,hf⟩:=hL.form;obtain ⟨A',c',rfl,hc1',hc2',hf'⟩:=hO.form;have hge:=zaD g;have hln1:=zaq g.il;have hln2:=zaq g.vz;unfold maxLen at hc2 hc2';generalize g.il=l at *;generalize g.vz=ov at *;generalize g.keys=ks at *;generalize g.kq=gk at *;generalize g.num=gn at *;generalize g.str=gs at *;have IH:=hid ih;have HF:=hid hf;have HF':=hid hf';have HSZ:=hid (And.intro hF (And.intro hsz hge));have hll:l.length<=1000000000:=by omega
 have hlo:ov.length<=1000000000:=by omega
 have HKL:=hid hkl;clear ih hf hf' hF hsz hge hL hO hln1 hln2 hkl;obtain ⟨i0,hi0,hz0,hz1,hz2⟩:=info_parts infoVal;obtain ⟨i1,hi1,hy0,hy1,hy2⟩:=info_parts infoField;have HI0:=hid (And.intro hi0 (And.intro hz0 (And.intro hz1 hz2)));have HI1:=hid (And.intro hi1 (And.intro hy0 (And.intro hy1 hy2)));clear hi0 hz0 hz1 hz2 hi1 hy0 hy1 hy2;go_enter Tryz.func20,Tryz.ntmps20
 go_wp2
 have hB:Below w.heap.size w ((w.alloc (.cells #[Value.int IntKind.u8 gk,Value.int IntKind.i64 gn,Value.string gs,Value.slice A l.length c,Value.slice A' ov.length c'] 29)).alloc (.cells #[.int .u8 0,.int .i64 0,.string ⟨#[]⟩,.slice none 0 0,.slice none 0 0] 29)):=((Below.refl _ _).alloc (Nat.le_refl _) _).alloc (by simp) _
 have hW:=(Whole.new w 29 #[Value.int IntKind.u8 gk,Value.int IntKind.i64 gn,Value.string gs,Value.slice A l.length c,Value.slice A' ov.length c']).alloc (.cells #[.int .u8 0,.int .i64 0,.string ⟨#[]⟩,.slice none 0 0,.slice none 0 0] 29);have hV:=Whole.new (w.alloc (.cells #[Value.int IntKind.u8 gk,Value.int IntKind.i64 gn,Value.string gs,Value.slice A l.length c,Value.slice A' ov.length c'] 29)) 29 #[.int .u8 0,.int .i64 0,.string ⟨#[]⟩,.slice none 0 0,.slice none 0 0];rw [World.size_alloc] at hV;have hs0:((w.alloc (.cells #[Value.int IntKind.u8 gk,Value.int IntKind.i64 gn,Value.string gs,Value.slice A l.length c,Value.slice A' ov.length c'] 29)).alloc (.cells #[.int .u8 0,.int .i64 0,.string ⟨#[]⟩,.slice none 0 0,.slice none 0 0] 29)).heap.size=w.heap.size+2:=by simp
 generalize ((w.alloc (.cells #[Value.int IntKind.u8 gk,Value.int IntKind.i64 gn,Value.string gs,Value.slice A l.length c,Value.slice A' ov.length c'] 29)).alloc (.cells #[.int .u8 0,.int .i64 0,.string ⟨#[]⟩,.slice none 0 0,.slice none 0 0] 29))=W0 at hB hW hV hs0 ⊢;have HW:=hid hW;have HV:=hid hV;have HB:=hid hB;have HS0:=hid hs0;clear hW hV hB hs0
 go_loopw [3,4] (CopyRel1 W0 l ks ov) (fun _ i _=>l.length - (intOf i).toNat)
 case atStart=>exact ⟨0,[],rfl,Nat.zero_le _,Rows.start _ _ _ _⟩
 case round=>
  obtain ⟨k,xs,rfl,hk,hr⟩:=hrel;obtain ⟨AL,cL,rfl⟩:=zaf hr.ownL;have hx3:wr.cell? ⟨w.heap.size,3,none⟩=some (.slice A l.length c):=((HW.out.below hr.below HW.out.lt).cell 3).trans rfl;have hwr:Below w.heap.size w wr:=HB.out.trans (hr.below.mono HB.out.size);by_cases hlt:k<l.length
  ·obtain ⟨b,o,rfl,hK,hE⟩:=HF.out (by intro e;rw [e] at hlt;simp at hlt)
   obtain ⟨A1,c1,A2,c2,hcells,hval⟩:=zcK hE hK hlt;obtain ⟨q0,q1,q2,q3,q4⟩:=hcells wr hwr;have hs:=zaL l k hlt;have hcall:=IH.out _ _ l[k] wr (by have:=HSZ.out;omega) (hval wr hwr) (by have:=HSZ.out;omega)
   have HG:=hid (List.getElem?_eq_getElem hlt);have HC:=hid hcall;have HR:=hid hr;have hmax:k+1<=maxLen:=by unfold maxLen;omega
   have hby:(k+1) * 80<=140737488355328:=by omega
   have HM:=hid (And.intro hmax hby);clear hcells hval hs hcall hE hK hr hwr hmax hby;generalize l[k]=x at *
   go_wp2_with (first | (go_at_call 20;refine HC.out.mono ?_;rintro e W1 ⟨v',rfl,⟨L1,O1,rfl,hL1,hO1⟩,hb1⟩;obtain ⟨BL,dL,rfl⟩:=zah hL1;obtain ⟨BO,dO,rfl⟩:=zag hO1;have H1:=hid (And.intro hL1 (And.intro hO1 hb1));clear hL1 hO1 hb1) | (at_builtin;refine wpList_append_own_at _ rfl (.tmp 14) (.tmp 21) 26 rfl W0.heap.size 29 i0 _ 5 80 Tryz.underlying26 HI0.out.1 HI0.out.2.1 HI0.out.2.2.1 HI0.out.2.2.2 rfl (by decide) (.slice AL k cL) k xs rfl (((HR.out.step H1.out.2.2).step ((Below.refl _ W1).alloc (Nat.le_refl _) _)).ownL) ⟨W1.heap.size,0,none⟩ 1 1 (chunk x (.slice BL x.il.length dL) (.slice BO x.vz.length dO)) rfl rfl (row_cells' _ _ rfl _ _) (by simp [chunk,Value.oneCell']) HM.out.1 HM.out.2 (((HR.out.step H1.out.2.2).step ((Below.refl _ W1).alloc (Nat.le_refl _) _)).size) ?_;intro v3 W3 hown3 hgrow3 _ hat3;obtain ⟨A3,c3,rfl⟩:=zaf hown3;have H3:=hid (And.intro hown3 (And.intro hgrow3 hat3));clear hown3 hgrow3 hat3))
   go_roundw
   case rel=>exact ⟨k+1,_,by go_num,by omega,HR.out.addL HG.out H1.out.2.2 H1.out.1 H1.out.2.1 H3.out.1 H3.out.2.1 H3.out.2.2⟩
   case measure=>simp [intOf];omega
  ·have hkl:k=l.length:=by omega
   subst hkl;have HR:=hid hr;clear hr hwr;go_wp2
   clear hx3
   go_loopw [5,6] (CopyRel2 W0 l ks ov (.slice AL l.length cL)) (fun _ i _=>ov.length - (intOf i).toNat)
   case atStart=>exact ⟨0,_,_,rfl,Nat.zero_le _,HR.out⟩
   case round=>
    clear HR;obtain ⟨k,xs,ys,rfl,hk,hr⟩:=hrel;obtain ⟨AO,cO,rfl⟩:=zaf hr.ownO;by_cases hlt:k<ov.length
    ·have hwr:Below w.heap.size w wr:=HB.out.trans (hr.below.mono HB.out.size)
     obtain ⟨b,o,rfl,hK,hks,hE⟩:=HF'.out (by intro e;rw [e] at hlt;simp at hlt)
     have hx4:wr.cell? ⟨w.heap.size,4,none⟩=some (.slice (some ⟨b,o,none⟩) ov.length c'):=((HW.out.below hr.below HW.out.lt).cell 4).trans rfl;have hlk:k<ks.length:=by have:=HKL.out;omega
     obtain ⟨A1,c1,A2,c2,hcells,hval⟩:=zbV hks hE hK hlt hlk;have hs:=zaL ov k hlt;have hsz:=HSZ.out;have HC:=hid (fun (W:World) (h:Below W0.heap.size W0 W)=>IH.out _ _ ov[k] W (by omega) (hval W (HB.out.trans (h.mono HB.out.size))) (by omega))
     have HS:=hid (fun (W:World) (h:Below W0.heap.size W0 W)=>And.intro (((HW.out.below h HW.out.lt).cell 4).trans rfl:W.cell? ⟨w.heap.size,4,none⟩=some (.slice (some ⟨b,o,none⟩) ov.length c')) (hcells W (HB.out.trans (h.mono HB.out.size))))
     have HG:=hid (And.intro (List.getElem?_eq_getElem hlt) (List.getElem?_eq_getElem hlk));have HR:=hid hr;have hmax:k+1<=maxLen:=by unfold maxLen;omega
     have hby:(k+1) * 96<=140737488355328:=by omega
     have HM:=hid (And.intro hmax hby);have hk0:(0:Int)<=(k:Int):=by omega
     have hk1:(k:Int)<(ov.length:Int):=by omega
     clear hcells hval hs hsz hE hK hks hr hwr hmax hby;generalize ov[k]=x at *;generalize ks[k]=kk at *
     go_wp2_with fail
     go_region_held3 (fun W=>W.cell? ⟨w.heap.size,4,none⟩=some (.slice (some ⟨b,o,none⟩) ov.length c')/\W.cell? ⟨b,o+k * 6,none⟩=some (.string kk)/\W.cell? ⟨b,o+k * 6+1,none⟩=some (.int .u8 x.kq)/\W.cell? ⟨b,o+k * 6+1+1,none⟩=some (.int .i64 x.num)/\W.cell? ⟨b,o+k * 6+1+2,none⟩=some (.string x.str)/\W.cell? ⟨b,o+k * 6+1+3,none⟩=some (.slice A1 x.il.length c1)/\W.cell? ⟨b,o+k * 6+1+4,none⟩=some (.slice A2 x.vz.length c2))
      (first | exact HS.out _ H3.out.2.2.2 | exact HS.out _ ((HR.out.step H1.out.2.2).step ((Below.refl _ W1).alloc (Nat.le_refl _) _)).below | exact HS.out _ (HR.out.step H1.out.2.2).below | exact HS.out _ HR.out.below.drew)
      (first | (go_at_call 20;refine (HC.out _ HR.out.below.drew).mono ?_;rintro e W1 ⟨v',rfl,⟨L1,O1,rfl,hL1,hO1⟩,hb1⟩;obtain ⟨BL,dL,rfl⟩:=zah hL1;obtain ⟨BO,dO,rfl⟩:=zag hO1;have hb2:Below wr.heap.size wr W1:=(Below.refl _ _).drew.trans hb1;have H1:=hid (And.intro hL1 (And.intro hO1 hb2));clear hL1 hO1 hb1 hb2) | (refine zaJ rfl (.tmp 30) (.tmp 45) 27 rfl W0.heap.size 56 i1 _ 6 96 Tryz.underlying27 HI1.out.1 HI1.out.2.1 HI1.out.2.2.1 HI1.out.2.2.2 rfl (by decide) (.slice AO k cO) k ys rfl ((HR.out.step H1.out.2.2).step ((Below.refl _ W1).alloc (Nat.le_refl _) _)).ownO ⟨W1.heap.size,0,none⟩ 1 1 (.string kk :: chunk x (.slice BL x.il.length dL) (.slice BO x.vz.length dO)) rfl rfl (row_cells' _ _ rfl _ _) (by simp [chunk,Value.oneCell']) HM.out.1 HM.out.2 ((HR.out.step H1.out.2.2).step ((Below.refl _ W1).alloc (Nat.le_refl _) _)).size ?_;intro v3 W3 hown3 hgrow3 hat3;obtain ⟨A3,c3,rfl⟩:=zaf hown3;have H3:=hid (And.intro hown3 (And.intro hgrow3 (And.intro hat3 (HR.out.addO HG.out.1 HG.out.2 H1.out.2.2 H1.out.1 H1.out.2.1 hown3 hgrow3 hat3).below)));clear hown3 hgrow3 hat3))
     go_wp2
     go_roundw
     case rel=>exact ⟨k+1,_,_,by go_num,by omega,HR.out.addO HG.out.1 HG.out.2 H1.out.2.2 H1.out.1 H1.out.2.1 H3.out.1 H3.out.2.1 H3.out.2.2.1⟩
     case measure=>simp [intOf];omega
    ·have hkl:k=ov.length:=by omega
     subst hkl;have hx4:wr.cell? ⟨w.heap.size,4,none⟩=some (.slice A' ov.length c'):=((HW.out.below hr.below HW.out.lt).cell 4).trans rfl;have hx:=(HW.out.below hr.below HW.out.lt).five;have hy:=(HV.out.below hr.below HV.out.lt).five;obtain ⟨a0,a1,a2,a3,a4,f0,f1,f2,f3,f4⟩:=hx;obtain ⟨b0,b1,b2,b3,b4,e0,e1,e2,e3,e4⟩:=hy;have HR:=hid hr;clear hr;go_wp2
     refine bodyPost_ret (v:=.agg #[.int .u8 gk,.int .i64 gn,.string gs,.slice AL l.length cL,.slice AO ov.length cO]) (by simp [results,Tryz.results20,go_sem,b0,b1,b2,b3,b4]) rfl ?_
     exact ⟨_,_,_,_,_,_,rfl,HR.out.whole HKL.out (W:=put5 ((wr.setCell ⟨w.heap.size,3,none⟩ (.slice AL l.length cL)).setCell ⟨w.heap.size,4,none⟩ (.slice AO ov.length cO)) (w.heap.size+1) (.int .u8 gk) (.int .i64 gn) (.string gs) (.slice AL l.length cL) (.slice AO ov.length cO)) (fun j hj hlt=>by
      rw [zac _ _ _ _ _ _ _ _ (by have:=HS0.out;omega),Below.heap_setCell _ _ _ _ (by have:=HS0.out;simp only;omega),Below.heap_setCell _ _ _ _ (by have:=HS0.out;simp only;omega)]) (by have:=HS0.out;omega),zae (((HB.out.trans (HR.out.below.mono HB.out.size)).setCell (Nat.le_refl _) _).setCell (Nat.le_refl _) _) (by omega) _ _ _ _ _⟩
end Go.Proofs.YtmmgdkpkcoopgaaGreatDoor
namespace Go.Proofs.YtmmgdkpkcoopgaaGreatDoor
open Go.Lib(hid)
open Go Go.RowKit
theorem zgl {ok ok':Nat->Prop} {B0:Nat} {W W':World} {l:List GV} {xs:List Value} {g k c:Nat} {y:GV} (hr:RowL ok W l xs) (ho:W.ownsRow B0 29 5 (.slice (some ⟨g,0,none⟩) l.length c) l.length xs) (hne:¬ ok g) (hok:∀ k,ok k->ok' k) (hg':ok' g)
  (hJ:Just g (k * 5) 5 W W') (hy:y.at ok' W' g (k * 5)):LstV ok' W' (.slice (some ⟨g,0,none⟩) l.length c) (l.set k y):=by
 rcases ho.2 with ⟨hn,_⟩ | ⟨g',cap,cur,he,hb,hg,h1,h2,h3,h4⟩
 ·cases hn
 cases he
 have hF:From ok W W':=hJ.from hne;obtain ⟨cs',hw'⟩:=hJ.row _ _ (show Whole W g 29 cur from hg);have hE:GV.els ok W g 5 0 l:=hr.els fun j u hj=>by
  have:=ho.cells (g:=g) rfl j u hj
  rwa [zbu] at this
 refine .inr ⟨g,0,c,by rw [List.length_set],by rw [List.length_set];exact h1,h2,hw'.kq hg',GV.els_of fun i a ha=>?_⟩
 rw [Nat.zero_add];by_cases e:i=k
 ·subst e
  rw [List.getElem?_set] at ha;simp only [if_true] at ha;split at ha
  ·cases ha;exact hy
  ·cases ha
 ·rw [List.getElem?_set_ne (Ne.symm e)] at ha
  have hat:=GV.els_get hE ha;rw [Nat.zero_add] at hat;obtain ⟨L,O,c0,c1,c2,c3,c4,hL,hO⟩:=GV.at_iff.1 hat;have hn:∀ d,d<5->W'.cell? ⟨g,i * 5+d,none⟩=W.cell? ⟨g,i * 5+d,none⟩:=fun d hd=>hJ.near _ (by omega)
  have n0:=hn 0 (by omega)
  rw [Nat.add_zero] at n0;exact GV.at_iff.2 ⟨L,O,n0.trans c0,(hn 1 (by omega)).trans c1,(hn 2 (by omega)).trans c2,(hn 3 (by omega)).trans c3,(hn 4 (by omega)).trans c4,hL.keep hF (fun k h _=>hok k h),hO.keep hF (fun k h _=>hok k h)⟩
theorem zki {ok ok':Nat->Prop} {B0:Nat} {W W':World} {ks:List ByteArray} {l:List GV} {xs:List Value} {g k c:Nat} {y:GV} (hr:RowO ok W ks l xs) (ho:W.ownsRow B0 56 6 (.slice (some ⟨g,0,none⟩) l.length c) l.length xs) (hne:¬ ok g) (hok:∀ k,ok k->ok' k) (hg':ok' g)
  (hJ:Just g (k * 6+1) 5 W W') (hy:y.at ok' W' g (k * 6+1)):ObjV ok' W' (.slice (some ⟨g,0,none⟩) l.length c) ks (l.set k y):=by
 rcases ho.2 with ⟨hn,_⟩ | ⟨g',cap,cur,he,hb,hg,h1,h2,h3,h4⟩
 ·cases hn
 cases he
 have hF:From ok W W':=hJ.from hne;obtain ⟨cs',hw'⟩:=hJ.row _ _ (show Whole W g 56 cur from hg);have hlen:=hr.len;have hE:=hr.els (b:=g) (off:=0) fun j u hj=>by
  have:=ho.cells (g:=g) rfl j u hj
  rwa [zbu] at this
 refine ⟨by rw [List.length_set];exact hlen,.inr ⟨g,0,c,by rw [List.length_set],by rw [List.length_set];exact h1,h2,hw'.kq hg',KeysAt.of fun i a ha=>?_,GV.els_of fun i a ha=>?_⟩⟩
 ·exact (hJ.near _ (by omega)).trans (hE.1.get ha)
 ·by_cases e:i=k
  ·subst e
   rw [List.getElem?_set] at ha;simp only [if_true] at ha;split at ha
   ·cases ha;rwa [show 0+1+i * 6=i * 6+1 by omega]
   ·cases ha
  ·rw [List.getElem?_set_ne (Ne.symm e)] at ha
   obtain ⟨L,O,c0,c1,c2,c3,c4,hL,hO⟩:=GV.at_iff.1 (GV.els_get hE.2 ha);have hn:∀ d,d<5->W'.cell? ⟨g,0+1+i * 6+d,none⟩=W.cell? ⟨g,0+1+i * 6+d,none⟩:=fun d hd=>hJ.near _ (by omega)
   have n0:=hn 0 (by omega)
   rw [Nat.add_zero] at n0;exact GV.at_iff.2 ⟨L,O,n0.trans c0,(hn 1 (by omega)).trans c1,(hn 2 (by omega)).trans c2,(hn 3 (by omega)).trans c3,(hn 4 (by omega)).trans c4,hL.keep hF (fun k h _=>hok k h),hO.keep hF (fun k h _=>hok k h)⟩
theorem zdu {ok ok':Nat->Prop} {b off:Nat} {x:GV} {CL CO:Option Addr} {eL eO:Nat} {W:World} {z0 z1 z2 z3 z4:Value} (c0:W.cell? ⟨b,off,none⟩=some z0) (c1:W.cell? ⟨b,off+1,none⟩=some z1) (c2:W.cell? ⟨b,off+2,none⟩=some z2) (c3:W.cell? ⟨b,off+3,none⟩=some z3) (c4:W.cell? ⟨b,off+4,none⟩=some z4)
  (hb:¬ ok b) (hok:∀ k,ok k->ok' k) (hL:LstV ok W (.slice CL x.il.length eL) x.il) (hO:ObjV ok W (.slice CO x.vz.length eO) x.keys x.vz):
  x.at ok' (((((W.setCell ⟨b,off,none⟩ (.int .u8 x.kq)).setCell ⟨b,off+1,none⟩ (.int .i64 x.num)).setCell ⟨b,off+2,none⟩ (.string x.str)).setCell ⟨b,off+3,none⟩ (.slice CL x.il.length eL)).setCell ⟨b,off+4,none⟩ (.slice CO x.vz.length eO)) b off:=by
 have hJ:=zbl (b:=b) (off:=off) W (.int .u8 x.kq) (.int .i64 x.num) (.string x.str) (.slice CL x.il.length eL) (.slice CO x.vz.length eO);have hF:From ok W _:=hJ.from hb;refine GV.at_iff.2 ⟨.slice CL x.il.length eL,.slice CO x.vz.length eO,?_,?_,?_,?_,?_,hL.keep hF (fun k h _=>hok k h),hO.keep hF (fun k h _=>hok k h)⟩
 ·rw [zam _ (by omega),zam _ (by omega),zam _ (by omega),zam _ (by omega)]
  exact World.cell?_setCell_same' _ _ _ (by rw [c0];rfl)
 ·rw [zam _ (by omega),zam _ (by omega),zam _ (by omega)]
  exact World.cell?_setCell_same' _ _ _ (by rw [zam _ (by omega),c1];rfl)
 ·rw [zam _ (by omega),zam _ (by omega)]
  exact World.cell?_setCell_same' _ _ _ (by rw [zam _ (by omega),zam _ (by omega),c2];rfl)
 ·rw [zam _ (by omega)]
  exact World.cell?_setCell_same' _ _ _ (by rw [zam _ (by omega),zam _ (by omega),zam _ (by omega),c3];rfl)
 ·exact World.cell?_setCell_same' _ _ _ (by rw [zam _ (by omega),zam _ (by omega),zam _ (by omega),zam _ (by omega),c4];rfl)
theorem zdU {lo:Nat} {l:List GV} {ks:List ByteArray} {ov:List GV} {W:World} {AL:Option Addr} {cL:Nat} {vO:Value} {xs ys:List Value} (h:CopyRows lo l ks ov W (.slice AL l.length cL) vO xs ys) {k:Nat} (hk:k<l.length):
  ∃ eb cs,AL=some ⟨eb,0,none⟩/\lo<=eb/\Whole W eb 29 cs/\l.length<=cL/\cL<=maxLen/\∃ u0 u1 u2 u3 u4,W.cell? ⟨eb,k * 5,none⟩=some u0/\W.cell? ⟨eb,k * 5+1,none⟩=some u1/\W.cell? ⟨eb,k * 5+2,none⟩=some u2/\W.cell? ⟨eb,k * 5+3,none⟩=some u3/\W.cell? ⟨eb,k * 5+4,none⟩=some u4:=by
 rcases h.ownL.2 with ⟨_,hn⟩ | ⟨g,cap,cur,he,hb,hg,h1,h2,h3,h4⟩
 ·omega
 ·cases he
  have hE:=h.rowL.els (b:=g) (off:=0) fun j u hj=>by
   have:=h.ownL.cells (g:=g) rfl j u hj
   rwa [zbu] at this
  have hat:=GV.els_get hE (List.getElem?_eq_getElem hk);rw [Nat.zero_add] at hat;obtain ⟨L,O,c0,c1,c2,c3,c4,_⟩:=GV.at_iff.1 hat;exact ⟨g,cur,rfl,hb,hg,h1,h2,_,_,_,_,_,c0,c1,c2,c3,c4⟩
theorem zlB {lo:Nat} {l:List GV} {ks:List ByteArray} {ov:List GV} {W:World} {AO:Option Addr} {cO:Nat} {vL:Value} {xs ys:List Value} (h:CopyRows lo l ks ov W vL (.slice AO ov.length cO) xs ys) {k:Nat} (hk:k<ov.length):
  ∃ eb cs,AO=some ⟨eb,0,none⟩/\lo<=eb/\Whole W eb 56 cs/\ov.length<=cO/\cO<=maxLen/\∃ u0 u1 u2 u3 u4,W.cell? ⟨eb,k * 6+1,none⟩=some u0/\W.cell? ⟨eb,k * 6+1+1,none⟩=some u1/\W.cell? ⟨eb,k * 6+1+2,none⟩=some u2/\W.cell? ⟨eb,k * 6+1+3,none⟩=some u3/\W.cell? ⟨eb,k * 6+1+4,none⟩=some u4:=by
 rcases h.ownO.2 with ⟨_,hn⟩ | ⟨g,cap,cur,he,hb,hg,h1,h2,h3,h4⟩
 ·omega
 ·cases he
  have hE:=h.rowO.els (b:=g) (off:=0) fun j u hj=>by
   have:=h.ownO.cells (g:=g) rfl j u hj
   rwa [zbu] at this
  have hat:=GV.els_get hE.2 (List.getElem?_eq_getElem hk);rw [show 0+1+k * 6=k * 6+1 by omega] at hat
  obtain ⟨L,O,c0,c1,c2,c3,c4,_⟩:=GV.at_iff.1 hat;exact ⟨g,cur,rfl,hb,hg,h1,h2,_,_,_,_,_,c0,c1,c2,c3,c4⟩
end Go.Proofs.YtmmgdkpkcoopgaaGreatDoor
namespace Go.Proofs.YtmmgdkpkcoopgaaGreatDoor
open Go.Lib(hid)
open Go Go.RowKit
set_option linter.unusedVariables false
set_option linter.unusedSimpArgs false
theorem ziv (k:Nat) (i j:Int) (g:GV) (A AL AO:Option Addr) (pl cp cL cO:Nat) (ky cs:ByteArray) (n:Int) (w:World):Calls Tryz.prog 75 #[.agg #[.int .u8 k,.slice A pl cp,.string ky,.int .i64 i,.int .i64 j,.int .i64 n,.int .u8 g.kq,.int .i64 g.num,.string g.str,.slice AL g.il.length cL,.slice AO g.vz.length cO,.string cs]] w fun e w'=>e=.returned (.bool (listK k))/\Below w.heap.size w w':=by
 rcases (show k=4\/k=5\/k=6\/k=7\/(k≠4/\k≠5/\k≠6/\k≠7) by omega) with rfl | rfl | rfl | rfl | ⟨h4,h5,h6,h7⟩
 case inr.inr.inr.inr=>
  rw [show listK k=false by simp [listK,h4,h5,h6,h7]]
  have g4:((k:Int) == 4)=false:=by simp;omega
  have g5:((k:Int) == 5)=false:=by simp;omega
  have g6:((k:Int) == 6)=false:=by simp;omega
  have g7:((k:Int) == 7)=false:=by simp;omega
  clear h4 h5 h6 h7;go_enter Tryz.func75,Tryz.ntmps75
  go_wp2
  go_ret
  exact ⟨rfl,zaa _ _⟩
 all_goals
  go_enter Tryz.func75,Tryz.ntmps75
  go_wp2
  go_ret
  exact ⟨rfl,zaa _ _⟩
theorem za9 (M k:Nat) (i j:Int) (g:GV) (A AL AO:Option Addr) (pl cp cL cO:Nat) (ky cs:ByteArray) (n:Int) (w:World):Calls Tryz.prog 46 #[.int .i64 M,.agg #[.int .u8 k,.slice A pl cp,.string ky,.int .i64 i,.int .i64 j,.int .i64 n,.int .u8 g.kq,.int .i64 g.num,.string g.str,.slice AL g.il.length cL,.slice AO g.vz.length cO,.string cs]] w fun e w'=>e=.returned (.int .i64 (chk M k i j))/\Below w.heap.size w w':=by
 have H0:=hid (Whole.new w 45 #[.int .u8 k,.slice A pl cp,.string ky,.int .i64 i,.int .i64 j,.int .i64 n,.int .u8 g.kq,.int .i64 g.num,.string g.str,.slice AL g.il.length cL,.slice AO g.vz.length cO,.string cs]);have HB:=hid (zaa w (.cells #[.int .u8 k,.slice A pl cp,.string ky,.int .i64 i,.int .i64 j,.int .i64 n,.int .u8 g.kq,.int .i64 g.num,.string g.str,.slice AL g.il.length cL,.slice AO g.vz.length cO,.string cs] 45));have HKN:=hid (fun W=>ziv k i j g A AL AO pl cp cL cO ky cs n W)
 have hr:chk M k i j=if listK k=false then 31 else if (i<0\/(M:Int)<i)\/(i=M/\k≠4) then 32 else if k=7/\(j<0\/(M:Int)<=j) then 32 else 0:=by
  unfold chk withinB listK;by_cases h4:k=4
  ·subst h4;simp;split<;>split<;>omega
  ·by_cases h5:k=5
   ·subst h5;simp;split<;>split<;>omega
   ·by_cases h6:k=6
    ·subst h6;simp;split<;>split<;>omega
    ·by_cases h7:k=7
     ·subst h7;simp;(repeat' split)<;>omega
     ·simp [h4,h5,h6,h7]
 generalize chk M k i j=r at *;have HR:=hid hr;clear hr;have g4:((k:Int) != 4) = !decide (k=4):=by by_cases h:k=4<;>simp [h];omega
 have g7:((k:Int) == 7)=decide (k=7):=by by_cases h:k=7<;>simp [h];omega
 have G4:=hid g4;have G7:=hid g7;clear g4 g7;cases hl:listK k
 ·have h:=HR.out
  rw [if_pos hl] at h;subst h;rw [hl] at HKN;clear HR hl;go_enter Tryz.func46,Tryz.ntmps46
  go_wp2_with (go_at_call 75;refine (HKN.out _).mono ?_;rintro e w1 ⟨rfl,hb⟩;have B1:=hid (HB.out.trans (hb.mono HB.out.size));clear hb)
  go_ret
  exact ⟨rfl,B1.out⟩
 ·have h:=HR.out
  rw [if_neg (by simp [hl])] at h
  rw [hl] at HKN;clear HR hl;by_cases c1:(i<0\/(M:Int)<i)\/(i=M/\k≠4)
  ·rw [if_pos c1] at h
   subst h;rcases c1 with (c1 | c1) | ⟨c1,c2⟩
   ·have e1:decide (i<0)=true:=by simpa using c1
    go_enter Tryz.func46,Tryz.ntmps46
    go_wp2_with (go_at_call 75;refine (HKN.out _).mono ?_;rintro e w1 ⟨rfl,hb⟩;have H1:=hid (H0.out.below hb H0.out.lt);have B1:=hid (HB.out.trans (hb.mono HB.out.size));have q0:=H1.out.tw.c0;have q3:=H1.out.tw.c3;have q4:=H1.out.tw.c4;clear hb)
    go_ret
    exact ⟨rfl,B1.out⟩
   ·have e1:decide (i<0)=false:=by simp;omega
    have e2:decide ((M:Int)<i)=true:=by simpa using c1
    go_enter Tryz.func46,Tryz.ntmps46
    go_wp2_with (go_at_call 75;refine (HKN.out _).mono ?_;rintro e w1 ⟨rfl,hb⟩;have H1:=hid (H0.out.below hb H0.out.lt);have B1:=hid (HB.out.trans (hb.mono HB.out.size));have q0:=H1.out.tw.c0;have q3:=H1.out.tw.c3;have q4:=H1.out.tw.c4;clear hb)
    go_ret
    exact ⟨rfl,B1.out⟩
   ·have g4:((k:Int) != 4)=true:=by rw [G4.out];simpa using c2
    have e1:decide (i<0)=false:=by simp;omega
    have e2:decide ((M:Int)<i)=false:=by simp;omega
    have e3:(i == (M:Int))=true:=by simpa using c1
    clear c1 c2;go_enter Tryz.func46,Tryz.ntmps46
    go_wp2_with (go_at_call 75;refine (HKN.out _).mono ?_;rintro e w1 ⟨rfl,hb⟩;have H1:=hid (H0.out.below hb H0.out.lt);have B1:=hid (HB.out.trans (hb.mono HB.out.size));have q0:=H1.out.tw.c0;have q3:=H1.out.tw.c3;have q4:=H1.out.tw.c4;clear hb)
    go_ret
    exact ⟨rfl,B1.out⟩
  ·rw [if_neg c1] at h
   have e1:decide (i<0)=false:=by simp;omega
   have e2:decide ((M:Int)<i)=false:=by simp;omega
   by_cases im:i=M
   ·have hk:k=4:=by omega
    have g4:((k:Int) != 4)=false:=by rw [G4.out];simpa using hk
    have g7:((k:Int) == 7)=false:=by rw [G7.out];simp;omega
    have e3:(i == (M:Int))=true:=by simpa using im
    rw [if_neg (by omega)] at h
    subst h;clear im hk c1;go_enter Tryz.func46,Tryz.ntmps46
    go_wp2_with (go_at_call 75;refine (HKN.out _).mono ?_;rintro e w1 ⟨rfl,hb⟩;have H1:=hid (H0.out.below hb H0.out.lt);have B1:=hid (HB.out.trans (hb.mono HB.out.size));have q0:=H1.out.tw.c0;have q3:=H1.out.tw.c3;have q4:=H1.out.tw.c4;clear hb)
    go_ret
    exact ⟨rfl,B1.out⟩
   ·have e3:(i == (M:Int))=false:=by simpa using im
    clear im c1;by_cases k7:k=7
    ·have g7:((k:Int) == 7)=true:=by rw [G7.out];simpa using k7
     by_cases j0:j<0
     ·have e4:decide (j<0)=true:=by simpa using j0
      rw [if_pos ⟨k7,.inl j0⟩] at h;subst h;clear k7 j0;go_enter Tryz.func46,Tryz.ntmps46
      go_wp2_with (go_at_call 75;refine (HKN.out _).mono ?_;rintro e w1 ⟨rfl,hb⟩;have H1:=hid (H0.out.below hb H0.out.lt);have B1:=hid (HB.out.trans (hb.mono HB.out.size));have q0:=H1.out.tw.c0;have q3:=H1.out.tw.c3;have q4:=H1.out.tw.c4;clear hb)
      go_ret
      exact ⟨rfl,B1.out⟩
     ·have e4:decide (j<0)=false:=by simp;omega
      by_cases j1:(M:Int)<=j
      ·have e5:decide ((M:Int)<=j)=true:=by simpa using j1
       rw [if_pos ⟨k7,.inr j1⟩] at h;subst h;clear k7 j0 j1;go_enter Tryz.func46,Tryz.ntmps46
       go_wp2_with (go_at_call 75;refine (HKN.out _).mono ?_;rintro e w1 ⟨rfl,hb⟩;have H1:=hid (H0.out.below hb H0.out.lt);have B1:=hid (HB.out.trans (hb.mono HB.out.size));have q0:=H1.out.tw.c0;have q3:=H1.out.tw.c3;have q4:=H1.out.tw.c4;clear hb)
       go_ret
       exact ⟨rfl,B1.out⟩
      ·have e5:decide ((M:Int)<=j)=false:=by simp;omega
       rw [if_neg (by omega)] at h
       subst h;clear k7 j0 j1;go_enter Tryz.func46,Tryz.ntmps46
       go_wp2_with (go_at_call 75;refine (HKN.out _).mono ?_;rintro e w1 ⟨rfl,hb⟩;have H1:=hid (H0.out.below hb H0.out.lt);have B1:=hid (HB.out.trans (hb.mono HB.out.size));have q0:=H1.out.tw.c0;have q3:=H1.out.tw.c3;have q4:=H1.out.tw.c4;clear hb)
       go_ret
       exact ⟨rfl,B1.out⟩
    ·have g7:((k:Int) == 7)=false:=by rw [G7.out];simpa using k7
     rw [if_neg (by omega)] at h
     subst h;clear k7;go_enter Tryz.func46,Tryz.ntmps46
     go_wp2_with (go_at_call 75;refine (HKN.out _).mono ?_;rintro e w1 ⟨rfl,hb⟩;have H1:=hid (H0.out.below hb H0.out.lt);have B1:=hid (HB.out.trans (hb.mono HB.out.size));have q0:=H1.out.tw.c0;have q3:=H1.out.tw.c3;have q4:=H1.out.tw.c4;clear hb)
     go_ret
     exact ⟨rfl,B1.out⟩
theorem zho {l:List GV} (hw:GV.weights l<=900000000) (W B d) (h:ListIn l B d W):Calls Tryz.prog 20 #[.agg #[.int .u8 0,.int .i64 0,.string ⟨#[]⟩,.slice B l.length d,.slice none 0 0]] W fun e w'=>
   ∃ BL dL BO dO,e=.returned (.agg #[.int .u8 0,.int .i64 0,.string ⟨#[]⟩,.slice BL l.length dL,.slice BO 0 dO])/\LstV (fun k=>W.heap.size<=k) w' (.slice BL l.length dL) l/\Below W.heap.size W w':=by
 have hv:(GV.mk 0 0 ⟨#[]⟩ l [] []).val (fun _=>True) W (.agg #[.int .u8 0,.int .i64 0,.string ⟨#[]⟩,.slice B l.length d,.slice none 0 0]):=⟨_,_,rfl,h,⟨rfl,.inl ⟨rfl,rfl⟩⟩⟩
 have hs:(GV.mk 0 0 ⟨#[]⟩ l [] []).size<=1000000000:=Nat.le_trans (zad _) (by have h0:(⟨#[]⟩:ByteArray).size=0:=rfl;simp only [GV.weight,GV.weights,h0];simp;omega)
 exact (zcX _ _ _ _ W (Nat.le_refl _) hv hs).mono fun e w' ⟨v',he,⟨L',O',e2,hL',hO'⟩,hb⟩=>by
  obtain ⟨BL,dL,rfl⟩:=zah hL';obtain ⟨BO,dO,rfl⟩:=zag hO';exact ⟨BL,dL,BO,dO,by rw [he,e2];rfl,hL',hb⟩
theorem zkq {lo eb:Nat} {l c:Nat} {vO:Value}:¬ Away lo (.slice (some ⟨eb,0,none⟩) l c) vO eb:=fun h=>h.2.1 rfl
theorem CopyRows.below {lo:Nat} {l:List GV} {ks:List ByteArray} {ov:List GV} {W W':World} {vL vO:Value} {xs ys:List Value} (h:CopyRows lo l ks ov W vL vO xs ys) (hb:Below W.heap.size W W'):CopyRows lo l ks ov W' vL vO xs ys:=
 ⟨zaz h.ownL hb,zaz h.ownO hb,h.rowL.keep (From.of_below hb) (fun _ h _=>h),h.rowO.keep (From.of_below hb) (fun _ h _=>h)⟩
theorem ziN {l:List GV} (hw:GV.weights l<=900000000) (W B d) (h:ListIn l B d W):Calls Tryz.prog 20 #[.agg #[.int .u8 0,.int .i64 0,.string ⟨#[]⟩,.slice B l.length d,.slice none 0 0]] W fun e w'=>
   ∃ BL dL BO dO,e=.returned (.agg #[.int .u8 0,.int .i64 0,.string ⟨#[]⟩,.slice BL l.length dL,.slice BO 0 dO])/\(∃ xs ys,CopyRows W.heap.size l [] [] w' (.slice BL l.length dL) (.slice BO 0 dO) xs ys)/\Below W.heap.size W w':=by
 have hv:(GV.mk 0 0 ⟨#[]⟩ l [] []).val (fun _=>True) W (.agg #[.int .u8 0,.int .i64 0,.string ⟨#[]⟩,.slice B l.length d,.slice none 0 0]):=⟨_,_,rfl,h,⟨rfl,.inl ⟨rfl,rfl⟩⟩⟩
 have hs:(GV.mk 0 0 ⟨#[]⟩ l [] []).size<=1000000000:=Nat.le_trans (zad _) (by have h0:(⟨#[]⟩:ByteArray).size=0:=rfl;simp only [GV.weight,GV.weights,h0];simp;omega)
 exact (zgE _ _ _ W hv hs).mono fun e w' ⟨BL,dL,BO,dO,xs,ys,he,hc,hb⟩=>⟨BL,dL,BO,dO,he,⟨xs,ys,hc⟩,hb⟩
theorem zb6 {g W AL AO cL cO} (hv:Vl W g AL AO cL cO) (hw:g.weight<=1000000000):Calls Tryz.prog 20 #[.agg #[.int .u8 g.kq,.int .i64 g.num,.string g.str,.slice AL g.il.length cL,.slice AO g.vz.length cO]] W fun e w'=>
   ∃ CL CO eL eO,e=.returned (.agg #[.int .u8 g.kq,.int .i64 g.num,.string g.str,.slice CL g.il.length eL,.slice CO g.vz.length eO])/\(LstV (fun k=>W.heap.size<=k) w' (.slice CL g.il.length eL) g.il/\ObjV (fun k=>W.heap.size<=k) w' (.slice CO g.vz.length eO) g.keys g.vz)/\Below W.heap.size W w':=
 (zcX g.size _ _ g W (Nat.le_refl _) hv.val (Nat.le_trans (zad _) hw)).mono fun e w' ⟨v',he,⟨L,O,e2,hL,hO⟩,hb⟩=>by
  obtain ⟨BL,dL,rfl⟩:=zah hL;obtain ⟨BO,dO,rfl⟩:=zag hO;exact ⟨BL,BO,dL,dO,by rw [he,e2],⟨hL,hO⟩,hb⟩
end Go.Proofs.YtmmgdkpkcoopgaaGreatDoor
namespace Go.Proofs.YtmmgdkpkcoopgaaGreatDoor
open Go.Lib(hid)
open Go Go.RowKit
open Go.Sort (grow)
set_option linter.unusedVariables false
set_option linter.unusedSimpArgs false
theorem zay {P:Prop} {f:FuncId} {args:Array Value} {W:World} (h:Calls Tryz.prog f args W (BoolPost P W)):∀ bb:Bool,(bb=true↔P)->Calls Tryz.prog f args W fun e w''=>e=.returned (.bool bb)/\Below W.heap.size W w'':=fun bb hbb=>
 h.mono fun e w'' h=>by
  obtain ⟨b2,rfl,hb2,hbel⟩:=h;have:b2=bb:=by rw [Bool.eq_iff_iff,hb2,hbb]
  subst this;exact ⟨rfl,hbel⟩
theorem zat (P:Prop):∃ bb:Bool,bb=true↔P:=by
 by_cases h:P
 ·exact ⟨true,by simp [h]⟩
 ·exact ⟨false,by simp [h]⟩
theorem zhv (c A AL AO cp cL cO w) (hc:Cc w c A AL AO cp cL cO) (hw:c.v.weight<=1000000000) (hpl:c.path.length<=16) (hT:Tabs w):
  Calls Tryz.prog 57 #[.agg #[.int .u8 c.kq,.slice A c.path.length cp,.string c.key,.int .i64 c.i,.int .i64 c.j,.int .i64 c.n,.int .u8 c.v.kq,.int .i64 c.v.num,.string c.v.str,.slice AL c.v.il.length cL,.slice AO c.v.vz.length cO,.string c.s]] w (BoolPost c.ValueOk w):=by
 have H0:=hid (Whole.new w 45 #[.int .u8 c.kq,.slice A c.path.length cp,.string c.key,.int .i64 c.i,.int .i64 c.j,.int .i64 c.n,.int .u8 c.v.kq,.int .i64 c.v.num,.string c.v.str,.slice AL c.v.il.length cL,.slice AO c.v.vz.length cO,.string c.s]);have hB:=zaa w (.cells #[.int .u8 c.kq,.slice A c.path.length cp,.string c.key,.int .i64 c.i,.int .i64 c.j,.int .i64 c.n,.int .u8 c.v.kq,.int .i64 c.v.num,.string c.v.str,.slice AL c.v.il.length cL,.slice AO c.v.vz.length cO,.string c.s] 45);obtain ⟨bs,hbs⟩:=zat c.v.Sound;have HSS:Hid (c.ValueOk↔bs=true/\c.path.length+1+c.v.deep<=16/\c.v.weight<=20000):=hid (by rw [hbs];exact Iff.rfl)
 have hsz:c.v.size<=1000000000:=Nat.le_trans (zad _) hw;have hdl:c.v.deep<=1000000000:=by have:=zav c.v;omega
 have c1:=fun (W0:World) (hb:Below w.heap.size w W0) (d:Nat) (os:Array Obj)=>Calls.regrown_of (zay (zi5 (fun _=>True) _ c.v (grow (redrawn W0 d) os) ((hc.v.later (hb.trans ((below_regrown W0 d os).mono hb.size)))).val hw (hT.below (hb.trans ((below_regrown W0 d os).mono hb.size)) (Nat.le_refl _))) bs hbs)
 have c2:=fun (W0:World) (hb:Below w.heap.size w W0) (d:Nat) (os:Array Obj)=>Calls.regrown_of (zkx (fun _=>True) _ c.v (grow (redrawn W0 d) os) ((hc.v.later (hb.trans ((below_regrown W0 d os).mono hb.size)))).val hsz)
 have c3:=fun (W0:World) (hb:Below w.heap.size w W0) (d:Nat) (os:Array Obj)=>Calls.regrown_of (zic (fun _=>True) _ c.v (grow (redrawn W0 d) os) ((hc.v.later (hb.trans ((below_regrown W0 d os).mono hb.size)))).val hw)
 have C1:=hid c1;have C2:=hid c2;have C3:=hid c3;clear c1 c2 c3 hc hT hbs hsz;generalize c.ValueOk=SS at *;generalize c.v.deep=vd at *;generalize c.v.weight=vw at *;generalize c.kq=ck at *;generalize c.path.length=pn at *;generalize c.key=ky at *;generalize c.i=ci at *;generalize c.j=cj at *;generalize c.n=cn at *;generalize c.v.kq=vk at *;generalize c.v.num=vn at *;generalize c.v.str=vs at *;generalize c.v.il.length=vl at *;generalize c.v.vz.length=vo at *;generalize c.s=cs at *;go_enter Tryz.func57,Tryz.ntmps57
 go_wp2
 obtain ⟨a0,a1,a2,a3,a4,a5,a6,a7,a8,a9,a10,a11,_⟩:=H0.out.tw;clear H0;generalize (w.alloc (.cells #[.int .u8 ck,.slice A pn cp,.string ky,.int .i64 ci,.int .i64 cj,.int .i64 cn,.int .u8 vk,.int .i64 vn,.string vs,.slice AL vl cL,.slice AO vo cO,.string cs] 45))=W0 at *;have u1:=cell_regrown a1;have u6:=cell_regrown a6;have u7:=cell_regrown a7;have u8:=cell_regrown a8;have u9:=cell_regrown a9;have u10:=cell_regrown a10;clear a0 a1 a2 a3 a4 a5 a6 a7 a8 a9 a10 a11;have D1:=hid (C1.out W0 hB);have D2:=hid (C2.out W0 hB);have D3:=hid (C3.out W0 hB);have HB:=hid hB;clear hB C1 C2 C3;cases bs with
 | false=>
  refine wp_region_quiet_below (by kernel_rfl) (by kernel_rfl) ?_
  repeat (any_goals (go_big_quiet_step (first | with_reducible exact D1.out _ _ | with_reducible exact D2.out _ _ | with_reducible exact D3.out _ _)))
  refine wpQuiet_nil ?_
  intro _ hw';obtain ⟨⟨dq,osq⟩,hw''⟩:=hw';subst hw'';go_wp2
  go_ret
  exact ⟨false,rfl,by rw [HSS.out];simp,HB.out.trans ((below_regrown W0 dq osq).mono HB.out.size)⟩
 | true=>
  by_cases q1:pn+1+vd<=16
  ·have q1':((pn:Int)+1+(vd:Int))<=16:=by omega
   have Q1:=hid q1;clear q1;by_cases q2:vw<=20000
   ·have q2':(vw:Int)<=20000:=by omega
    have Q2:=hid q2;clear q2;refine wp_region_quiet_below (by kernel_rfl) (by kernel_rfl) ?_
    repeat (any_goals (go_big_quiet_step (first | with_reducible exact D1.out _ _ | with_reducible exact D2.out _ _ | with_reducible exact D3.out _ _)))
    refine wpQuiet_nil ?_
    intro _ hw';obtain ⟨⟨dq,osq⟩,hw''⟩:=hw';subst hw'';go_wp2
    go_ret
    exact ⟨true,rfl,by rw [HSS.out];simp [Q1.out,Q2.out],HB.out.trans ((below_regrown W0 dq osq).mono HB.out.size)⟩
   ·have q2':¬ (vw:Int)<=20000:=by omega
    have Q2:=hid q2;clear q2;refine wp_region_quiet_below (by kernel_rfl) (by kernel_rfl) ?_
    repeat (any_goals (go_big_quiet_step (first | with_reducible exact D1.out _ _ | with_reducible exact D2.out _ _ | with_reducible exact D3.out _ _)))
    refine wpQuiet_nil ?_
    intro _ hw';obtain ⟨⟨dq,osq⟩,hw''⟩:=hw';subst hw'';go_wp2
    go_ret
    exact ⟨false,rfl,by rw [HSS.out];simp [Q2.out],HB.out.trans ((below_regrown W0 dq osq).mono HB.out.size)⟩
  ·have q1':¬ ((pn:Int)+1+(vd:Int))<=16:=by omega
   have Q1:=hid q1;clear q1;refine wp_region_quiet_below (by kernel_rfl) (by kernel_rfl) ?_
   repeat (any_goals (go_big_quiet_step (first | with_reducible exact D1.out _ _ | with_reducible exact D2.out _ _ | with_reducible exact D3.out _ _)))
   refine wpQuiet_nil ?_
   intro _ hw';obtain ⟨⟨dq,osq⟩,hw''⟩:=hw';subst hw'';go_wp2
   go_ret
   exact ⟨false,rfl,by rw [HSS.out];simp [Q1.out],HB.out.trans ((below_regrown W0 dq osq).mono HB.out.size)⟩
theorem zbZ (key s:ByteArray) (i j n:Int) (v AL AO cL cO W) (hv:Vl W v AL AO cL cO) (hw:v.weight<=1000000000):
  Calls Tryz.prog 84 #[.agg #[.int .u8 0,.slice none 0 0,.string key,.int .i64 i,.int .i64 j,.int .i64 n,.int .u8 v.kq,.int .i64 v.num,.string v.str,.slice AL v.il.length cL,.slice AO v.vz.length cO,.string s],.agg #[.int .u8 0,.slice none 0 0,.string ⟨#[]⟩,.int .i64 0,.int .i64 0,.int .i64 0,.int .u8 0,.int .i64 0,.string ⟨#[]⟩,.slice none 0 0,.slice none 0 0,.string ⟨#[]⟩]] W
   fun e w'=>∃ b:Bool,e=.returned (.bool b)/\(b=true↔key.toList=[]/\i=0/\j=0/\n=0/\s.toList=[]/\v.Same noG)/\Below W.heap.size W w':=
 (zjJ ⟨0,[],key,i,j,n,v,s⟩ noC none AL AO none none none 0 cL cO 0 0 0 W ⟨zdD W,hv⟩ (znf W) hw (by decide)).mono fun e w' ⟨b,he,hb,hB⟩=>⟨b,he,by
  rw [hb];have h0:(⟨#[]⟩:ByteArray).toList=[]:=by decide +kernel
  have h1:samePB [] []=true:=by decide
  simp only [GC.Same,noC,h0,h1,true_and]
  ,hB⟩
theorem zbf:noG.Same noG:=zcb noG
theorem zaG:(⟨#[]⟩:ByteArray).toList=[]:=by decide +kernel
theorem zkG (c A AL AO cp cL cO w) (hc:Cc w c A AL AO cp cL cO) (hw:c.v.weight<=1000000000) (W:World) (hb:Below w.heap.size w W):
  Calls Tryz.prog 84 #[.agg #[.int .u8 0,.slice none 0 0,.string c.key,.int .i64 c.i,.int .i64 c.j,.int .i64 0,.int .u8 c.v.kq,.int .i64 c.v.num,.string c.v.str,.slice AL c.v.il.length cL,.slice AO c.v.vz.length cO,.string c.s],.agg #[.int .u8 0,.slice none 0 0,.string ⟨#[]⟩,.int .i64 0,.int .i64 0,.int .i64 0,.int .u8 0,.int .i64 0,.string ⟨#[]⟩,.slice none 0 0,.slice none 0 0,.string ⟨#[]⟩]] W fun e w'=>∃ b:Bool,e=.returned (.bool b)/\(b=true↔c.key.toList=[]/\c.i=0/\c.j=0/\c.s.toList=[]/\c.v.Same noG)/\Below w.heap.size w w':=
 (zbZ c.key c.s c.i c.j 0 c.v AL AO cL cO W (hc.v.later hb) hw).mono fun e w' ⟨b,he,hb',hB⟩=>⟨b,he,by rw [hb'];simp [zaG,zbf],hb.trans (hB.mono hb.size)⟩
theorem zkN (c A AL AO cp cL cO w) (hc:Cc w c A AL AO cp cL cO) (hw:c.v.weight<=1000000000) (W:World) (hb:Below w.heap.size w W):
  Calls Tryz.prog 84 #[.agg #[.int .u8 0,.slice none 0 0,.string ⟨#[]⟩,.int .i64 c.i,.int .i64 c.j,.int .i64 c.n,.int .u8 0,.int .i64 0,.string ⟨#[]⟩,.slice none 0 0,.slice none 0 0,.string c.s],.agg #[.int .u8 0,.slice none 0 0,.string ⟨#[]⟩,.int .i64 0,.int .i64 0,.int .i64 0,.int .u8 0,.int .i64 0,.string ⟨#[]⟩,.slice none 0 0,.slice none 0 0,.string ⟨#[]⟩]] W fun e w'=>∃ b:Bool,e=.returned (.bool b)/\(b=true↔c.i=0/\c.j=0/\c.n=0/\c.s.toList=[])/\Below w.heap.size w w':=
 (zbZ ⟨#[]⟩ c.s c.i c.j c.n noG none none 0 0 W (za0 W) (by decide)).mono fun e w' ⟨b,he,hb',hB⟩=>⟨b,he,by rw [hb'];simp [zaG,zbf],hb.trans (hB.mono hb.size)⟩
theorem zk9 (c A AL AO cp cL cO w) (hc:Cc w c A AL AO cp cL cO) (hw:c.v.weight<=1000000000) (W:World) (hb:Below w.heap.size w W):
  Calls Tryz.prog 84 #[.agg #[.int .u8 0,.slice none 0 0,.string ⟨#[]⟩,.int .i64 c.i,.int .i64 c.j,.int .i64 c.n,.int .u8 c.v.kq,.int .i64 c.v.num,.string c.v.str,.slice AL c.v.il.length cL,.slice AO c.v.vz.length cO,.string c.s],.agg #[.int .u8 0,.slice none 0 0,.string ⟨#[]⟩,.int .i64 0,.int .i64 0,.int .i64 0,.int .u8 0,.int .i64 0,.string ⟨#[]⟩,.slice none 0 0,.slice none 0 0,.string ⟨#[]⟩]] W fun e w'=>∃ b:Bool,e=.returned (.bool b)/\(b=true↔c.i=0/\c.j=0/\c.n=0/\c.s.toList=[]/\c.v.Same noG)/\Below w.heap.size w w':=
 (zbZ ⟨#[]⟩ c.s c.i c.j c.n c.v AL AO cL cO W (hc.v.later hb) hw).mono fun e w' ⟨b,he,hb',hB⟩=>⟨b,he,by rw [hb'];simp [zaG,zbf],hb.trans (hB.mono hb.size)⟩
theorem zkU (c A AL AO cp cL cO w) (hc:Cc w c A AL AO cp cL cO) (hw:c.v.weight<=1000000000) (W:World) (hb:Below w.heap.size w W):
  Calls Tryz.prog 84 #[.agg #[.int .u8 0,.slice none 0 0,.string c.key,.int .i64 0,.int .i64 c.j,.int .i64 c.n,.int .u8 0,.int .i64 0,.string ⟨#[]⟩,.slice none 0 0,.slice none 0 0,.string c.s],.agg #[.int .u8 0,.slice none 0 0,.string ⟨#[]⟩,.int .i64 0,.int .i64 0,.int .i64 0,.int .u8 0,.int .i64 0,.string ⟨#[]⟩,.slice none 0 0,.slice none 0 0,.string ⟨#[]⟩]] W fun e w'=>∃ b:Bool,e=.returned (.bool b)/\(b=true↔c.key.toList=[]/\c.j=0/\c.n=0/\c.s.toList=[])/\Below w.heap.size w w':=
 (zbZ c.key c.s 0 c.j c.n noG none none 0 0 W (za0 W) (by decide)).mono fun e w' ⟨b,he,hb',hB⟩=>⟨b,he,by rw [hb'];simp [zaG,zbf],hb.trans (hB.mono hb.size)⟩
theorem zk3 (c A AL AO cp cL cO w) (hc:Cc w c A AL AO cp cL cO) (hw:c.v.weight<=1000000000) (W:World) (hb:Below w.heap.size w W):
  Calls Tryz.prog 84 #[.agg #[.int .u8 0,.slice none 0 0,.string c.key,.int .i64 0,.int .i64 c.j,.int .i64 c.n,.int .u8 c.v.kq,.int .i64 c.v.num,.string c.v.str,.slice AL c.v.il.length cL,.slice AO c.v.vz.length cO,.string c.s],.agg #[.int .u8 0,.slice none 0 0,.string ⟨#[]⟩,.int .i64 0,.int .i64 0,.int .i64 0,.int .u8 0,.int .i64 0,.string ⟨#[]⟩,.slice none 0 0,.slice none 0 0,.string ⟨#[]⟩]] W fun e w'=>∃ b:Bool,e=.returned (.bool b)/\(b=true↔c.key.toList=[]/\c.j=0/\c.n=0/\c.s.toList=[]/\c.v.Same noG)/\Below w.heap.size w w':=
 (zbZ c.key c.s 0 c.j c.n c.v AL AO cL cO W (hc.v.later hb) hw).mono fun e w' ⟨b,he,hb',hB⟩=>⟨b,he,by rw [hb'];simp [zaG,zbf],hb.trans (hB.mono hb.size)⟩
theorem zk6 (c A AL AO cp cL cO w) (hc:Cc w c A AL AO cp cL cO) (hw:c.v.weight<=1000000000) (W:World) (hb:Below w.heap.size w W):
  Calls Tryz.prog 84 #[.agg #[.int .u8 0,.slice none 0 0,.string c.key,.int .i64 0,.int .i64 c.j,.int .i64 c.n,.int .u8 0,.int .i64 0,.string ⟨#[]⟩,.slice none 0 0,.slice none 0 0,.string c.s],.agg #[.int .u8 0,.slice none 0 0,.string ⟨#[]⟩,.int .i64 0,.int .i64 0,.int .i64 0,.int .u8 0,.int .i64 0,.string ⟨#[]⟩,.slice none 0 0,.slice none 0 0,.string ⟨#[]⟩]] W fun e w'=>∃ b:Bool,e=.returned (.bool b)/\(b=true↔c.key.toList=[]/\c.j=0/\c.n=0/\c.s.toList=[])/\Below w.heap.size w w':=
 (zbZ c.key c.s 0 c.j c.n noG none none 0 0 W (za0 W) (by decide)).mono fun e w' ⟨b,he,hb',hB⟩=>⟨b,he,by rw [hb'];simp [zaG,zbf],hb.trans (hB.mono hb.size)⟩
theorem zkt (c A AL AO cp cL cO w) (hc:Cc w c A AL AO cp cL cO) (hw:c.v.weight<=1000000000) (W:World) (hb:Below w.heap.size w W):
  Calls Tryz.prog 84 #[.agg #[.int .u8 0,.slice none 0 0,.string c.key,.int .i64 0,.int .i64 0,.int .i64 c.n,.int .u8 c.v.kq,.int .i64 c.v.num,.string c.v.str,.slice AL c.v.il.length cL,.slice AO c.v.vz.length cO,.string c.s],.agg #[.int .u8 0,.slice none 0 0,.string ⟨#[]⟩,.int .i64 0,.int .i64 0,.int .i64 0,.int .u8 0,.int .i64 0,.string ⟨#[]⟩,.slice none 0 0,.slice none 0 0,.string ⟨#[]⟩]] W fun e w'=>∃ b:Bool,e=.returned (.bool b)/\(b=true↔c.key.toList=[]/\c.n=0/\c.s.toList=[]/\c.v.Same noG)/\Below w.heap.size w w':=
 (zbZ c.key c.s 0 0 c.n c.v AL AO cL cO W (hc.v.later hb) hw).mono fun e w' ⟨b,he,hb',hB⟩=>⟨b,he,by rw [hb'];simp [zaG,zbf],hb.trans (hB.mono hb.size)⟩
theorem zlA (c A AL AO cp cL cO w) (hc:Cc w c A AL AO cp cL cO) (hw:c.v.weight<=1000000000) (W:World) (hb:Below w.heap.size w W):
  Calls Tryz.prog 84 #[.agg #[.int .u8 0,.slice none 0 0,.string c.key,.int .i64 0,.int .i64 c.j,.int .i64 c.n,.int .u8 c.v.kq,.int .i64 c.v.num,.string c.v.str,.slice AL c.v.il.length cL,.slice AO c.v.vz.length cO,.string ⟨#[]⟩],.agg #[.int .u8 0,.slice none 0 0,.string ⟨#[]⟩,.int .i64 0,.int .i64 0,.int .i64 0,.int .u8 0,.int .i64 0,.string ⟨#[]⟩,.slice none 0 0,.slice none 0 0,.string ⟨#[]⟩]] W fun e w'=>∃ b:Bool,e=.returned (.bool b)/\(b=true↔c.key.toList=[]/\c.j=0/\c.n=0/\c.v.Same noG)/\Below w.heap.size w w':=
 (zbZ c.key ⟨#[]⟩ 0 c.j c.n c.v AL AO cL cO W (hc.v.later hb) hw).mono fun e w' ⟨b,he,hb',hB⟩=>⟨b,he,by rw [hb'];simp [zaG,zbf],hb.trans (hB.mono hb.size)⟩
theorem zla (c A AL AO cp cL cO w) (hc:Cc w c A AL AO cp cL cO) (hw:c.v.weight<=1000000000) (W:World) (hb:Below w.heap.size w W):
  Calls Tryz.prog 84 #[.agg #[.int .u8 0,.slice none 0 0,.string c.key,.int .i64 0,.int .i64 c.j,.int .i64 0,.int .u8 c.v.kq,.int .i64 c.v.num,.string c.v.str,.slice AL c.v.il.length cL,.slice AO c.v.vz.length cO,.string c.s],.agg #[.int .u8 0,.slice none 0 0,.string ⟨#[]⟩,.int .i64 0,.int .i64 0,.int .i64 0,.int .u8 0,.int .i64 0,.string ⟨#[]⟩,.slice none 0 0,.slice none 0 0,.string ⟨#[]⟩]] W fun e w'=>∃ b:Bool,e=.returned (.bool b)/\(b=true↔c.key.toList=[]/\c.j=0/\c.s.toList=[]/\c.v.Same noG)/\Below w.heap.size w w':=
 (zbZ c.key c.s 0 c.j 0 c.v AL AO cL cO W (hc.v.later hb) hw).mono fun e w' ⟨b,he,hb',hB⟩=>⟨b,he,by rw [hb'];simp [zaG,zbf],hb.trans (hB.mono hb.size)⟩
end Go.Proofs.YtmmgdkpkcoopgaaGreatDoor
