/- Texts in one: RtA, RtB, RtC, RqW, RefCR, RPutL. -/
import Derived.Test.YtamlaknfakaanaaGreatDoorR18
import Derived.Test.YtamlaknfakaanaaGreatDoorLays
import Derived.OwnWalk
import Derived.BigQuiet
import Derived.RegionTactic
import Derived.Deep.QuietTactic
import Derived.IntWalk
import Derived.Test.YtamlaknfakaanaaGreatDoorR17
import Derived.Test.YtamlaknfakaanaaGreatDoorR13
import Derived.Test.YtamlaknfakaanaaGreatDoorR15
import Derived.Test.YtamlaknfakaanaaGreatDoorR12
set_option maxRecDepth 100000
set_option maxHeartbeats 8000000
namespace Go.Proofs.YtamlaknfakaanaaGreatDoor
open Go Go.RowKit Go.Shelf
set_option linter.unusedVariables false
set_option linter.unusedSimpArgs false
theorem infoInt:(Tryz.prog.info? 3).map (fun i=>(i.zero,i.size,i.bytes))=some (some (.int .i64 0),1,8):=by kernel_rfl
theorem call_decode (s:ByteArray) (p:Nat) (w:World) (hp:p<s.size) (hT:Tabs w):Calls Tryz.prog 92 #[.string (s.extract p s.size)] w fun e w'=>∃ r:Int,e=.returned (.tuple #[.int .i32 r,.int .i64 (wdS s p)])∧Below w.heap.size w w':=
 (Tryz.utf8_DecodeRuneInString (s.extract p s.size) w hT).mono fun e w' ⟨he,hb⟩=>by
  have hz:(s.extract p s.size).size≠0:=by rw [tail_size s p (by omega)];omega
  have hd:(Lib.decodeGo (s.extract p s.size)).2=wdS s p:=by
   have:=congrFun (wd_tail s p) 0
   unfold wdS at this ⊢
   simp only [Lib.decodeGo,hz,if_false]
   simpa using this
  rw [hd] at he
  exact ⟨_,he,hb⟩
def intV (n:Nat):Value:=.int .i64 n
def CutsOut (s:ByteArray) (m:Nat) (w:World) (e:Ending) (w':World):Prop:=
 ∃ b c,e=.returned (.slice (some ⟨b,0,none⟩) (m+1) c)∧w.heap.size≤b∧b<w'.heap.size∧(∀ k,k≤m→w'.cell? ⟨b,k,none⟩=some (.int .i64 (cutS s k)))∧Below w.heap.size w w'
def CutsRel (w:World) (s:ByteArray) (m:Nat) (v i:Value) (wr:World):Prop:=∃ k:Nat,i=.int .i64 (cutS s k)∧k≤m∧wr.ownsRow w.heap.size 3 1 v k ((cutsL (wdS s) s.size k).map intV)∧Below w.heap.size w wr
theorem cuts_out {s:ByteArray} {m:Nat} {w w':World} {v:Value} (hown:w'.ownsRow w.heap.size 3 1 v (m+1) ((cutsL (wdS s) s.size m).map intV++[.int .i64 s.size])) (he:cutS s m=s.size) (hb:Below w.heap.size w w'):CutsOut s m w (.returned v) w':=by
 rcases hown.2 with ⟨e,hn⟩ | ⟨g,cap,cur,e,hg,_⟩
 ·simp at hn
 ·subst e
  have hlt:=(hown.lt g rfl)
  refine ⟨g,cap,rfl,hlt.1,hlt.2,fun k hk=>?_,hb⟩
  have:=hown.cells (g:=g) rfl k (.int .i64 (cutS s k)) (by
   rw [show (cutsL (wdS s) s.size m).map intV++[.int .i64 s.size]=(cutsL (wdS s) s.size (m+1)).map intV by rw [cuts_succ,List.map_append,show cutAt (wdS s) s.size m=s.size from he];rfl,List.getElem?_map,cuts_get _ _ _ (by omega)]
   rfl)
  by_cases e:k=0<;>simpa [Addr.add,e] using this
theorem ref_cuts (s:ByteArray) (w:World) (hs:s.size≤1000000000) (hT:Tabs w):
  Calls Tryz.prog 54 #[.string s] w (CutsOut s (nChars s) w):=by
 obtain ⟨hch,hle⟩:=nChars_chars s
 have HC:=Lib.hid hch
 have HT:=Lib.hid (fun W (hb:Below w.heap.size w W)=>hT.below hb (Nat.le_refl _))
 obtain ⟨i0,hi0,hz0,hz1,hz2⟩:=info_parts infoInt
 have HI0:=Lib.hid (And.intro hi0 (And.intro hz0 (And.intro hz1 hz2)))
 clear hi0 hz0 hz1 hz2 hch hT
 generalize hm:nChars s=m at *
 clear hm
 go_enter Tryz.func54,Tryz.ntmps54
 go_wp2
 go_loopw [3,4] (CutsRel w s m) (fun _ i _=>s.size - (intOf i).toNat)
 case atStart=>exact ⟨0,rfl,Nat.zero_le _,World.ownsRow_nil _ _ _ _,Below.refl _ _⟩
 case round=>
  obtain ⟨k,rfl,hk,hown,hB⟩:=hrel
  obtain ⟨A,cp,rfl⟩:=own_form hown
  have HO:=Lib.hid hown
  have HB:=Lib.hid hB
  have hmax:k+1≤maxLen:=by unfold maxLen;omega
  have hby:(k+1) * 8≤140737488355328:=by omega
  have HM:=Lib.hid (And.intro hmax hby)
  clear hmax hby hown hB
  by_cases hp:cutS s k<s.size
  ·have hkc:k<m:=(Chars.iff HC.out).1 hp
   have hnext:cutS s (k+1)=cutS s k+wdS s (cutS s k):=cut_next hp
   have hwd:=wide_str s (cutS s k) hp
   have HCS:=Lib.hid (show (cutsL (wdS s) s.size (k+1)).map intV=(cutsL (wdS s) s.size k).map intV++[.int .i64 (cutS s k)] by rw [cuts_succ,List.map_append];rfl)
   have HN:=Lib.hid hnext
   have HD:=Lib.hid (fun W (hb:Below w.heap.size w W)=>call_decode s (cutS s k) W hp (HT.out W hb))
   generalize cutS s k=p at *
   generalize wdS s p=d at *
   clear hnext
   go_wp2_with (first
    | (at_builtin;refine wpList_append_own_at _ rfl (.tmp 11) (.tmp 13) 98 rfl w.heap.size 3 i0 _ 1 8 Tryz.underlying98 HI0.out.1 HI0.out.2.1 HI0.out.2.2.1 HI0.out.2.2.2 rfl (by decide) (.slice A k cp) k _ rfl (HO.out.alloc _) ⟨wr.heap.size,0,none⟩ 1 1 [.int .i64 p] rfl rfl (row_cells' _ _ rfl _ _) (by simp [Value.oneCell']) HM.out.1 HM.out.2 (by have:=HB.out.size;simp;omega) ?_;intro v3 W3 hown3 hgrow3 _ hat3;obtain ⟨A3,c3,rfl⟩:=own_form hown3;have H3:=Lib.hid (And.intro hown3 ((HB.out.alloc HB.out.size _).grown hgrow3 (by have:=HB.out.size;simp;omega) (fun j hj=>(HO.out.lt j hj).1)));clear hown3 hgrow3 hat3)
    | (go_at_call 92;refine (HD.out _ H3.out.2).mono ?_;rintro e w4 ⟨r,rfl,hb⟩;have H4:=Lib.hid (And.intro (own_below H3.out.1 hb) (H3.out.2.trans (hb.mono H3.out.2.size)));clear hb))
   go_roundw
   case rel=>exact ⟨k+1,by rw [HN.out];go_num,hkc,by rw [HCS.out];exact H4.out.1,H4.out.2⟩
   case measure=>simp [intOf];omega
  ·have hkc:k=m:=by
    have h1:¬ k<m:=fun h=>hp ((Chars.iff HC.out).2 h)
    omega
   have hend:cutS s k=s.size:=by have:=cutS_le s k;omega
   subst hkc
   have HE:=Lib.hid hend
   rw [hend]
   clear hp hend
   go_wp2_with (at_builtin;refine wpList_append_own_at _ rfl (.tmp 25) (.tmp 28) 98 rfl w.heap.size 3 i0 _ 1 8 Tryz.underlying98 HI0.out.1 HI0.out.2.1 HI0.out.2.2.1 HI0.out.2.2.2 rfl (by decide) (.slice A k cp) k _ rfl (HO.out.alloc _) ⟨wr.heap.size,0,none⟩ 1 1 [.int .i64 s.size] rfl rfl (row_cells' _ _ rfl _ _) (by simp [Value.oneCell']) HM.out.1 HM.out.2 (by have:=HB.out.size;simp;omega) ?_;intro v3 W3 hown3 hgrow3 _ hat3;have H3:=Lib.hid (cuts_out hown3 HE.out ((HB.out.alloc HB.out.size _).grown hgrow3 (by have:=HB.out.size;simp;omega) (fun j hj=>(HO.out.lt j hj).1)));obtain ⟨A3,c3,rfl⟩:=own_form hown3;clear hown3 hgrow3 hat3)
   go_ret
   exact H3.out
theorem ref_Len (s:ByteArray) (w:World) (hs:s.size≤1000000000) (hT:Tabs w):
  Calls Tryz.prog 91 #[.string s] w fun e w'=>e=.returned (.int .i64 (nChars s))∧Below w.heap.size w w':=by
 have HL:=Lib.hid (ref_cuts s w hs hT)
 have hle:=(nChars_chars s).2
 generalize nChars s=m at *
 go_enter Tryz.func91,Tryz.ntmps91
 go_wp2_with (go_at_call 54;refine HL.out.mono ?_;rintro e w1 ⟨b,c,rfl,_,_,_,hb⟩;have H1:=Lib.hid hb;clear hb)
 go_ret
 exact ⟨ret_intA (by omega),H1.out⟩
end Go.Proofs.YtamlaknfakaanaaGreatDoor
namespace Go.Proofs.YtamlaknfakaanaaGreatDoor
open Go Go.RowKit Go.Shelf
set_option linter.unusedVariables false
set_option linter.unusedSimpArgs false
theorem ref_CheckT (s:ByteArray) (c:GC) (A AL AO:Option Addr) (cp cL cO:Nat) (w:World) (hs:s.size≤1000000000) (hT:Tabs w) (hk:c.kind=8∨c.kind=9):
  Calls Tryz.prog 53 #[.string s,.agg #[.int .u8 c.kind,.slice A c.path.length cp,.string c.key,.int .i64 c.i,.int .i64 c.j,.int .i64 c.n,.int .u8 c.v.kind,.int .i64 c.v.num,.string c.v.str,.slice AL c.v.items.length cL,.slice AO c.v.vals.length cO,.string c.s]] w fun e w'=>e=.returned (.int .i64 (chkT (nChars s) c.kind.toNat c.i c.n))∧Below w.heap.size w w':=by
 have HL:=Lib.hid (fun W (hb:Below w.heap.size w W)=>ref_Len s W hs (hT.below hb (Nat.le_refl _)))
 have hle:nChars s≤1000000000:=Nat.le_trans (nChars_chars s).2 hs
 have H0:=Lib.hid (Whole.new w 35 #[.int .u8 c.kind,.slice A c.path.length cp,.string c.key,.int .i64 c.i,.int .i64 c.j,.int .i64 c.n,.int .u8 c.v.kind,.int .i64 c.v.num,.string c.v.str,.slice AL c.v.items.length cL,.slice AO c.v.vals.length cO,.string c.s])
 have HB:=Lib.hid (below_alloc w (.cells #[.int .u8 c.kind,.slice A c.path.length cp,.string c.key,.int .i64 c.i,.int .i64 c.j,.int .i64 c.n,.int .u8 c.v.kind,.int .i64 c.v.num,.string c.v.str,.slice AL c.v.items.length cL,.slice AO c.v.vals.length cO,.string c.s] 35))
 clear hT
 obtain ⟨c0,c1,c2,c3,c4,c5,c6,c7,c8,c9,c10,c11,_⟩:=H0.out.tw
 rcases hk with hk | hk
 ·have hk8:(c.kind != 8)=false:=by simp;omega
  have hk9:(c.kind == 9)=false:=by simp;omega
  rw [show chkT (nChars s) c.kind.toNat c.i c.n=if c.i<0 then 32 else if (nChars s:Int)<c.i then 32 else 0 by unfold chkT;rw [show c.kind.toNat=8 by omega];simp;repeat' split;all_goals omega]
  clear hk
  generalize nChars s=m at *
  by_cases h0:c.i<0<;>by_cases h1:(m:Int)<c.i<;>first | (exfalso;omega) | (have K0:=Lib.hid h0;have K1:=Lib.hid h1;(go_enter Tryz.func53,Tryz.ntmps53;go_wp2_with (go_at_call 91;refine (HL.out _ HB.out).mono ?_;rintro e w1 ⟨rfl,hb⟩;have H1:=Lib.hid (H0.out.below hb (by simp));have HB1:=Lib.hid (HB.out.trans (hb.mono (by simp)));clear c0 c1 c2 c3 c4 c5 c6 c7 c8 c9 c10 c11;obtain ⟨c0,c1,c2,c3,c4,c5,c6,c7,c8,c9,c10,c11,_⟩:=H1.out.tw;clear hb);go_ret;exact ⟨by simp [K0.out,K1.out],HB1.out⟩))
 ·have hk8:(c.kind != 8)=true:=by simp;omega
  have hk9n:(c.kind != 9)=false:=by simp;omega
  have hk9:(c.kind == 9)=true:=by simp;omega
  rw [show chkT (nChars s) c.kind.toNat c.i c.n=if c.i<0 then 32 else if (nChars s:Int)<c.i then 32 else if c.n<1 then 32 else if (nChars s:Int) - c.i<c.n then 32 else 0 by unfold chkT;rw [show c.kind.toNat=9 by omega];simp;repeat' split;all_goals omega]
  clear hk
  generalize nChars s=m at *
  by_cases h0:c.i<0<;>by_cases h1:(m:Int)<c.i<;>by_cases h2:c.n<1<;>by_cases h3:(m:Int) - c.i<c.n<;>first | (exfalso;omega) | (have K0:=Lib.hid h0;have K1:=Lib.hid h1;have K2:=Lib.hid h2;have K3:=Lib.hid h3;(go_enter Tryz.func53,Tryz.ntmps53;go_wp2_with (go_at_call 91;refine (HL.out _ HB.out).mono ?_;rintro e w1 ⟨rfl,hb⟩;have H1:=Lib.hid (H0.out.below hb (by simp));have HB1:=Lib.hid (HB.out.trans (hb.mono (by simp)));clear c0 c1 c2 c3 c4 c5 c6 c7 c8 c9 c10 c11;obtain ⟨c0,c1,c2,c3,c4,c5,c6,c7,c8,c9,c10,c11,_⟩:=H1.out.tw;clear hb);go_ret;exact ⟨by simp [K0.out,K1.out,K2.out,K3.out],HB1.out⟩))
end Go.Proofs.YtamlaknfakaanaaGreatDoor
namespace Go.Proofs.YtamlaknfakaanaaGreatDoor
open Go Go.RowKit Go.Shelf
set_option linter.unusedVariables false
set_option linter.unusedSimpArgs false
theorem ref_Do_ins (s:ByteArray) (c:GC) (i:Nat) (A AL AO:Option Addr) (cp cL cO:Nat) (w:World) (hs:s.size≤1000000000) (hs2:c.s.size≤1000000000) (hT:Tabs w) (hk:c.kind=8) (hi:c.i=i) (hin:i≤nChars s):
  Calls Tryz.prog 26 #[.string s,.agg #[.int .u8 c.kind,.slice A c.path.length cp,.string c.key,.int .i64 c.i,.int .i64 c.j,.int .i64 c.n,.int .u8 c.v.kind,.int .i64 c.v.num,.string c.v.str,.slice AL c.v.items.length cL,.slice AO c.v.vals.length cO,.string c.s]] w fun e w'=>e=.returned (.tuple #[.string (insS s i c.s),.int .i64 0])∧Below w.heap.size w w':=by
 have h0:chkT (nChars s) c.kind.toNat c.i c.n=0:=by
  unfold chkT
  rw [show c.kind.toNat=8 by omega,hi]
  simp
  omega
 have HCK:=Lib.hid (fun W (hb:Below w.heap.size w W)=>ref_CheckT s c A AL AO cp cL cO W hs (hT.below hb (Nat.le_refl _)) (.inl hk))
 rw [h0] at HCK
 have HCU:=Lib.hid (fun W (hb:Below w.heap.size w W)=>ref_cuts s W hs (hT.below hb (Nat.le_refl _)))
 have hcl:=cutS_le s i
 have hnl:=(nChars_chars s).2
 have hk8:(c.kind == 8)=true:=by simp;omega
 have H0:=Lib.hid (Whole.new w 35 #[.int .u8 c.kind,.slice A c.path.length cp,.string c.key,.int .i64 c.i,.int .i64 c.j,.int .i64 c.n,.int .u8 c.v.kind,.int .i64 c.v.num,.string c.v.str,.slice AL c.v.items.length cL,.slice AO c.v.vals.length cO,.string c.s])
 have HB:=Lib.hid (below_alloc w (.cells #[.int .u8 c.kind,.slice A c.path.length cp,.string c.key,.int .i64 c.i,.int .i64 c.j,.int .i64 c.n,.int .u8 c.v.kind,.int .i64 c.v.num,.string c.v.str,.slice AL c.v.items.length cL,.slice AO c.v.vals.length cO,.string c.s] 35))
 rw [hi] at HCK H0 HB ⊢
 show Calls _ _ _ w fun e w'=>e=.returned (.tuple #[.string (s.extract 0 (cutS s i)++c.s++s.extract (cutS s i) s.size),.int .i64 0])∧Below w.heap.size w w'
 have hsz1:(s.extract 0 (cutS s i)).size=cutS s i:=by simp [ByteArray.size_extract];omega
 have hsz2:(s.extract 0 (cutS s i)++c.s).size=cutS s i+c.s.size:=by rw [ByteArray.size_append,hsz1]
 have hsz3:(s.extract (cutS s i) s.size).size=s.size - cutS s i:=tail_size s _ hcl
 have hp1:¬ 9223372036854775807<(s.extract 0 (cutS s i)).size+c.s.size:=by omega
 have hp2:¬ 9223372036854775807<(s.extract 0 (cutS s i)++c.s).size+(s.extract (cutS s i) s.size).size:=by omega
 have HI:=Lib.hid hin
 clear hk hi h0 hT
 generalize nChars s=m at *
 generalize hf:cutS s i=f at *
 have HF:=Lib.hid hf
 have hf0:(0:Int)≤(f:Int):=by omega
 have hf1:(f:Int)≤(s.size:Int):=by omega
 have hi0:(0:Int)≤(i:Int):=by omega
 have hi1:(i:Int)<((m+1:Nat):Int):=by omega
 clear hf hsz1 hsz2 hsz3 hin
 go_enter Tryz.func26,Tryz.ntmps26
 go_wp2_with (first
  | (go_at_call 53;refine (HCK.out _ HB.out).mono ?_;rintro e w1 ⟨rfl,hb⟩;have H1:=Lib.hid (And.intro (H0.out.below hb (by simp)) (HB.out.trans (hb.mono (by simp))));clear hb;obtain ⟨c0,c1,c2,c3,c4,c5,c6,c7,c8,c9,c10,c11,_⟩:=H1.out.1.tw)
  | (go_at_call 54;refine (HCU.out _ H1.out.2).mono ?_;rintro e w2 ⟨b,cap,rfl,_,_,hcut,hb⟩;have H2:=Lib.hid (And.intro (H1.out.1.below hb H1.out.1.lt) (H1.out.2.trans (hb.mono H1.out.2.size)));have q0:=(hcut i HI.out);rw [HF.out] at q0;clear hcut hb c0 c1 c2 c3 c4 c5 c6 c7 c8 c9 c10 c11;obtain ⟨c0,c1,c2,c3,c4,c5,c6,c7,c8,c9,c10,c11,_⟩:=H2.out.1.tw))
 go_region
 go_wp2
 go_ret2
 exact ⟨rfl,H2.out.2.drew⟩
theorem ref_Do_del (s:ByteArray) (c:GC) (i n:Nat) (A AL AO:Option Addr) (cp cL cO:Nat) (w:World) (hs:s.size≤1000000000) (hT:Tabs w) (hk:c.kind=9) (hi:c.i=i) (hn:c.n=n) (h1:1≤n) (hin:i+n≤nChars s):
  Calls Tryz.prog 26 #[.string s,.agg #[.int .u8 c.kind,.slice A c.path.length cp,.string c.key,.int .i64 c.i,.int .i64 c.j,.int .i64 c.n,.int .u8 c.v.kind,.int .i64 c.v.num,.string c.v.str,.slice AL c.v.items.length cL,.slice AO c.v.vals.length cO,.string c.s]] w fun e w'=>e=.returned (.tuple #[.string (delS s i n),.int .i64 0])∧Below w.heap.size w w':=by
 have h0:chkT (nChars s) c.kind.toNat c.i c.n=0:=by
  unfold chkT
  rw [show c.kind.toNat=9 by omega,hi,hn]
  simp
  omega
 have HCK:=Lib.hid (fun W (hb:Below w.heap.size w W)=>ref_CheckT s c A AL AO cp cL cO W hs (hT.below hb (Nat.le_refl _)) (.inr hk))
 rw [h0] at HCK
 have HCU:=Lib.hid (fun W (hb:Below w.heap.size w W)=>ref_cuts s W hs (hT.below hb (Nat.le_refl _)))
 have hcl:=cutS_le s i
 have hcl2:=cutS_le s (i+n)
 have hnl:=(nChars_chars s).2
 have hk8:(c.kind == 8)=false:=by simp;omega
 have H0:=Lib.hid (Whole.new w 35 #[.int .u8 c.kind,.slice A c.path.length cp,.string c.key,.int .i64 c.i,.int .i64 c.j,.int .i64 c.n,.int .u8 c.v.kind,.int .i64 c.v.num,.string c.v.str,.slice AL c.v.items.length cL,.slice AO c.v.vals.length cO,.string c.s])
 have HB:=Lib.hid (below_alloc w (.cells #[.int .u8 c.kind,.slice A c.path.length cp,.string c.key,.int .i64 c.i,.int .i64 c.j,.int .i64 c.n,.int .u8 c.v.kind,.int .i64 c.v.num,.string c.v.str,.slice AL c.v.items.length cL,.slice AO c.v.vals.length cO,.string c.s] 35))
 rw [hi,hn] at HCK H0 HB ⊢
 show Calls _ _ _ w fun e w'=>e=.returned (.tuple #[.string (s.extract 0 (cutS s i)++s.extract (cutS s (i+n)) s.size),.int .i64 0])∧Below w.heap.size w w'
 have hsz1:(s.extract 0 (cutS s i)).size=cutS s i:=by simp [ByteArray.size_extract];omega
 have hsz3:(s.extract (cutS s (i+n)) s.size).size=s.size - cutS s (i+n):=tail_size s _ hcl2
 have hp1:¬ 9223372036854775807<(s.extract 0 (cutS s i)).size+(s.extract (cutS s (i+n)) s.size).size:=by omega
 have HI:=Lib.hid hin
 clear hk hi hn h0 hT
 generalize nChars s=m at *
 generalize hf:cutS s i=f at *
 generalize hf':cutS s (i+n)=f' at *
 have HF:=Lib.hid (And.intro hf hf')
 have hf0:(0:Int)≤(f:Int):=by omega
 have hf1:(f:Int)≤(s.size:Int):=by omega
 have hf2:(0:Int)≤(f':Int):=by omega
 have hf3:(f':Int)≤(s.size:Int):=by omega
 have hi0:(0:Int)≤(i:Int):=by omega
 have hi1:(i:Int)<((m+1:Nat):Int):=by omega
 have hi2:(0:Int)≤(i:Int)+(n:Int):=by omega
 have hi3:(i:Int)+(n:Int)<((m+1:Nat):Int):=by omega
 have hwr:IntKind.i64.wrap ((i:Int)+(n:Int))=(i:Int)+(n:Int):=IntWalk.i64_in _ (by omega)
 have htn:((i:Int)+(n:Int)).toNat=i+n:=by omega
 clear hf hf' hsz1 hsz3 hin
 go_enter Tryz.func26,Tryz.ntmps26
 go_wp2_with (first
  | (go_at_call 53;refine (HCK.out _ HB.out).mono ?_;rintro e w1 ⟨rfl,hb⟩;have H1:=Lib.hid (And.intro (H0.out.below hb (by simp)) (HB.out.trans (hb.mono (by simp))));clear hb;obtain ⟨c0,c1,c2,c3,c4,c5,c6,c7,c8,c9,c10,c11,_⟩:=H1.out.1.tw)
  | (go_at_call 54;refine (HCU.out _ H1.out.2).mono ?_;rintro e w2 ⟨b,cap,rfl,_,_,hcut,hb⟩;have H2:=Lib.hid (And.intro (H1.out.1.below hb H1.out.1.lt) (H1.out.2.trans (hb.mono H1.out.2.size)));have q0:=(hcut i (by have:=HI.out;omega));have q1:=(hcut (i+n) HI.out);rw [HF.out.1] at q0;rw [HF.out.2] at q1;clear hcut hb c0 c1 c2 c3 c4 c5 c6 c7 c8 c9 c10 c11;obtain ⟨c0,c1,c2,c3,c4,c5,c6,c7,c8,c9,c10,c11,_⟩:=H2.out.1.tw))
 go_region
 go_wp2
 go_ret2
 exact ⟨rfl,H2.out.2.drew⟩
end Go.Proofs.YtamlaknfakaanaaGreatDoor
namespace Go.Proofs.YtamlaknfakaanaaGreatDoor
open Go Go.RowKit
set_option linter.unusedVariables false
set_option linter.unusedSimpArgs false
def fromAt (A:Option Addr) (c i:Nat):Option Addr:=if c=i then A else A.map fun p=>⟨p.block,p.off+i * 5,none⟩
theorem run_from (A:Option Addr) (n c i:Nat) (hA:∀ p,A=some p→p.spot=none) (hi:i≤n) (hn:n≤c) (hc:c≤maxLen) (W:World):(Instr.slice 28 (.slice A n c) (some (.int .i64 i)) none none).run Tryz.prog W=.ok (.slice (fromAt A c i) (n - i) (c - i)) W:=by
 unfold maxLen at hc
 rw [run_slice_l (ht:=Tryz.underlying28) (h0:=by omega) (h1:=by omega)]
 by_cases e:c=i
 ·subst e;simp [go_sem,fromAt]
 ·cases A with
  | none=>simp [go_sem,fromAt]
  | some p=>
   obtain ⟨pb,po,ps⟩:=p
   have:=hA _ rfl
   simp only at this
   subst this
   have hz:(c:Int)≠i:=by omega
   simp [go_sem,fromAt,e,Addr.add]
   try omega
theorem run_upto (A:Option Addr) (n c i:Nat) (hi:i≤n) (hn:n≤c) (hc:c≤maxLen) (W:World):(Instr.slice 28 (.slice A n c) none (some (.int .i64 i)) none).run Tryz.prog W=.ok (.slice A i c) W:=by
 unfold maxLen at hc
 rw [run_slice_h (ht:=Tryz.underlying28) (h0:=by omega) (h2:=by omega)]
 cases A<;>simp [go_sem,Addr.add]
theorem lc_from {ok:Nat→Prop} {W:World} {A:Option Addr} {c:Nat} {l:List GV} (h:LstV ok W (.slice A l.length c) l) (i:Nat) (hi:i≤l.length):∃ xs,Lc ok W (fromAt A c i) (l.drop i) xs:=by
 rcases h with ⟨rfl,e⟩ | ⟨b',o',c',e,h1,h2,hK,hE⟩
 ·cases e
  simp at hi
  subst hi
  exact ⟨[],by simp [RowL],rfl,(fun ad h=>by simp [fromAt] at h),(fun u h=>by cases h)⟩
 ·simp only [Value.slice.injEq] at e
  obtain ⟨rfl,_,rfl⟩:=e
  by_cases hba:c=i
  ·have hd:l.drop i=[]:=List.drop_eq_nil_of_le (by omega)
   rw [hd]
   exact ⟨[],rfl,rfl,(fun ad h=>by simp [fromAt,hba] at h;subst h;exact ⟨hK.lt,fun j u hj=>by simp at hj⟩),(fun u h=>by cases h)⟩
  ·have hE':GV.els ok W b' 5 (o'+i * 5) (l.drop i):=GV.els_of fun j g hj=>by
    rw [List.getElem?_drop] at hj
    have:=GV.els_get hE hj
    rwa [show o'+i * 5+j * 5=o'+(i+j) * 5 by omega]
   obtain ⟨xs,hr,hl,hc,h1⟩:=els_row hE'
   refine ⟨xs,hr,hl,fun ad h=>?_,h1⟩
   simp [fromAt,hba] at h
   subst h
   refine ⟨hK.lt,fun j u hj=>?_⟩
   have e2:(⟨b',o'+i * 5,none⟩:Addr).add j =⟨b',o'+i * 5+j,none⟩:=by unfold Addr.add;split<;>simp_all
   rw [e2]
   exact hc j u hj
theorem lc_upto {ok:Nat→Prop} {W:World} {A:Option Addr} {c:Nat} {l:List GV} (h:LstV ok W (.slice A l.length c) l) (i:Nat) (hi:i≤l.length):∃ xs,Lc ok W A (l.take i) xs:=by
 rcases h with ⟨rfl,e⟩ | ⟨b',o',c',e,h1,h2,hK,hE⟩
 ·cases e
  exact ⟨[],by simp [RowL],by simp,(fun ad h=>by cases h),(fun u h=>by cases h)⟩
 ·simp only [Value.slice.injEq] at e
  obtain ⟨rfl,_,rfl⟩:=e
  have hE':GV.els ok W b' 5 o' (l.take i):=GV.els_of fun j g hj=>by
   rw [List.getElem?_take] at hj
   split at hj
   ·exact GV.els_get hE hj
   ·cases hj
  obtain ⟨xs,hr,hl,hc,h1⟩:=els_row hE'
  refine ⟨xs,hr,hl,fun ad h=>?_,h1⟩
  cases h
  refine ⟨hK.lt,fun j u hj=>?_⟩
  have e2:(⟨b',o',none⟩:Addr).add j =⟨b',o'+j,none⟩:=by unfold Addr.add;split<;>simp_all
  rw [e2]
  exact hc j u hj
theorem from_none {A:Option Addr} {c i:Nat} (h:fromAt A c i=none):A=none:=by unfold fromAt at h;split at h<;>simpa using h
end Go.Proofs.YtamlaknfakaanaaGreatDoor
namespace Go.Proofs.YtamlaknfakaanaaGreatDoor
open Go Go.RowKit
structure CopyRows (lo:Nat) (l:List GV) (ks:List ByteArray) (ov:List GV) (W:World) (vL vO:Value) (xs ys:List Value):Prop where
 ownL:W.ownsRow lo 31 5 vL l.length xs
 ownO:W.ownsRow lo 59 6 vO ov.length ys
 rowL:RowL (Away lo vL vO) W l xs
 rowO:RowO (Away lo vL vO) W ks ov ys
theorem Rows.whole {B:Nat} {W0 wr:World} {l:List GV} {ks:List ByteArray} {ov:List GV} {vL vO:Value} {xs ys:List Value} (h:Rows B W0 l ks ov l.length ov.length vL vO xs ys wr) (hkl:ks.length=ov.length) {W:World} (hW:∀ k,B≤k→k<wr.heap.size→W.heap[k]? = wr.heap[k]?) {lo:Nat} (hlo:lo≤B):
  CopyRows lo l ks ov W vL vO xs ys:=by
 have hF:From (Away B vL vO) wr W:=fun k hk hlt=>hW k hk.1 hlt
 have e1:=h.rowL
 have e2:=h.rowO
 rw [List.take_length] at e1
 rw [List.take_length,← hkl,List.take_length] at e2
 have base:∀ {e:TypeId} {size n:Nat} {v:Value} {xs:List Value},W.ownsRow B e size v n xs→W.ownsRow lo e size v n xs:=fun h=>⟨h.1,h.2.imp id fun ⟨g,cap,cur,h1,h2,h3⟩=>⟨g,cap,cur,h1,Nat.le_trans hlo h2,h3⟩⟩
 exact ⟨base (own_same h.ownL fun k hk=>hW k (h.ownL.lt k hk).1 (h.ownL.lt k hk).2),base (own_same h.ownO fun k hk=>hW k (h.ownO.lt k hk).1 (h.ownO.lt k hk).2),
  e1.keep hF (fun k hk _=>⟨Nat.le_trans hlo hk.1,hk.2⟩),e2.keep hF (fun k hk _=>⟨Nat.le_trans hlo hk.1,hk.2⟩)⟩
theorem ref_CopyR (ok:Nat→Prop) (v:Value) (g:GV) (w:World) (hv:g.val ok w v) (hsz:g.size≤1000000000):
  Calls Tryz.prog 8 #[v] w fun e w'=>∃ AL cL AO cO xs ys,e=.returned (.agg #[.int .u8 g.kind,.int .i64 g.num,.string g.str,.slice AL g.items.length cL,.slice AO g.vals.length cO])∧CopyRows w.heap.size g.items g.keys g.vals w' (.slice AL g.items.length cL) (.slice AO g.vals.length cO) xs ys∧Below w.heap.size w w':=by
 have ih:=ref_Copy g.size
 have hF:g.size≤g.size+1:=Nat.le_succ _
 obtain ⟨L,O,rfl,hL,hO⟩:=hv
 have hkl:=hO.1
 obtain ⟨A,c,rfl,hc1,hc2,hf⟩:=hL.form
 obtain ⟨A',c',rfl,hc1',hc2',hf'⟩:=hO.form
 have hge:=size_eq g
 have hln1:=len_sizes g.items
 have hln2:=len_sizes g.vals
 unfold maxLen at hc2 hc2'
 generalize g.items=l at *
 generalize g.vals=ov at *
 generalize g.keys=ks at *
 generalize g.kind=gk at *
 generalize g.num=gn at *
 generalize g.str=gs at *
 have IH:=Lib.hid ih
 have HF:=Lib.hid hf
 have HF':=Lib.hid hf'
 have HSZ:=Lib.hid (And.intro hF (And.intro hsz hge))
 have hll:l.length≤1000000000:=by omega
 have hlo:ov.length≤1000000000:=by omega
 have HKL:=Lib.hid hkl
 clear ih hf hf' hF hsz hge hL hO hln1 hln2 hkl
 obtain ⟨i0,hi0,hz0,hz1,hz2⟩:=info_parts infoVal
 obtain ⟨i1,hi1,hy0,hy1,hy2⟩:=info_parts infoField
 have HI0:=Lib.hid (And.intro hi0 (And.intro hz0 (And.intro hz1 hz2)))
 have HI1:=Lib.hid (And.intro hi1 (And.intro hy0 (And.intro hy1 hy2)))
 clear hi0 hz0 hz1 hz2 hi1 hy0 hy1 hy2
 go_enter Tryz.func8,Tryz.ntmps8
 go_wp2
 have hB:Below w.heap.size w ((w.alloc (.cells #[Value.int IntKind.u8 gk,Value.int IntKind.i64 gn,Value.string gs,Value.slice A l.length c,Value.slice A' ov.length c'] 31)).alloc (.cells #[.int .u8 0,.int .i64 0,.string ⟨#[]⟩,.slice none 0 0,.slice none 0 0] 31)):=((Below.refl _ _).alloc (Nat.le_refl _) _).alloc (by simp) _
 have hW:=(Whole.new w 31 #[Value.int IntKind.u8 gk,Value.int IntKind.i64 gn,Value.string gs,Value.slice A l.length c,Value.slice A' ov.length c']).alloc (.cells #[.int .u8 0,.int .i64 0,.string ⟨#[]⟩,.slice none 0 0,.slice none 0 0] 31)
 have hV:=Whole.new (w.alloc (.cells #[Value.int IntKind.u8 gk,Value.int IntKind.i64 gn,Value.string gs,Value.slice A l.length c,Value.slice A' ov.length c'] 31)) 31 #[.int .u8 0,.int .i64 0,.string ⟨#[]⟩,.slice none 0 0,.slice none 0 0]
 rw [World.size_alloc] at hV
 have hs0:((w.alloc (.cells #[Value.int IntKind.u8 gk,Value.int IntKind.i64 gn,Value.string gs,Value.slice A l.length c,Value.slice A' ov.length c'] 31)).alloc (.cells #[.int .u8 0,.int .i64 0,.string ⟨#[]⟩,.slice none 0 0,.slice none 0 0] 31)).heap.size=w.heap.size+2:=by simp
 generalize ((w.alloc (.cells #[Value.int IntKind.u8 gk,Value.int IntKind.i64 gn,Value.string gs,Value.slice A l.length c,Value.slice A' ov.length c'] 31)).alloc (.cells #[.int .u8 0,.int .i64 0,.string ⟨#[]⟩,.slice none 0 0,.slice none 0 0] 31))=W0 at hB hW hV hs0 ⊢
 have HW:=Lib.hid hW
 have HV:=Lib.hid hV
 have HB:=Lib.hid hB
 have HS0:=Lib.hid hs0
 clear hW hV hB hs0
 go_loopw [3,4] (CopyRel1 W0 l ks ov) (fun _ i _=>l.length - (intOf i).toNat)
 case atStart=>exact ⟨0,[],rfl,Nat.zero_le _,Rows.start _ _ _ _⟩
 case round=>
  obtain ⟨k,xs,rfl,hk,hr⟩:=hrel
  obtain ⟨AL,cL,rfl⟩:=own_form hr.ownL
  have hx3:wr.cell? ⟨w.heap.size,3,none⟩=some (.slice A l.length c):=((HW.out.below hr.below HW.out.lt).cell 3).trans rfl
  have hwr:Below w.heap.size w wr:=HB.out.trans (hr.below.mono HB.out.size)
  by_cases hlt:k<l.length
  ·obtain ⟨b,o,rfl,hK,hE⟩:=HF.out (by intro e;rw [e] at hlt;simp at hlt)
   obtain ⟨A1,c1,A2,c2,hcells,hval⟩:=item_at hE hK hlt
   obtain ⟨q0,q1,q2,q3,q4⟩:=hcells wr hwr
   have hs:=sizes_get l k hlt
   have hcall:=IH.out _ _ l[k] wr (by have:=HSZ.out;omega) (hval wr hwr) (by have:=HSZ.out;omega)
   have HG:=Lib.hid (List.getElem?_eq_getElem hlt)
   have HC:=Lib.hid hcall
   have HR:=Lib.hid hr
   have hmax:k+1≤maxLen:=by unfold maxLen;omega
   have hby:(k+1) * 80≤140737488355328:=by omega
   have HM:=Lib.hid (And.intro hmax hby)
   clear hcells hval hs hcall hE hK hr hwr hmax hby
   generalize l[k]=x at *
   go_wp2_with (first | (go_at_call 8;refine HC.out.mono ?_;rintro e W1 ⟨v',rfl,⟨L1,O1,rfl,hL1,hO1⟩,hb1⟩;obtain ⟨BL,dL,rfl⟩:=lst_form hL1;obtain ⟨BO,dO,rfl⟩:=obj_form hO1;have H1:=Lib.hid (And.intro hL1 (And.intro hO1 hb1));clear hL1 hO1 hb1) | (at_builtin;refine wpList_append_own_at _ rfl (.tmp 14) (.tmp 21) 28 rfl W0.heap.size 31 i0 _ 5 80 Tryz.underlying28 HI0.out.1 HI0.out.2.1 HI0.out.2.2.1 HI0.out.2.2.2 rfl (by decide) (.slice AL k cL) k xs rfl (((HR.out.step H1.out.2.2).step ((Below.refl _ W1).alloc (Nat.le_refl _) _)).ownL) ⟨W1.heap.size,0,none⟩ 1 1 (chunk x (.slice BL x.items.length dL) (.slice BO x.vals.length dO)) rfl rfl (row_cells' _ _ rfl _ _) (by simp [chunk,Value.oneCell']) HM.out.1 HM.out.2 (((HR.out.step H1.out.2.2).step ((Below.refl _ W1).alloc (Nat.le_refl _) _)).size) ?_;intro v3 W3 hown3 hgrow3 _ hat3;obtain ⟨A3,c3,rfl⟩:=own_form hown3;have H3:=Lib.hid (And.intro hown3 (And.intro hgrow3 hat3));clear hown3 hgrow3 hat3))
   go_roundw
   case rel=>exact ⟨k+1,_,by go_num,by omega,HR.out.addL HG.out H1.out.2.2 H1.out.1 H1.out.2.1 H3.out.1 H3.out.2.1 H3.out.2.2⟩
   case measure=>simp [intOf];omega
  ·have hkl:k=l.length:=by omega
   subst hkl
   have HR:=Lib.hid hr
   clear hr hwr
   go_wp2
   clear hx3
   go_loopw [5,6] (CopyRel2 W0 l ks ov (.slice AL l.length cL)) (fun _ i _=>ov.length - (intOf i).toNat)
   case atStart=>exact ⟨0,_,_,rfl,Nat.zero_le _,HR.out⟩
   case round=>
    clear HR
    obtain ⟨k,xs,ys,rfl,hk,hr⟩:=hrel
    obtain ⟨AO,cO,rfl⟩:=own_form hr.ownO
    by_cases hlt:k<ov.length
    ·have hwr:Below w.heap.size w wr:=HB.out.trans (hr.below.mono HB.out.size)
     obtain ⟨b,o,rfl,hK,hks,hE⟩:=HF'.out (by intro e;rw [e] at hlt;simp at hlt)
     have hx4:wr.cell? ⟨w.heap.size,4,none⟩=some (.slice (some ⟨b,o,none⟩) ov.length c'):=((HW.out.below hr.below HW.out.lt).cell 4).trans rfl
     have hlk:k<ks.length:=by have:=HKL.out;omega
     obtain ⟨A1,c1,A2,c2,hcells,hval⟩:=field_at hks hE hK hlt hlk
     have hs:=sizes_get ov k hlt
     have hsz:=HSZ.out
     have HC:=Lib.hid (fun (W:World) (h:Below W0.heap.size W0 W)=>IH.out _ _ ov[k] W (by omega) (hval W (HB.out.trans (h.mono HB.out.size))) (by omega))
     have HS:=Lib.hid (fun (W:World) (h:Below W0.heap.size W0 W)=>And.intro (((HW.out.below h HW.out.lt).cell 4).trans rfl:W.cell? ⟨w.heap.size,4,none⟩=some (.slice (some ⟨b,o,none⟩) ov.length c')) (hcells W (HB.out.trans (h.mono HB.out.size))))
     have HG:=Lib.hid (And.intro (List.getElem?_eq_getElem hlt) (List.getElem?_eq_getElem hlk))
     have HR:=Lib.hid hr
     have hmax:k+1≤maxLen:=by unfold maxLen;omega
     have hby:(k+1) * 96≤140737488355328:=by omega
     have HM:=Lib.hid (And.intro hmax hby)
     have hk0:(0:Int)≤(k:Int):=by omega
     have hk1:(k:Int)<(ov.length:Int):=by omega
     clear hcells hval hs hsz hE hK hks hr hwr hmax hby
     generalize ov[k]=x at *
     generalize ks[k]=kk at *
     go_wp2_with fail
     go_region_held3 (fun W=>W.cell? ⟨w.heap.size,4,none⟩=some (.slice (some ⟨b,o,none⟩) ov.length c')∧W.cell? ⟨b,o+k * 6,none⟩=some (.string kk)∧W.cell? ⟨b,o+k * 6+1,none⟩=some (.int .u8 x.kind)∧W.cell? ⟨b,o+k * 6+1+1,none⟩=some (.int .i64 x.num)∧W.cell? ⟨b,o+k * 6+1+2,none⟩=some (.string x.str)∧W.cell? ⟨b,o+k * 6+1+3,none⟩=some (.slice A1 x.items.length c1)∧W.cell? ⟨b,o+k * 6+1+4,none⟩=some (.slice A2 x.vals.length c2))
      (first | exact HS.out _ H3.out.2.2.2 | exact HS.out _ ((HR.out.step H1.out.2.2).step ((Below.refl _ W1).alloc (Nat.le_refl _) _)).below | exact HS.out _ (HR.out.step H1.out.2.2).below | exact HS.out _ HR.out.below.drew)
      (first | (go_at_call 8;refine (HC.out _ HR.out.below.drew).mono ?_;rintro e W1 ⟨v',rfl,⟨L1,O1,rfl,hL1,hO1⟩,hb1⟩;obtain ⟨BL,dL,rfl⟩:=lst_form hL1;obtain ⟨BO,dO,rfl⟩:=obj_form hO1;have hb2:Below wr.heap.size wr W1:=(Below.refl _ _).drew.trans hb1;have H1:=Lib.hid (And.intro hL1 (And.intro hO1 hb2));clear hL1 hO1 hb1 hb2) | (refine step_append_mine rfl (.tmp 30) (.tmp 45) 29 rfl W0.heap.size 59 i1 _ 6 96 Tryz.underlying29 HI1.out.1 HI1.out.2.1 HI1.out.2.2.1 HI1.out.2.2.2 rfl (by decide) (.slice AO k cO) k ys rfl ((HR.out.step H1.out.2.2).step ((Below.refl _ W1).alloc (Nat.le_refl _) _)).ownO ⟨W1.heap.size,0,none⟩ 1 1 (.string kk :: chunk x (.slice BL x.items.length dL) (.slice BO x.vals.length dO)) rfl rfl (row_cells' _ _ rfl _ _) (by simp [chunk,Value.oneCell']) HM.out.1 HM.out.2 ((HR.out.step H1.out.2.2).step ((Below.refl _ W1).alloc (Nat.le_refl _) _)).size ?_;intro v3 W3 hown3 hgrow3 hat3;obtain ⟨A3,c3,rfl⟩:=own_form hown3;have H3:=Lib.hid (And.intro hown3 (And.intro hgrow3 (And.intro hat3 (HR.out.addO HG.out.1 HG.out.2 H1.out.2.2 H1.out.1 H1.out.2.1 hown3 hgrow3 hat3).below)));clear hown3 hgrow3 hat3))
     go_wp2
     go_roundw
     case rel=>exact ⟨k+1,_,_,by go_num,by omega,HR.out.addO HG.out.1 HG.out.2 H1.out.2.2 H1.out.1 H1.out.2.1 H3.out.1 H3.out.2.1 H3.out.2.2.1⟩
     case measure=>simp [intOf];omega
    ·have hkl:k=ov.length:=by omega
     subst hkl
     have hx4:wr.cell? ⟨w.heap.size,4,none⟩=some (.slice A' ov.length c'):=((HW.out.below hr.below HW.out.lt).cell 4).trans rfl
     have hx:=(HW.out.below hr.below HW.out.lt).five
     have hy:=(HV.out.below hr.below HV.out.lt).five
     obtain ⟨a0,a1,a2,a3,a4,f0,f1,f2,f3,f4⟩:=hx
     obtain ⟨b0,b1,b2,b3,b4,e0,e1,e2,e3,e4⟩:=hy
     have HR:=Lib.hid hr
     clear hr
     go_wp2
     refine bodyPost_ret (v:=.agg #[.int .u8 gk,.int .i64 gn,.string gs,.slice AL l.length cL,.slice AO ov.length cO]) (by simp [results,Tryz.results8,go_sem,b0,b1,b2,b3,b4]) rfl ?_
     exact ⟨_,_,_,_,_,_,rfl,HR.out.whole HKL.out (W:=put5 ((wr.setCell ⟨w.heap.size,3,none⟩ (.slice AL l.length cL)).setCell ⟨w.heap.size,4,none⟩ (.slice AO ov.length cO)) (w.heap.size+1) (.int .u8 gk) (.int .i64 gn) (.string gs) (.slice AL l.length cL) (.slice AO ov.length cO)) (fun j hj hlt=>by
      rw [put5_block _ _ _ _ _ _ _ _ (by have:=HS0.out;omega),Below.heap_setCell _ _ _ _ (by have:=HS0.out;simp only;omega),Below.heap_setCell _ _ _ _ (by have:=HS0.out;simp only;omega)]) (by have:=HS0.out;omega),put5_below (((HB.out.trans (HR.out.below.mono HB.out.size)).setCell (Nat.le_refl _) _).setCell (Nat.le_refl _) _) (by omega) _ _ _ _ _⟩
end Go.Proofs.YtamlaknfakaanaaGreatDoor
namespace Go.Proofs.YtamlaknfakaanaaGreatDoor
open Go Go.RowKit
theorem own_setL2 {ok ok':Nat→Prop} {B0:Nat} {W W':World} {l:List GV} {xs:List Value} {g k c:Nat} {y:GV} (hr:RowL ok W l xs) (ho:W.ownsRow B0 31 5 (.slice (some ⟨g,0,none⟩) l.length c) l.length xs) (hne:¬ ok g) (hok:∀ k,ok k→ok' k) (hg':ok' g)
  (hJ:Just g (k * 5) 5 W W') (hy:y.at ok' W' g (k * 5)):LstV ok' W' (.slice (some ⟨g,0,none⟩) l.length c) (l.set k y):=by
 rcases ho.2 with ⟨hn,_⟩ | ⟨g',cap,cur,he,hb,hg,h1,h2,h3,h4⟩
 ·cases hn
 cases he
 have hF:From ok W W':=hJ.from hne
 obtain ⟨cs',hw'⟩:=hJ.row _ _ (show Whole W g 31 cur from hg)
 have hE:GV.els ok W g 5 0 l:=hr.els fun j u hj=>by
  have:=ho.cells (g:=g) rfl j u hj
  rwa [addr_add0] at this
 refine .inr ⟨g,0,c,by rw [List.length_set],by rw [List.length_set];exact h1,h2,hw'.kind hg',GV.els_of fun i a ha=>?_⟩
 rw [Nat.zero_add]
 by_cases e:i=k
 ·subst e
  rw [List.getElem?_set] at ha
  simp only [if_true] at ha
  split at ha
  ·cases ha;exact hy
  ·cases ha
 ·rw [List.getElem?_set_ne (Ne.symm e)] at ha
  have hat:=GV.els_get hE ha
  rw [Nat.zero_add] at hat
  obtain ⟨L,O,c0,c1,c2,c3,c4,hL,hO⟩:=GV.at_iff.1 hat
  have hn:∀ d,d<5→W'.cell? ⟨g,i * 5+d,none⟩=W.cell? ⟨g,i * 5+d,none⟩:=fun d hd=>hJ.near _ (by omega)
  have n0:=hn 0 (by omega)
  rw [Nat.add_zero] at n0
  exact GV.at_iff.2 ⟨L,O,n0.trans c0,(hn 1 (by omega)).trans c1,(hn 2 (by omega)).trans c2,(hn 3 (by omega)).trans c3,(hn 4 (by omega)).trans c4,hL.keep hF (fun k h _=>hok k h),hO.keep hF (fun k h _=>hok k h)⟩
theorem own_setO2 {ok ok':Nat→Prop} {B0:Nat} {W W':World} {ks:List ByteArray} {l:List GV} {xs:List Value} {g k c:Nat} {y:GV} (hr:RowO ok W ks l xs) (ho:W.ownsRow B0 59 6 (.slice (some ⟨g,0,none⟩) l.length c) l.length xs) (hne:¬ ok g) (hok:∀ k,ok k→ok' k) (hg':ok' g)
  (hJ:Just g (k * 6+1) 5 W W') (hy:y.at ok' W' g (k * 6+1)):ObjV ok' W' (.slice (some ⟨g,0,none⟩) l.length c) ks (l.set k y):=by
 rcases ho.2 with ⟨hn,_⟩ | ⟨g',cap,cur,he,hb,hg,h1,h2,h3,h4⟩
 ·cases hn
 cases he
 have hF:From ok W W':=hJ.from hne
 obtain ⟨cs',hw'⟩:=hJ.row _ _ (show Whole W g 59 cur from hg)
 have hlen:=hr.len
 have hE:=hr.els (b:=g) (off:=0) fun j u hj=>by
  have:=ho.cells (g:=g) rfl j u hj
  rwa [addr_add0] at this
 refine ⟨by rw [List.length_set];exact hlen,.inr ⟨g,0,c,by rw [List.length_set],by rw [List.length_set];exact h1,h2,hw'.kind hg',KeysAt.of fun i a ha=>?_,GV.els_of fun i a ha=>?_⟩⟩
 ·exact (hJ.near _ (by omega)).trans (hE.1.get ha)
 ·by_cases e:i=k
  ·subst e
   rw [List.getElem?_set] at ha
   simp only [if_true] at ha
   split at ha
   ·cases ha;rwa [show 0+1+i * 6=i * 6+1 by omega]
   ·cases ha
  ·rw [List.getElem?_set_ne (Ne.symm e)] at ha
   obtain ⟨L,O,c0,c1,c2,c3,c4,hL,hO⟩:=GV.at_iff.1 (GV.els_get hE.2 ha)
   have hn:∀ d,d<5→W'.cell? ⟨g,0+1+i * 6+d,none⟩=W.cell? ⟨g,0+1+i * 6+d,none⟩:=fun d hd=>hJ.near _ (by omega)
   have n0:=hn 0 (by omega)
   rw [Nat.add_zero] at n0
   exact GV.at_iff.2 ⟨L,O,n0.trans c0,(hn 1 (by omega)).trans c1,(hn 2 (by omega)).trans c2,(hn 3 (by omega)).trans c3,(hn 4 (by omega)).trans c4,hL.keep hF (fun k h _=>hok k h),hO.keep hF (fun k h _=>hok k h)⟩
theorem put_there2 {ok ok':Nat→Prop} {b off:Nat} {x:GV} {CL CO:Option Addr} {eL eO:Nat} {W:World} {z0 z1 z2 z3 z4:Value} (c0:W.cell? ⟨b,off,none⟩=some z0) (c1:W.cell? ⟨b,off+1,none⟩=some z1) (c2:W.cell? ⟨b,off+2,none⟩=some z2) (c3:W.cell? ⟨b,off+3,none⟩=some z3) (c4:W.cell? ⟨b,off+4,none⟩=some z4)
  (hb:¬ ok b) (hok:∀ k,ok k→ok' k) (hL:LstV ok W (.slice CL x.items.length eL) x.items) (hO:ObjV ok W (.slice CO x.vals.length eO) x.keys x.vals):
  x.at ok' (((((W.setCell ⟨b,off,none⟩ (.int .u8 x.kind)).setCell ⟨b,off+1,none⟩ (.int .i64 x.num)).setCell ⟨b,off+2,none⟩ (.string x.str)).setCell ⟨b,off+3,none⟩ (.slice CL x.items.length eL)).setCell ⟨b,off+4,none⟩ (.slice CO x.vals.length eO)) b off:=by
 have hJ:=just_put5 (b:=b) (off:=off) W (.int .u8 x.kind) (.int .i64 x.num) (.string x.str) (.slice CL x.items.length eL) (.slice CO x.vals.length eO)
 have hF:From ok W _:=hJ.from hb
 refine GV.at_iff.2 ⟨.slice CL x.items.length eL,.slice CO x.vals.length eO,?_,?_,?_,?_,?_,hL.keep hF (fun k h _=>hok k h),hO.keep hF (fun k h _=>hok k h)⟩
 ·rw [cell_far _ (by omega),cell_far _ (by omega),cell_far _ (by omega),cell_far _ (by omega)]
  exact World.cell?_setCell_same' _ _ _ (by rw [c0];rfl)
 ·rw [cell_far _ (by omega),cell_far _ (by omega),cell_far _ (by omega)]
  exact World.cell?_setCell_same' _ _ _ (by rw [cell_far _ (by omega),c1];rfl)
 ·rw [cell_far _ (by omega),cell_far _ (by omega)]
  exact World.cell?_setCell_same' _ _ _ (by rw [cell_far _ (by omega),cell_far _ (by omega),c2];rfl)
 ·rw [cell_far _ (by omega)]
  exact World.cell?_setCell_same' _ _ _ (by rw [cell_far _ (by omega),cell_far _ (by omega),cell_far _ (by omega),c3];rfl)
 ·exact World.cell?_setCell_same' _ _ _ (by rw [cell_far _ (by omega),cell_far _ (by omega),cell_far _ (by omega),cell_far _ (by omega),c4];rfl)
theorem rows_atL {lo:Nat} {l:List GV} {ks:List ByteArray} {ov:List GV} {W:World} {AL:Option Addr} {cL:Nat} {vO:Value} {xs ys:List Value} (h:CopyRows lo l ks ov W (.slice AL l.length cL) vO xs ys) {k:Nat} (hk:k<l.length):
  ∃ eb cs,AL=some ⟨eb,0,none⟩∧lo≤eb∧Whole W eb 31 cs∧l.length≤cL∧cL≤maxLen∧∃ u0 u1 u2 u3 u4,W.cell? ⟨eb,k * 5,none⟩=some u0∧W.cell? ⟨eb,k * 5+1,none⟩=some u1∧W.cell? ⟨eb,k * 5+2,none⟩=some u2∧W.cell? ⟨eb,k * 5+3,none⟩=some u3∧W.cell? ⟨eb,k * 5+4,none⟩=some u4:=by
 rcases h.ownL.2 with ⟨_,hn⟩ | ⟨g,cap,cur,he,hb,hg,h1,h2,h3,h4⟩
 ·omega
 ·cases he
  have hE:=h.rowL.els (b:=g) (off:=0) fun j u hj=>by
   have:=h.ownL.cells (g:=g) rfl j u hj
   rwa [addr_add0] at this
  have hat:=GV.els_get hE (List.getElem?_eq_getElem hk)
  rw [Nat.zero_add] at hat
  obtain ⟨L,O,c0,c1,c2,c3,c4,_⟩:=GV.at_iff.1 hat
  exact ⟨g,cur,rfl,hb,hg,h1,h2,_,_,_,_,_,c0,c1,c2,c3,c4⟩
theorem rows_atO {lo:Nat} {l:List GV} {ks:List ByteArray} {ov:List GV} {W:World} {AO:Option Addr} {cO:Nat} {vL:Value} {xs ys:List Value} (h:CopyRows lo l ks ov W vL (.slice AO ov.length cO) xs ys) {k:Nat} (hk:k<ov.length):
  ∃ eb cs,AO=some ⟨eb,0,none⟩∧lo≤eb∧Whole W eb 59 cs∧ov.length≤cO∧cO≤maxLen∧∃ u0 u1 u2 u3 u4,W.cell? ⟨eb,k * 6+1,none⟩=some u0∧W.cell? ⟨eb,k * 6+1+1,none⟩=some u1∧W.cell? ⟨eb,k * 6+1+2,none⟩=some u2∧W.cell? ⟨eb,k * 6+1+3,none⟩=some u3∧W.cell? ⟨eb,k * 6+1+4,none⟩=some u4:=by
 rcases h.ownO.2 with ⟨_,hn⟩ | ⟨g,cap,cur,he,hb,hg,h1,h2,h3,h4⟩
 ·omega
 ·cases he
  have hE:=h.rowO.els (b:=g) (off:=0) fun j u hj=>by
   have:=h.ownO.cells (g:=g) rfl j u hj
   rwa [addr_add0] at this
  have hat:=GV.els_get hE.2 (List.getElem?_eq_getElem hk)
  rw [show 0+1+k * 6=k * 6+1 by omega] at hat
  obtain ⟨L,O,c0,c1,c2,c3,c4,_⟩:=GV.at_iff.1 hat
  exact ⟨g,cur,rfl,hb,hg,h1,h2,_,_,_,_,_,c0,c1,c2,c3,c4⟩
end Go.Proofs.YtamlaknfakaanaaGreatDoor
