/- Texts in one: RtA, RtB, RqA, InvC, CompR. -/
import Derived.Test.YthmcfjmignlhfaaGreatDoorS21
import Derived.Test.YthmcfjmignlhfaaGreatDoorLaysU
import Derived.OwnWalk
import Derived.Test.YthmcfjmignlhfaaGreatDoorS15
import Derived.Test.YthmcfjmignlhfaaGreatDoorS14
import Derived.Test.YthmcfjmignlhfaaGreatDoorS10
import Derived.Test.YthmcfjmignlhfaaGreatDoorS9
import Derived.Test.YthmcfjmignlhfaaGreatDoorS12
import Derived.BigQuiet
import Derived.RegionTactic
import Derived.Deep.QuietTactic
import Derived.IntWalk
import Derived.Test.YthmcfjmignlhfaaGreatDoorS19
import Derived.Test.YthmcfjmignlhfaaGreatDoorS17
import Derived.Laws.BytesArg
set_option maxRecDepth 100000
set_option maxHeartbeats 8000000
namespace Go.Proofs.YthmcfjmignlhfaaGreatDoor
open Go.Lib(hid)
open Go Go.RowKit Go.Shelf
set_option linter.unusedVariables false
set_option linter.unusedSimpArgs false
theorem infoInt:(Tryz.prog.info? 3).map (fun i=>(i.zero,i.size,i.bytes))=some (some (.int .i64 0),1,8):=by kernel_rfl
theorem zf4 (s:ByteArray) (p:Nat) (w:World) (hp:p<s.size) (hT:Tabs w):Calls Tryz.prog 107 #[.string (s.extract p s.size)] w fun e w'=>∃ r:Int,e=.returned (.tuple #[.int .i32 r,.int .i64 (wdS s p)])/\Below w.heap.size w w':=
 (Tryz.utf8_DecodeRuneInString (s.extract p s.size) w hT).mono fun e w' ⟨he,hb⟩=>by
  have hz:(s.extract p s.size).size≠0:=by rw [zcq s p (by omega)];omega
  have hd:(Lib.decodeGo (s.extract p s.size)).2=wdS s p:=by
   have:=congrFun (ziR s p) 0;unfold wdS at this ⊢;simp only [Lib.decodeGo,hz,if_false]
   simpa using this
  rw [hd] at he;exact ⟨_,he,hb⟩
def intV (n:Nat):Value:=.int .i64 n
def CutsOut (s:ByteArray) (m:Nat) (w:World) (e:Ending) (w':World):Prop:=
 ∃ b c,e=.returned (.slice (some ⟨b,0,none⟩) (m+1) c)/\w.heap.size<=b/\b<w'.heap.size/\(∀ k,k<=m->w'.cell? ⟨b,k,none⟩=some (.int .i64 (cutS s k)))/\Below w.heap.size w w'
def CutsRel (w:World) (s:ByteArray) (m:Nat) (v i:Value) (wr:World):Prop:=∃ k:Nat,i=.int .i64 (cutS s k)/\k<=m/\wr.ownsRow w.heap.size 3 1 v k ((cutsL (wdS s) s.size k).map intV)/\Below w.heap.size w wr
theorem zjn {s:ByteArray} {m:Nat} {w w':World} {v:Value} (hown:w'.ownsRow w.heap.size 3 1 v (m+1) ((cutsL (wdS s) s.size m).map intV++[.int .i64 s.size])) (he:cutS s m=s.size) (hb:Below w.heap.size w w'):CutsOut s m w (.returned v) w':=by
 rcases hown.2 with ⟨e,hn⟩ | ⟨g,cap,cur,e,hg,_⟩
 ·simp at hn
 ·subst e
  have hlt:=(hown.lt g rfl);refine ⟨g,cap,rfl,hlt.1,hlt.2,fun k hk=>?_,hb⟩
  have:=hown.cells (g:=g) rfl k (.int .i64 (cutS s k)) (by
   rw [show (cutsL (wdS s) s.size m).map intV++[.int .i64 s.size]=(cutsL (wdS s) s.size (m+1)).map intV by rw [ze4,List.map_append,show cutAt (wdS s) s.size m=s.size from he];rfl,List.getElem?_map,zkl _ _ _ (by omega)]
   rfl)
  by_cases e:k=0<;>simpa [Addr.add,e] using this
theorem zjD (s:ByteArray) (w:World) (hs:s.size<=1000000000) (hT:Tabs w):
  Calls Tryz.prog 82 #[.string s] w (CutsOut s (nChars s) w):=by
 obtain ⟨hch,hle⟩:=zaJ s;have HC:=hid hch;have HT:=hid (fun W (hb:Below w.heap.size w W)=>hT.below hb (Nat.le_refl _))
 obtain ⟨i0,hi0,hz0,hz1,hz2⟩:=info_parts infoInt;have HI0:=hid (And.intro hi0 (And.intro hz0 (And.intro hz1 hz2)));clear hi0 hz0 hz1 hz2 hch hT;generalize hm:nChars s=m at *;clear hm;go_enter Tryz.func82,Tryz.ntmps82
 go_wp2
 go_loopw [3,4] (CutsRel w s m) (fun _ i _=>s.size - (intOf i).toNat)
 case atStart=>exact ⟨0,rfl,Nat.zero_le _,World.ownsRow_nil _ _ _ _,Below.refl _ _⟩
 case round=>
  obtain ⟨k,rfl,hk,hown,hB⟩:=hrel;obtain ⟨A,cp,rfl⟩:=zad hown;have HO:=hid hown;have HB:=hid hB;have hmax:k+1<=maxLen:=by unfold maxLen;omega
  have hby:(k+1) * 8<=140737488355328:=by omega
  have HM:=hid (And.intro hmax hby);clear hmax hby hown hB;by_cases hp:cutS s k<s.size
  ·have hkc:k<m:=(Chars.iff HC.out).1 hp
   have hnext:cutS s (k+1)=cutS s k+wdS s (cutS s k):=zdr hp;have hwd:=zbW s (cutS s k) hp;have HCS:=hid (show (cutsL (wdS s) s.size (k+1)).map intV=(cutsL (wdS s) s.size k).map intV++[.int .i64 (cutS s k)] by rw [ze4,List.map_append];rfl)
   have HN:=hid hnext;have HD:=hid (fun W (hb:Below w.heap.size w W)=>zf4 s (cutS s k) W hp (HT.out W hb))
   generalize cutS s k=p at *;generalize wdS s p=d at *;clear hnext
   go_wp2_with (first
    | (at_builtin;refine wpList_append_own_at _ rfl (.tmp 11) (.tmp 13) 117 rfl w.heap.size 3 i0 _ 1 8 Tryz.underlying117 HI0.out.1 HI0.out.2.1 HI0.out.2.2.1 HI0.out.2.2.2 rfl (by decide) (.slice A k cp) k _ rfl (HO.out.alloc _) ⟨wr.heap.size,0,none⟩ 1 1 [.int .i64 p] rfl rfl (row_cells' _ _ rfl _ _) (by simp [Value.oneCell']) HM.out.1 HM.out.2 (by have:=HB.out.size;simp;omega) ?_;intro v3 W3 hown3 hgrow3 _ hat3;obtain ⟨A3,c3,rfl⟩:=zad hown3;have H3:=hid (And.intro hown3 ((HB.out.alloc HB.out.size _).grown hgrow3 (by have:=HB.out.size;simp;omega) (fun j hj=>(HO.out.lt j hj).1)));clear hown3 hgrow3 hat3)
    | (go_at_call 107;refine (HD.out _ H3.out.2).mono ?_;rintro e w4 ⟨r,rfl,hb⟩;have H4:=hid (And.intro (zaB H3.out.1 hb) (H3.out.2.trans (hb.mono H3.out.2.size)));clear hb))
   go_roundw
   case rel=>exact ⟨k+1,by rw [HN.out];go_num,hkc,by rw [HCS.out];exact H4.out.1,H4.out.2⟩
   case measure=>simp [intOf];omega
  ·have hkc:k=m:=by
    have h1:¬ k<m:=fun h=>hp ((Chars.iff HC.out).2 h)
    omega
   have hend:cutS s k=s.size:=by have:=zbC s k;omega
   subst hkc;have HE:=hid hend;rw [hend];clear hp hend
   go_wp2_with (at_builtin;refine wpList_append_own_at _ rfl (.tmp 25) (.tmp 28) 117 rfl w.heap.size 3 i0 _ 1 8 Tryz.underlying117 HI0.out.1 HI0.out.2.1 HI0.out.2.2.1 HI0.out.2.2.2 rfl (by decide) (.slice A k cp) k _ rfl (HO.out.alloc _) ⟨wr.heap.size,0,none⟩ 1 1 [.int .i64 s.size] rfl rfl (row_cells' _ _ rfl _ _) (by simp [Value.oneCell']) HM.out.1 HM.out.2 (by have:=HB.out.size;simp;omega) ?_;intro v3 W3 hown3 hgrow3 _ hat3;have H3:=hid (zjn hown3 HE.out ((HB.out.alloc HB.out.size _).grown hgrow3 (by have:=HB.out.size;simp;omega) (fun j hj=>(HO.out.lt j hj).1)));obtain ⟨A3,c3,rfl⟩:=zad hown3;clear hown3 hgrow3 hat3)
   go_ret
   exact H3.out
theorem zkS (s:ByteArray) (w:World) (hs:s.size<=1000000000) (hT:Tabs w):
  Calls Tryz.prog 71 #[.string s] w fun e w'=>e=.returned (.int .i64 (nChars s))/\Below w.heap.size w w':=by
 have HL:=hid (zjD s w hs hT);have hle:=(zaJ s).2;generalize nChars s=m at *;go_enter Tryz.func71,Tryz.ntmps71
 go_wp2_with (go_at_call 82;refine HL.out.mono ?_;rintro e w1 ⟨b,c,rfl,_,_,_,hb⟩;have H1:=hid hb;clear hb)
 go_ret
 exact ⟨zdm (by omega),H1.out⟩
end Go.Proofs.YthmcfjmignlhfaaGreatDoor
namespace Go.Proofs.YthmcfjmignlhfaaGreatDoor
open Go.Lib(hid)
open Go Go.RowKit Go.Shelf
set_option linter.unusedVariables false
set_option linter.unusedSimpArgs false
theorem zee (s:ByteArray) (c:GC) (A AL AO:Option Addr) (cp cL cO:Nat) (w:World) (hs:s.size<=1000000000) (hT:Tabs w) (hk:c.kq=8\/c.kq=9):
  Calls Tryz.prog 81 #[.string s,.agg #[.int .u8 c.kq,.slice A c.path.length cp,.string c.key,.int .i64 c.i,.int .i64 c.j,.int .i64 c.n,.int .u8 c.v.kq,.int .i64 c.v.num,.string c.v.str,.slice AL c.v.il.length cL,.slice AO c.v.vz.length cO,.string c.s]] w fun e w'=>e=.returned (.int .i64 (chkT (nChars s) c.kq.toNat c.i c.n))/\Below w.heap.size w w':=by
 have HL:=hid (fun W (hb:Below w.heap.size w W)=>zkS s W hs (hT.below hb (Nat.le_refl _)))
 have hle:nChars s<=1000000000:=Nat.le_trans (zaJ s).2 hs;have H0:=hid (Whole.new w 48 #[.int .u8 c.kq,.slice A c.path.length cp,.string c.key,.int .i64 c.i,.int .i64 c.j,.int .i64 c.n,.int .u8 c.v.kq,.int .i64 c.v.num,.string c.v.str,.slice AL c.v.il.length cL,.slice AO c.v.vz.length cO,.string c.s]);have HB:=hid (zaa w (.cells #[.int .u8 c.kq,.slice A c.path.length cp,.string c.key,.int .i64 c.i,.int .i64 c.j,.int .i64 c.n,.int .u8 c.v.kq,.int .i64 c.v.num,.string c.v.str,.slice AL c.v.il.length cL,.slice AO c.v.vz.length cO,.string c.s] 48));clear hT;obtain ⟨c0,c1,c2,c3,c4,c5,c6,c7,c8,c9,c10,c11,_⟩:=H0.out.tw;rcases hk with hk | hk
 ·have hk8:(c.kq != 8)=false:=by simp;omega
  have hk9:(c.kq == 9)=false:=by simp;omega
  rw [show chkT (nChars s) c.kq.toNat c.i c.n=if c.i<0 then 32 else if (nChars s:Int)<c.i then 32 else 0 by unfold chkT;rw [show c.kq.toNat=8 by omega];simp;repeat' split;all_goals omega]
  clear hk;generalize nChars s=m at *;by_cases h0:c.i<0<;>by_cases h1:(m:Int)<c.i<;>first | (exfalso;omega) | (have K0:=hid h0;have K1:=hid h1;(go_enter Tryz.func81,Tryz.ntmps81;go_wp2_with (go_at_call 71;refine (HL.out _ HB.out).mono ?_;rintro e w1 ⟨rfl,hb⟩;have H1:=hid (H0.out.below hb (by simp));have HB1:=hid (HB.out.trans (hb.mono (by simp)));clear c0 c1 c2 c3 c4 c5 c6 c7 c8 c9 c10 c11;obtain ⟨c0,c1,c2,c3,c4,c5,c6,c7,c8,c9,c10,c11,_⟩:=H1.out.tw;clear hb);go_ret;exact ⟨by simp [K0.out,K1.out],HB1.out⟩))
 ·have hk8:(c.kq != 8)=true:=by simp;omega
  have hk9n:(c.kq != 9)=false:=by simp;omega
  have hk9:(c.kq == 9)=true:=by simp;omega
  rw [show chkT (nChars s) c.kq.toNat c.i c.n=if c.i<0 then 32 else if (nChars s:Int)<c.i then 32 else if c.n<1 then 32 else if (nChars s:Int) - c.i<c.n then 32 else 0 by unfold chkT;rw [show c.kq.toNat=9 by omega];simp;repeat' split;all_goals omega]
  clear hk;generalize nChars s=m at *;by_cases h0:c.i<0<;>by_cases h1:(m:Int)<c.i<;>by_cases h2:c.n<1<;>by_cases h3:(m:Int) - c.i<c.n<;>first | (exfalso;omega) | (have K0:=hid h0;have K1:=hid h1;have K2:=hid h2;have K3:=hid h3;(go_enter Tryz.func81,Tryz.ntmps81;go_wp2_with (go_at_call 71;refine (HL.out _ HB.out).mono ?_;rintro e w1 ⟨rfl,hb⟩;have H1:=hid (H0.out.below hb (by simp));have HB1:=hid (HB.out.trans (hb.mono (by simp)));clear c0 c1 c2 c3 c4 c5 c6 c7 c8 c9 c10 c11;obtain ⟨c0,c1,c2,c3,c4,c5,c6,c7,c8,c9,c10,c11,_⟩:=H1.out.tw;clear hb);go_ret;exact ⟨by simp [K0.out,K1.out,K2.out,K3.out],HB1.out⟩))
end Go.Proofs.YthmcfjmignlhfaaGreatDoor
namespace Go.Proofs.YthmcfjmignlhfaaGreatDoor
open Go.Lib(hid)
open Go Go.RowKit
set_option linter.unusedVariables false
set_option linter.unusedSimpArgs false
theorem zhD (k:Nat) (i j:Int) (g:GV) (A AL AO:Option Addr) (pl cp cL cO:Nat) (ky cs:ByteArray) (n:Int) (w:World):Calls Tryz.prog 108 #[.agg #[.int .u8 k,.slice A pl cp,.string ky,.int .i64 i,.int .i64 j,.int .i64 n,.int .u8 g.kq,.int .i64 g.num,.string g.str,.slice AL g.il.length cL,.slice AO g.vz.length cO,.string cs]] w fun e w'=>e=.returned (.bool (listK k))/\Below w.heap.size w w':=by
 rcases (show k=4\/k=5\/k=6\/k=7\/(k≠4/\k≠5/\k≠6/\k≠7) by omega) with rfl | rfl | rfl | rfl | ⟨h4,h5,h6,h7⟩
 case inr.inr.inr.inr=>
  rw [show listK k=false by simp [listK,h4,h5,h6,h7]]
  have g4:((k:Int) == 4)=false:=by simp;omega
  have g5:((k:Int) == 5)=false:=by simp;omega
  have g6:((k:Int) == 6)=false:=by simp;omega
  have g7:((k:Int) == 7)=false:=by simp;omega
  clear h4 h5 h6 h7;go_enter Tryz.func108,Tryz.ntmps108
  go_wp2
  go_ret
  exact ⟨rfl,zaa _ _⟩
 all_goals
  go_enter Tryz.func108,Tryz.ntmps108
  go_wp2
  go_ret
  exact ⟨rfl,zaa _ _⟩
theorem zb2 (M k:Nat) (i j:Int) (g:GV) (A AL AO:Option Addr) (pl cp cL cO:Nat) (ky cs:ByteArray) (n:Int) (w:World):Calls Tryz.prog 83 #[.int .i64 M,.agg #[.int .u8 k,.slice A pl cp,.string ky,.int .i64 i,.int .i64 j,.int .i64 n,.int .u8 g.kq,.int .i64 g.num,.string g.str,.slice AL g.il.length cL,.slice AO g.vz.length cO,.string cs]] w fun e w'=>e=.returned (.int .i64 (chk M k i j))/\Below w.heap.size w w':=by
 have H0:=hid (Whole.new w 48 #[.int .u8 k,.slice A pl cp,.string ky,.int .i64 i,.int .i64 j,.int .i64 n,.int .u8 g.kq,.int .i64 g.num,.string g.str,.slice AL g.il.length cL,.slice AO g.vz.length cO,.string cs]);have HB:=hid (zaa w (.cells #[.int .u8 k,.slice A pl cp,.string ky,.int .i64 i,.int .i64 j,.int .i64 n,.int .u8 g.kq,.int .i64 g.num,.string g.str,.slice AL g.il.length cL,.slice AO g.vz.length cO,.string cs] 48));have HKN:=hid (fun W=>zhD k i j g A AL AO pl cp cL cO ky cs n W)
 have hr:chk M k i j=if listK k=false then 31 else if (i<0\/(M:Int)<i)\/(i=M/\k≠4) then 32 else if k=7/\(j<0\/(M:Int)<=j) then 32 else 0:=by
  unfold chk withinB listK;by_cases h4:k=4
  ·subst h4;simp;split<;>split<;>omega
  ·by_cases h5:k=5
   ·subst h5;simp;split<;>split<;>omega
   ·by_cases h6:k=6
    ·subst h6;simp;split<;>split<;>omega
    ·by_cases h7:k=7
     ·subst h7;simp;(repeat' split)<;>omega
     ·simp [h4,h5,h6,h7]
 generalize chk M k i j=r at *;have HR:=hid hr;clear hr;have g4:((k:Int) != 4) = !decide (k=4):=by by_cases h:k=4<;>simp [h];omega
 have g7:((k:Int) == 7)=decide (k=7):=by by_cases h:k=7<;>simp [h];omega
 have G4:=hid g4;have G7:=hid g7;clear g4 g7;cases hl:listK k
 ·have h:=HR.out
  rw [if_pos hl] at h;subst h;rw [hl] at HKN;clear HR hl;go_enter Tryz.func83,Tryz.ntmps83
  go_wp2_with (go_at_call 108;refine (HKN.out _).mono ?_;rintro e w1 ⟨rfl,hb⟩;have B1:=hid (HB.out.trans (hb.mono HB.out.size));clear hb)
  go_ret
  exact ⟨rfl,B1.out⟩
 ·have h:=HR.out
  rw [if_neg (by simp [hl])] at h
  rw [hl] at HKN;clear HR hl;by_cases c1:(i<0\/(M:Int)<i)\/(i=M/\k≠4)
  ·rw [if_pos c1] at h
   subst h;rcases c1 with (c1 | c1) | ⟨c1,c2⟩
   ·have e1:decide (i<0)=true:=by simpa using c1
    go_enter Tryz.func83,Tryz.ntmps83
    go_wp2_with (go_at_call 108;refine (HKN.out _).mono ?_;rintro e w1 ⟨rfl,hb⟩;have H1:=hid (H0.out.below hb H0.out.lt);have B1:=hid (HB.out.trans (hb.mono HB.out.size));have q0:=H1.out.tw.c0;have q3:=H1.out.tw.c3;have q4:=H1.out.tw.c4;clear hb)
    go_ret
    exact ⟨rfl,B1.out⟩
   ·have e1:decide (i<0)=false:=by simp;omega
    have e2:decide ((M:Int)<i)=true:=by simpa using c1
    go_enter Tryz.func83,Tryz.ntmps83
    go_wp2_with (go_at_call 108;refine (HKN.out _).mono ?_;rintro e w1 ⟨rfl,hb⟩;have H1:=hid (H0.out.below hb H0.out.lt);have B1:=hid (HB.out.trans (hb.mono HB.out.size));have q0:=H1.out.tw.c0;have q3:=H1.out.tw.c3;have q4:=H1.out.tw.c4;clear hb)
    go_ret
    exact ⟨rfl,B1.out⟩
   ·have g4:((k:Int) != 4)=true:=by rw [G4.out];simpa using c2
    have e1:decide (i<0)=false:=by simp;omega
    have e2:decide ((M:Int)<i)=false:=by simp;omega
    have e3:(i == (M:Int))=true:=by simpa using c1
    clear c1 c2;go_enter Tryz.func83,Tryz.ntmps83
    go_wp2_with (go_at_call 108;refine (HKN.out _).mono ?_;rintro e w1 ⟨rfl,hb⟩;have H1:=hid (H0.out.below hb H0.out.lt);have B1:=hid (HB.out.trans (hb.mono HB.out.size));have q0:=H1.out.tw.c0;have q3:=H1.out.tw.c3;have q4:=H1.out.tw.c4;clear hb)
    go_ret
    exact ⟨rfl,B1.out⟩
  ·rw [if_neg c1] at h
   have e1:decide (i<0)=false:=by simp;omega
   have e2:decide ((M:Int)<i)=false:=by simp;omega
   by_cases im:i=M
   ·have hk:k=4:=by omega
    have g4:((k:Int) != 4)=false:=by rw [G4.out];simpa using hk
    have g7:((k:Int) == 7)=false:=by rw [G7.out];simp;omega
    have e3:(i == (M:Int))=true:=by simpa using im
    rw [if_neg (by omega)] at h
    subst h;clear im hk c1;go_enter Tryz.func83,Tryz.ntmps83
    go_wp2_with (go_at_call 108;refine (HKN.out _).mono ?_;rintro e w1 ⟨rfl,hb⟩;have H1:=hid (H0.out.below hb H0.out.lt);have B1:=hid (HB.out.trans (hb.mono HB.out.size));have q0:=H1.out.tw.c0;have q3:=H1.out.tw.c3;have q4:=H1.out.tw.c4;clear hb)
    go_ret
    exact ⟨rfl,B1.out⟩
   ·have e3:(i == (M:Int))=false:=by simpa using im
    clear im c1;by_cases k7:k=7
    ·have g7:((k:Int) == 7)=true:=by rw [G7.out];simpa using k7
     by_cases j0:j<0
     ·have e4:decide (j<0)=true:=by simpa using j0
      rw [if_pos ⟨k7,.inl j0⟩] at h;subst h;clear k7 j0;go_enter Tryz.func83,Tryz.ntmps83
      go_wp2_with (go_at_call 108;refine (HKN.out _).mono ?_;rintro e w1 ⟨rfl,hb⟩;have H1:=hid (H0.out.below hb H0.out.lt);have B1:=hid (HB.out.trans (hb.mono HB.out.size));have q0:=H1.out.tw.c0;have q3:=H1.out.tw.c3;have q4:=H1.out.tw.c4;clear hb)
      go_ret
      exact ⟨rfl,B1.out⟩
     ·have e4:decide (j<0)=false:=by simp;omega
      by_cases j1:(M:Int)<=j
      ·have e5:decide ((M:Int)<=j)=true:=by simpa using j1
       rw [if_pos ⟨k7,.inr j1⟩] at h;subst h;clear k7 j0 j1;go_enter Tryz.func83,Tryz.ntmps83
       go_wp2_with (go_at_call 108;refine (HKN.out _).mono ?_;rintro e w1 ⟨rfl,hb⟩;have H1:=hid (H0.out.below hb H0.out.lt);have B1:=hid (HB.out.trans (hb.mono HB.out.size));have q0:=H1.out.tw.c0;have q3:=H1.out.tw.c3;have q4:=H1.out.tw.c4;clear hb)
       go_ret
       exact ⟨rfl,B1.out⟩
      ·have e5:decide ((M:Int)<=j)=false:=by simp;omega
       rw [if_neg (by omega)] at h
       subst h;clear k7 j0 j1;go_enter Tryz.func83,Tryz.ntmps83
       go_wp2_with (go_at_call 108;refine (HKN.out _).mono ?_;rintro e w1 ⟨rfl,hb⟩;have H1:=hid (H0.out.below hb H0.out.lt);have B1:=hid (HB.out.trans (hb.mono HB.out.size));have q0:=H1.out.tw.c0;have q3:=H1.out.tw.c3;have q4:=H1.out.tw.c4;clear hb)
       go_ret
       exact ⟨rfl,B1.out⟩
    ·have g7:((k:Int) == 7)=false:=by rw [G7.out];simpa using k7
     rw [if_neg (by omega)] at h
     subst h;clear k7;go_enter Tryz.func83,Tryz.ntmps83
     go_wp2_with (go_at_call 108;refine (HKN.out _).mono ?_;rintro e w1 ⟨rfl,hb⟩;have H1:=hid (H0.out.below hb H0.out.lt);have B1:=hid (HB.out.trans (hb.mono HB.out.size));have q0:=H1.out.tw.c0;have q3:=H1.out.tw.c3;have q4:=H1.out.tw.c4;clear hb)
     go_ret
     exact ⟨rfl,B1.out⟩
end Go.Proofs.YthmcfjmignlhfaaGreatDoor
namespace Go.Proofs.YthmcfjmignlhfaaGreatDoor
open Go.Lib(hid)
open Go Go.RowKit Go.Shelf
set_option linter.unusedVariables false
set_option linter.unusedSimpArgs false
def CcNew (n:Nat) (W:World) (c:GC) (B AL AO:Option Addr) (cp cL cO:Nat):Prop:=Wy W B cp c.path/\(∀ p,B=some p->n<=p.block)/\VlNew n W c.v AL AO cL cO
theorem CcNew.cc {n W c B AL AO cp cL cO} (h:CcNew n W c B AL AO cp cL cO):Cc W c B AL AO cp cL cO:=⟨h.1,⟨h.2.2.1.keep (From.refl _ _) (fun _ _ _=>trivial),h.2.2.2.keep (From.refl _ _) (fun _ _ _=>trivial)⟩⟩
theorem CcNew.kp {n m:Nat} {W W' c B AL AO cp cL cO} (h:CcNew n W c B AL AO cp cL cO) (hm:m<=n) (hk:Kp n W W'):CcNew m W' c B AL AO cp cL cO:=
 ⟨h.1.kp h.2.1 hk,fun p hp=>Nat.le_trans hm (h.2.1 p hp),h.2.2.1.keep (fun k h1 h2=>hk.2 k h1 h2) (fun k h1 h2=>by omega),h.2.2.2.keep (fun k h1 h2=>hk.2 k h1 h2) (fun k h1 h2=>by omega)⟩
def SameNw (c:GC) (w:World) (e:Ending) (w':World):Prop:=∃ B AL AO cp cL cO,e=.returned (.agg #[.int .u8 c.kq,.slice B c.path.length cp,.string c.key,.int .i64 c.i,.int .i64 c.j,.int .i64 c.n,.int .u8 c.v.kq,.int .i64 c.v.num,.string c.v.str,.slice AL c.v.il.length cL,.slice AO c.v.vz.length cO,.string c.s])/\CcNew w.heap.size w' c B AL AO cp cL cO/\Below w.heap.size w w'
theorem zgI {W A cp ps} (h:Wy W A cp ps):(A=none->ps.length=0)/\∀ ad,A=some ad->∀ (j:Nat) (u:Value),(cellsP ps)[j]? = some u->ad.block<W.heap.size/\W.cell? (ad.add j)=some u:=by
 refine ⟨fun e=>?_,fun a e j u hj=>?_⟩
 ·by_cases hne:ps=[]
  ·rw [hne];rfl
  ·obtain ⟨a,e',_⟩:=h.steps hne
   rw [e] at e';cases e'
 ·have hne:ps≠[]:=by intro e;rw [e] at hj;simp [cellsP] at hj
  obtain ⟨⟨b,o,sp⟩,e',hs,hlt,hc⟩:=h.steps hne;rw [e] at e';cases e'
  simp only at hs;subst hs;have:=zca hc j u hj;have e:(⟨b,o,none⟩:Addr).add j =⟨b,o+j,none⟩:=by unfold Addr.add;split<;>simp_all
  rw [e];exact ⟨hlt,this⟩
end Go.Proofs.YthmcfjmignlhfaaGreatDoor
namespace Go.Proofs.YthmcfjmignlhfaaGreatDoor
open Go.Lib(hid)
open Go Go.RowKit
set_option linter.unusedVariables false
set_option linter.unusedSimpArgs false
theorem zgg {ps qs:List GStep} (h:ps.length=qs.length):begins ps qs=samePB ps qs:=by
 unfold begins samePB;rw [<- h,List.take_length];simp
theorem ziA {w A B c d ps qs} (hP:Wy w A c ps) (hQ:Wy w B d qs):
  Calls Tryz.prog 46 #[.slice A ps.length c,.slice B qs.length d] w fun e w'=>e=.returned (.bool (samePB ps qs))/\Below w.heap.size w w':=by
 by_cases h:ps.length=qs.length
 ·have HB:=hid (zhu w.heap.size A B c d ps qs w hP.steps hQ.steps (Nat.le_refl _) (Nat.le_trans hP.le hP.cap) (Nat.le_trans hQ.le hQ.cap))
  rw [zgg h] at HB;have hz:(((ps.length:Int)) == (qs.length:Int))=true:=by simp [h]
  clear h hP hQ;generalize samePB ps qs=r at *;generalize ps.length=n at *;generalize qs.length=m at *;go_enter Tryz.func46,Tryz.ntmps46
  go_wp2_with (go_at_call 80;refine HB.out.mono ?_;rintro e w1 ⟨rfl,hb⟩;have H1:=hid hb;clear hb)
  go_ret
  exact ⟨rfl,H1.out⟩
 ·have hr:samePB ps qs=false:=by simp [samePB,h]
  rw [hr];have hz:(((ps.length:Int)) == (qs.length:Int))=false:=by simp;omega
  clear h hP hQ hr;generalize ps.length=n at *;generalize qs.length=m at *;go_enter Tryz.func46,Tryz.ntmps46
  go_wp2
  go_ret
  exact ⟨rfl,Below.refl _ _⟩
theorem ziz (a b A AL AO A' AL' AO' cp cL cO cp' cL' cO' w) (ha:Cc w a A AL AO cp cL cO) (hb:Cc w b A' AL' AO' cp' cL' cO') (hwa:a.v.weight<=1000000000) (hwb:b.v.weight<=1000000000):
  Calls Tryz.prog 21 #[.agg #[.int .u8 a.kq,.slice A a.path.length cp,.string a.key,.int .i64 a.i,.int .i64 a.j,.int .i64 a.n,.int .u8 a.v.kq,.int .i64 a.v.num,.string a.v.str,.slice AL a.v.il.length cL,.slice AO a.v.vz.length cO,.string a.s],.agg #[.int .u8 b.kq,.slice A' b.path.length cp',.string b.key,.int .i64 b.i,.int .i64 b.j,.int .i64 b.n,.int .u8 b.v.kq,.int .i64 b.v.num,.string b.v.str,.slice AL' b.v.il.length cL',.slice AO' b.v.vz.length cO',.string b.s]] w (EqPost (a.Same b) w):=by
 have H0:=hid (CTwo.new w #[.int .u8 a.kq,.slice A a.path.length cp,.string a.key,.int .i64 a.i,.int .i64 a.j,.int .i64 a.n,.int .u8 a.v.kq,.int .i64 a.v.num,.string a.v.str,.slice AL a.v.il.length cL,.slice AO a.v.vz.length cO,.string a.s] #[.int .u8 b.kq,.slice A' b.path.length cp',.string b.key,.int .i64 b.i,.int .i64 b.j,.int .i64 b.n,.int .u8 b.v.kq,.int .i64 b.v.num,.string b.v.str,.slice AL' b.v.il.length cL',.slice AO' b.v.vz.length cO',.string b.s]);obtain ⟨bq,hbq⟩:=zaq (a.v.Same b.v);have HSS:Hid (a.Same b↔a.kq=b.kq/\a.key.toList=b.key.toList/\a.i=b.i/\a.j=b.j/\a.n=b.n/\a.s.toList=b.s.toList/\samePB a.path b.path=true/\bq=true):=hid (by rw [hbq];exact Iff.rfl)
 have HE:=hid (fun W (h:Below w.heap.size w W)=>ziA (ha.path.later h) (hb.path.later h))
 have HV:=hid (fun W (h:Below w.heap.size w W)=>zau (za1 a.v.size (fun _=>True) _ _ a.v b.v W (Nat.le_refl _) (ha.v.later h).val (hb.v.later h).val (Nat.le_trans (zac _) hwa) (Nat.le_trans (zac _) hwb)) bq hbq)
 clear ha hb hwa hwb hbq;generalize a.Same b=SS at *;generalize samePB a.path b.path=sp at *;generalize a.kq=ak at *;generalize a.path.length=ap at *;generalize a.key=aY at *;generalize a.i=ai at *;generalize a.j=aj at *;generalize a.n=an at *;generalize a.v.kq=avk at *;generalize a.v.num=avn at *;generalize a.v.str=avs at *;generalize a.v.il.length=avl at *;generalize a.v.vz.length=avo at *;generalize a.s=aS at *;generalize b.kq=bk at *;generalize b.path.length=bp at *;generalize b.key=bY at *;generalize b.i=bi at *;generalize b.j=bj at *;generalize b.n=bn at *;generalize b.v.kq=bvk at *;generalize b.v.num=bvn at *;generalize b.v.str=bvs at *;generalize b.v.il.length=bvl at *;generalize b.v.vz.length=bvo at *;generalize b.s=bS at *;by_cases q0:ak=bk
 ·subst q0
  by_cases q1:aY.toList=bY.toList
  ·have z1:(aY.toList == bY.toList)=true:=by simp [q1]
   have Q1:=hid q1;clear q1;by_cases q2:ai=bi
   ·subst q2
    by_cases q3:aj=bj
    ·subst q3
     by_cases q4:an=bn
     ·subst q4
      by_cases q5:aS.toList=bS.toList
      ·have z5:(aS.toList == bS.toList)=true:=by simp [q5]
       have Q5:=hid q5;clear q5;cases bq with
       | true=>
        go_enter Tryz.func21,Tryz.ntmps21
        go_wp2_with (first
         | (go_at_call 16;refine (HV.out _ H0.out.below).mono ?_;rintro e w1 ⟨rfl,hb1⟩;have H1:=hid (H0.out.step hb1);obtain ⟨a0,a1,a2,a3,a4,a5,a6,a7,a8,a9,a10,a11,_⟩:=H1.out.a.tw;obtain ⟨e0,e1,e2,e3,e4,e5,e6,e7,e8,e9,e10,e11,_⟩:=H1.out.b.tw;clear hb1)
         | (go_at_call 46;refine (HE.out _ H1.out.below).mono ?_;rintro e w2 ⟨rfl,hb2⟩;have H2:=hid (H1.out.step hb2);clear hb2))
        go_ret
        exact ⟨sp,rfl,by rw [HSS.out];simp [Q1.out,Q5.out],H2.out.below⟩
       | false=>
        go_enter Tryz.func21,Tryz.ntmps21
        go_wp2_with (first
         | (go_at_call 16;refine (HV.out _ H0.out.below).mono ?_;rintro e w1 ⟨rfl,hb1⟩;have H1:=hid (H0.out.step hb1);obtain ⟨a0,a1,a2,a3,a4,a5,a6,a7,a8,a9,a10,a11,_⟩:=H1.out.a.tw;obtain ⟨e0,e1,e2,e3,e4,e5,e6,e7,e8,e9,e10,e11,_⟩:=H1.out.b.tw;clear hb1)
         | (go_at_call 46;refine (HE.out _ H1.out.below).mono ?_;rintro e w2 ⟨rfl,hb2⟩;have H2:=hid (H1.out.step hb2);clear hb2))
        go_ret
        exact ⟨false,rfl,by rw [HSS.out];simp,H1.out.below⟩
      ·have z5:(aS.toList == bS.toList)=false:=by simpa using q5
       have HN:=hid (show ¬ SS from fun hs=>q5 (by have h:=HSS.out.1 hs;exact h.2.2.2.2.2.1))
       clear q5;go_enter Tryz.func21,Tryz.ntmps21
       go_wp2_with (first
        | (go_at_call 16;refine (HV.out _ H0.out.below).mono ?_;rintro e w1 ⟨rfl,hb1⟩;have H1:=hid (H0.out.step hb1);obtain ⟨a0,a1,a2,a3,a4,a5,a6,a7,a8,a9,a10,a11,_⟩:=H1.out.a.tw;obtain ⟨e0,e1,e2,e3,e4,e5,e6,e7,e8,e9,e10,e11,_⟩:=H1.out.b.tw;clear hb1)
        | (go_at_call 46;refine (HE.out _ H1.out.below).mono ?_;rintro e w2 ⟨rfl,hb2⟩;have H2:=hid (H1.out.step hb2);clear hb2))
       go_ret
       exact ⟨false,rfl,⟨(fun h=>by cases h),fun h=>absurd h HN.out⟩,H0.out.below⟩
     ·have z4:(an == bn)=false:=by simpa using q4
      have HN:=hid (show ¬ SS from fun hs=>q4 (by have h:=HSS.out.1 hs;exact h.2.2.2.2.1))
      clear q4;go_enter Tryz.func21,Tryz.ntmps21
      go_wp2_with (first
       | (go_at_call 16;refine (HV.out _ H0.out.below).mono ?_;rintro e w1 ⟨rfl,hb1⟩;have H1:=hid (H0.out.step hb1);obtain ⟨a0,a1,a2,a3,a4,a5,a6,a7,a8,a9,a10,a11,_⟩:=H1.out.a.tw;obtain ⟨e0,e1,e2,e3,e4,e5,e6,e7,e8,e9,e10,e11,_⟩:=H1.out.b.tw;clear hb1)
       | (go_at_call 46;refine (HE.out _ H1.out.below).mono ?_;rintro e w2 ⟨rfl,hb2⟩;have H2:=hid (H1.out.step hb2);clear hb2))
      go_ret
      exact ⟨false,rfl,⟨(fun h=>by cases h),fun h=>absurd h HN.out⟩,H0.out.below⟩
    ·have z3:(aj == bj)=false:=by simpa using q3
     have HN:=hid (show ¬ SS from fun hs=>q3 (by have h:=HSS.out.1 hs;exact h.2.2.2.1))
     clear q3;go_enter Tryz.func21,Tryz.ntmps21
     go_wp2_with (first
      | (go_at_call 16;refine (HV.out _ H0.out.below).mono ?_;rintro e w1 ⟨rfl,hb1⟩;have H1:=hid (H0.out.step hb1);obtain ⟨a0,a1,a2,a3,a4,a5,a6,a7,a8,a9,a10,a11,_⟩:=H1.out.a.tw;obtain ⟨e0,e1,e2,e3,e4,e5,e6,e7,e8,e9,e10,e11,_⟩:=H1.out.b.tw;clear hb1)
      | (go_at_call 46;refine (HE.out _ H1.out.below).mono ?_;rintro e w2 ⟨rfl,hb2⟩;have H2:=hid (H1.out.step hb2);clear hb2))
     go_ret
     exact ⟨false,rfl,⟨(fun h=>by cases h),fun h=>absurd h HN.out⟩,H0.out.below⟩
   ·have z2:(ai == bi)=false:=by simpa using q2
    have HN:=hid (show ¬ SS from fun hs=>q2 (by have h:=HSS.out.1 hs;exact h.2.2.1))
    clear q2;go_enter Tryz.func21,Tryz.ntmps21
    go_wp2_with (first
     | (go_at_call 16;refine (HV.out _ H0.out.below).mono ?_;rintro e w1 ⟨rfl,hb1⟩;have H1:=hid (H0.out.step hb1);obtain ⟨a0,a1,a2,a3,a4,a5,a6,a7,a8,a9,a10,a11,_⟩:=H1.out.a.tw;obtain ⟨e0,e1,e2,e3,e4,e5,e6,e7,e8,e9,e10,e11,_⟩:=H1.out.b.tw;clear hb1)
     | (go_at_call 46;refine (HE.out _ H1.out.below).mono ?_;rintro e w2 ⟨rfl,hb2⟩;have H2:=hid (H1.out.step hb2);clear hb2))
    go_ret
    exact ⟨false,rfl,⟨(fun h=>by cases h),fun h=>absurd h HN.out⟩,H0.out.below⟩
  ·have z1:(aY.toList == bY.toList)=false:=by simpa using q1
   have HN:=hid (show ¬ SS from fun hs=>q1 (by have h:=HSS.out.1 hs;exact h.2.1))
   clear q1;go_enter Tryz.func21,Tryz.ntmps21
   go_wp2_with (first
    | (go_at_call 16;refine (HV.out _ H0.out.below).mono ?_;rintro e w1 ⟨rfl,hb1⟩;have H1:=hid (H0.out.step hb1);obtain ⟨a0,a1,a2,a3,a4,a5,a6,a7,a8,a9,a10,a11,_⟩:=H1.out.a.tw;obtain ⟨e0,e1,e2,e3,e4,e5,e6,e7,e8,e9,e10,e11,_⟩:=H1.out.b.tw;clear hb1)
    | (go_at_call 46;refine (HE.out _ H1.out.below).mono ?_;rintro e w2 ⟨rfl,hb2⟩;have H2:=hid (H1.out.step hb2);clear hb2))
   go_ret
   exact ⟨false,rfl,⟨(fun h=>by cases h),fun h=>absurd h HN.out⟩,H0.out.below⟩
 ·have z0:(ak == bk)=false:=by simpa using q0
  have HN:=hid (show ¬ SS from fun hs=>q0 (by have h:=HSS.out.1 hs;exact h.1))
  clear q0;go_enter Tryz.func21,Tryz.ntmps21
  go_wp2_with (first
   | (go_at_call 16;refine (HV.out _ H0.out.below).mono ?_;rintro e w1 ⟨rfl,hb1⟩;have H1:=hid (H0.out.step hb1);obtain ⟨a0,a1,a2,a3,a4,a5,a6,a7,a8,a9,a10,a11,_⟩:=H1.out.a.tw;obtain ⟨e0,e1,e2,e3,e4,e5,e6,e7,e8,e9,e10,e11,_⟩:=H1.out.b.tw;clear hb1)
   | (go_at_call 46;refine (HE.out _ H1.out.below).mono ?_;rintro e w2 ⟨rfl,hb2⟩;have H2:=hid (H1.out.step hb2);clear hb2))
  go_ret
  exact ⟨false,rfl,⟨(fun h=>by cases h),fun h=>absurd h HN.out⟩,H0.out.below⟩
def saysB (k:Int):ByteArray:=if k=1 then ⟨#[78]⟩ else if k=2 then ⟨#[75,86]⟩ else if k=3 then ⟨#[75]⟩ else if k=4 then ⟨#[73,86]⟩ else if k=5 then ⟨#[73]⟩ else if k=6 then ⟨#[73,86]⟩ else if k=7 then ⟨#[73,74]⟩ else if k=8 then ⟨#[73,83]⟩ else if k=9 then ⟨#[73,78]⟩ else ⟨#[]⟩
theorem za3 (k:Int) (w:World):Calls Tryz.prog 73 #[.int .u8 k] w fun e w'=>e=.returned (.string (saysB k))/\w'=w:=by
 by_cases hk:1<=k/\k<=9
 ·obtain ⟨h1,h9⟩:=hk
  rcases (show k=1\/k=2\/k=3\/k=4\/k=5\/k=6\/k=7\/k=8\/k=9 by omega) with rfl | rfl | rfl | rfl | rfl | rfl | rfl | rfl | rfl
  all_goals
   go_enter Tryz.func73,Tryz.ntmps73
   go_wp2
   go_ret
   exact ⟨rfl,rfl⟩
 ·have hs:saysB k =⟨#[]⟩:=by unfold saysB;simp only [show ¬ k=1 by omega,show ¬ k=2 by omega,show ¬ k=3 by omega,show ¬ k=4 by omega,show ¬ k=5 by omega,show ¬ k=6 by omega,show ¬ k=7 by omega,show ¬ k=8 by omega,show ¬ k=9 by omega,if_false]
  rw [hs];have g1:(k == 1)=false:=by simp;omega
  have g2:(k == 2)=false:=by simp;omega
  have g3:(k == 3)=false:=by simp;omega
  have g4:(k == 4)=false:=by simp;omega
  have g5:(k == 5)=false:=by simp;omega
  have g6:(k == 6)=false:=by simp;omega
  have g7:(k == 7)=false:=by simp;omega
  have g8:(k == 8)=false:=by simp;omega
  have g9:(k == 9)=false:=by simp;omega
  clear hk hs;go_enter Tryz.func73,Tryz.ntmps73
  go_wp2
  go_ret
  exact ⟨rfl,rfl⟩
def inB (s:ByteArray) (c:Int):Bool:=s.data.toList.any fun b=>decide ((b.toNat:Int)=c)
def InRel (s:ByteArray) (c:Int) (w:World) (i:Value) (wr:World):Prop:=∃ k:Nat,i=.int .i64 k/\k<=s.size/\(∀ b∈s.data.toList.take k,(b.toNat:Int)≠c)/\wr=w
theorem zan (s:ByteArray) (c:Int) (w:World) (hs:s.size<=1000):Calls Tryz.prog 75 #[.string s,.int .u8 c] w fun e w'=>e=.returned (.bool (inB s c))/\w'=w:=by
 go_enter Tryz.func75,Tryz.ntmps75
 go_wp2
 go_loopw [5] (InRel s c w) (fun i _=>s.size - (intOf i).toNat)
 case atStart=>exact ⟨0,rfl,Nat.zero_le _,by simp,rfl⟩
 case round=>
  obtain ⟨k,rfl,hk,hno,rfl⟩:=hrel;by_cases hlt:k<s.size
  ·have hl2:k<s.data.toList.length:=by simpa using hlt
   have hb:s.data.toList[k]=s[k]:=by simp;rfl
   have HNO:=hid hno;have HT:=hid (show s.data.toList.take (k+1)=s.data.toList.take k++[s[k]] by rw [List.take_succ_eq_append_getElem hl2,hb])
   have HM:=hid (show s[k]∈s.data.toList by rw [<- hb];exact List.getElem_mem hl2)
   clear hno hb;by_cases hc:((s[k].toNat:Int))=c
   ·have HC:=hid hc
    have hz:((s[k].toNat:Int) == c)=true:=by simpa using hc
    clear hc;go_wp2
    go_ret
    exact ⟨by rw [show inB s c=true from List.any_eq_true.2 ⟨_,HM.out,by simpa using HC.out⟩]<;>rfl,rfl⟩
   ·have HC:=hid hc
    have hz:((s[k].toNat:Int) == c)=false:=by simpa using hc
    clear hc;go_wp2
    go_roundw
    case rel=>exact ⟨k+1,by go_num,by omega,by rw [HT.out];intro b hb;rcases List.mem_append.1 hb with hb | hb;exact HNO.out b hb;simp only [List.mem_singleton] at hb;subst hb;exact HC.out,rfl⟩
    case measure=>simp [intOf];omega
  ·have hk':k=s.size:=by omega
   have HF:=hid (show inB s c=false by
    unfold inB;rw [List.any_eq_false];intro b hb;have:=hno b (by rw [List.take_of_length_le (by simp;omega)];exact hb)
    simpa using this)
   clear hno;go_wp2
   go_ret
   exact ⟨by rw [HF.out]<;>rfl,rfl⟩
end Go.Proofs.YthmcfjmignlhfaaGreatDoor
