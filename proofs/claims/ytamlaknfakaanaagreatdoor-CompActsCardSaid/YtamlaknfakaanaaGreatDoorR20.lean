/- The document's own Check and Do, of lists of any values. -/
import Derived.Test.YtamlaknfakaanaaGreatDoorR19
import Derived.Test.YtamlaknfakaanaaGreatDoorR17
set_option maxRecDepth 100000
set_option maxHeartbeats 8000000
namespace Go.Proofs.YtamlaknfakaanaaGreatDoor
open Go Go.RowKit
set_option linter.unusedVariables false
set_option linter.unusedSimpArgs false
theorem gknown_any (k:Nat) (i j:Int) (g:GV) (A AL AO:Option Addr) (pl cp cL cO:Nat) (ky cs:ByteArray) (n:Int) (w:World):Calls Tryz.prog 93 #[.agg #[.int .u8 k,.slice A pl cp,.string ky,.int .i64 i,.int .i64 j,.int .i64 n,.int .u8 g.kind,.int .i64 g.num,.string g.str,.slice AL g.items.length cL,.slice AO g.vals.length cO,.string cs]] w fun e w'=>e=.returned (.bool (listK k))∧Below w.heap.size w w':=by
 rcases (show k=4∨k=5∨k=6∨k=7∨(k≠4∧k≠5∧k≠6∧k≠7) by omega) with rfl | rfl | rfl | rfl | ⟨h4,h5,h6,h7⟩
 case inr.inr.inr.inr=>
  rw [show listK k=false by simp [listK,h4,h5,h6,h7]]
  have g4:((k:Int) == 4)=false:=by simp;omega
  have g5:((k:Int) == 5)=false:=by simp;omega
  have g6:((k:Int) == 6)=false:=by simp;omega
  have g7:((k:Int) == 7)=false:=by simp;omega
  clear h4 h5 h6 h7
  go_enter Tryz.func93,Tryz.ntmps93
  go_wp2
  go_ret
  exact ⟨rfl,below_alloc _ _⟩
 all_goals
  go_enter Tryz.func93,Tryz.ntmps93
  go_wp2
  go_ret
  exact ⟨rfl,below_alloc _ _⟩
theorem gcheck_any (M k:Nat) (i j:Int) (g:GV) (A AL AO:Option Addr) (pl cp cL cO:Nat) (ky cs:ByteArray) (n:Int) (w:World):Calls Tryz.prog 55 #[.int .i64 M,.agg #[.int .u8 k,.slice A pl cp,.string ky,.int .i64 i,.int .i64 j,.int .i64 n,.int .u8 g.kind,.int .i64 g.num,.string g.str,.slice AL g.items.length cL,.slice AO g.vals.length cO,.string cs]] w fun e w'=>e=.returned (.int .i64 (chk M k i j))∧Below w.heap.size w w':=by
 have H0:=Lib.hid (Whole.new w 35 #[.int .u8 k,.slice A pl cp,.string ky,.int .i64 i,.int .i64 j,.int .i64 n,.int .u8 g.kind,.int .i64 g.num,.string g.str,.slice AL g.items.length cL,.slice AO g.vals.length cO,.string cs])
 have HB:=Lib.hid (below_alloc w (.cells #[.int .u8 k,.slice A pl cp,.string ky,.int .i64 i,.int .i64 j,.int .i64 n,.int .u8 g.kind,.int .i64 g.num,.string g.str,.slice AL g.items.length cL,.slice AO g.vals.length cO,.string cs] 35))
 have HKN:=Lib.hid (fun W=>gknown_any k i j g A AL AO pl cp cL cO ky cs n W)
 have hr:chk M k i j=if listK k=false then 31 else if (i<0∨(M:Int)<i)∨(i=M∧k≠4) then 32 else if k=7∧(j<0∨(M:Int)≤j) then 32 else 0:=by
  unfold chk withinB listK
  by_cases h4:k=4
  ·subst h4;simp;split<;>split<;>omega
  ·by_cases h5:k=5
   ·subst h5;simp;split<;>split<;>omega
   ·by_cases h6:k=6
    ·subst h6;simp;split<;>split<;>omega
    ·by_cases h7:k=7
     ·subst h7;simp;(repeat' split)<;>omega
     ·simp [h4,h5,h6,h7]
 generalize chk M k i j=r at *
 have HR:=Lib.hid hr
 clear hr
 have g4:((k:Int) != 4) = !decide (k=4):=by by_cases h:k=4<;>simp [h];omega
 have g7:((k:Int) == 7)=decide (k=7):=by by_cases h:k=7<;>simp [h];omega
 have G4:=Lib.hid g4
 have G7:=Lib.hid g7
 clear g4 g7
 cases hl:listK k
 ·have h:=HR.out
  rw [if_pos hl] at h
  subst h
  rw [hl] at HKN
  clear HR hl
  go_enter Tryz.func55,Tryz.ntmps55
  go_wp2_with (go_at_call 93;refine (HKN.out _).mono ?_;rintro e w1 ⟨rfl,hb⟩;have B1:=Lib.hid (HB.out.trans (hb.mono HB.out.size));clear hb)
  go_ret
  exact ⟨rfl,B1.out⟩
 ·have h:=HR.out
  rw [if_neg (by simp [hl])] at h
  rw [hl] at HKN
  clear HR hl
  by_cases c1:(i<0∨(M:Int)<i)∨(i=M∧k≠4)
  ·rw [if_pos c1] at h
   subst h
   rcases c1 with (c1 | c1) | ⟨c1,c2⟩
   ·have e1:decide (i<0)=true:=by simpa using c1
    go_enter Tryz.func55,Tryz.ntmps55
    go_wp2_with (go_at_call 93;refine (HKN.out _).mono ?_;rintro e w1 ⟨rfl,hb⟩;have H1:=Lib.hid (H0.out.below hb H0.out.lt);have B1:=Lib.hid (HB.out.trans (hb.mono HB.out.size));have q0:=H1.out.tw.c0;have q3:=H1.out.tw.c3;have q4:=H1.out.tw.c4;clear hb)
    go_ret
    exact ⟨rfl,B1.out⟩
   ·have e1:decide (i<0)=false:=by simp;omega
    have e2:decide ((M:Int)<i)=true:=by simpa using c1
    go_enter Tryz.func55,Tryz.ntmps55
    go_wp2_with (go_at_call 93;refine (HKN.out _).mono ?_;rintro e w1 ⟨rfl,hb⟩;have H1:=Lib.hid (H0.out.below hb H0.out.lt);have B1:=Lib.hid (HB.out.trans (hb.mono HB.out.size));have q0:=H1.out.tw.c0;have q3:=H1.out.tw.c3;have q4:=H1.out.tw.c4;clear hb)
    go_ret
    exact ⟨rfl,B1.out⟩
   ·have g4:((k:Int) != 4)=true:=by rw [G4.out];simpa using c2
    have e1:decide (i<0)=false:=by simp;omega
    have e2:decide ((M:Int)<i)=false:=by simp;omega
    have e3:(i == (M:Int))=true:=by simpa using c1
    clear c1 c2
    go_enter Tryz.func55,Tryz.ntmps55
    go_wp2_with (go_at_call 93;refine (HKN.out _).mono ?_;rintro e w1 ⟨rfl,hb⟩;have H1:=Lib.hid (H0.out.below hb H0.out.lt);have B1:=Lib.hid (HB.out.trans (hb.mono HB.out.size));have q0:=H1.out.tw.c0;have q3:=H1.out.tw.c3;have q4:=H1.out.tw.c4;clear hb)
    go_ret
    exact ⟨rfl,B1.out⟩
  ·rw [if_neg c1] at h
   have e1:decide (i<0)=false:=by simp;omega
   have e2:decide ((M:Int)<i)=false:=by simp;omega
   by_cases im:i=M
   ·have hk:k=4:=by omega
    have g4:((k:Int) != 4)=false:=by rw [G4.out];simpa using hk
    have g7:((k:Int) == 7)=false:=by rw [G7.out];simp;omega
    have e3:(i == (M:Int))=true:=by simpa using im
    rw [if_neg (by omega)] at h
    subst h
    clear im hk c1
    go_enter Tryz.func55,Tryz.ntmps55
    go_wp2_with (go_at_call 93;refine (HKN.out _).mono ?_;rintro e w1 ⟨rfl,hb⟩;have H1:=Lib.hid (H0.out.below hb H0.out.lt);have B1:=Lib.hid (HB.out.trans (hb.mono HB.out.size));have q0:=H1.out.tw.c0;have q3:=H1.out.tw.c3;have q4:=H1.out.tw.c4;clear hb)
    go_ret
    exact ⟨rfl,B1.out⟩
   ·have e3:(i == (M:Int))=false:=by simpa using im
    clear im c1
    by_cases k7:k=7
    ·have g7:((k:Int) == 7)=true:=by rw [G7.out];simpa using k7
     by_cases j0:j<0
     ·have e4:decide (j<0)=true:=by simpa using j0
      rw [if_pos ⟨k7,.inl j0⟩] at h
      subst h
      clear k7 j0
      go_enter Tryz.func55,Tryz.ntmps55
      go_wp2_with (go_at_call 93;refine (HKN.out _).mono ?_;rintro e w1 ⟨rfl,hb⟩;have H1:=Lib.hid (H0.out.below hb H0.out.lt);have B1:=Lib.hid (HB.out.trans (hb.mono HB.out.size));have q0:=H1.out.tw.c0;have q3:=H1.out.tw.c3;have q4:=H1.out.tw.c4;clear hb)
      go_ret
      exact ⟨rfl,B1.out⟩
     ·have e4:decide (j<0)=false:=by simp;omega
      by_cases j1:(M:Int)≤j
      ·have e5:decide ((M:Int)≤j)=true:=by simpa using j1
       rw [if_pos ⟨k7,.inr j1⟩] at h
       subst h
       clear k7 j0 j1
       go_enter Tryz.func55,Tryz.ntmps55
       go_wp2_with (go_at_call 93;refine (HKN.out _).mono ?_;rintro e w1 ⟨rfl,hb⟩;have H1:=Lib.hid (H0.out.below hb H0.out.lt);have B1:=Lib.hid (HB.out.trans (hb.mono HB.out.size));have q0:=H1.out.tw.c0;have q3:=H1.out.tw.c3;have q4:=H1.out.tw.c4;clear hb)
       go_ret
       exact ⟨rfl,B1.out⟩
      ·have e5:decide ((M:Int)≤j)=false:=by simp;omega
       rw [if_neg (by omega)] at h
       subst h
       clear k7 j0 j1
       go_enter Tryz.func55,Tryz.ntmps55
       go_wp2_with (go_at_call 93;refine (HKN.out _).mono ?_;rintro e w1 ⟨rfl,hb⟩;have H1:=Lib.hid (H0.out.below hb H0.out.lt);have B1:=Lib.hid (HB.out.trans (hb.mono HB.out.size));have q0:=H1.out.tw.c0;have q3:=H1.out.tw.c3;have q4:=H1.out.tw.c4;clear hb)
       go_ret
       exact ⟨rfl,B1.out⟩
    ·have g7:((k:Int) == 7)=false:=by rw [G7.out];simpa using k7
     rw [if_neg (by omega)] at h
     subst h
     clear k7
     go_enter Tryz.func55,Tryz.ntmps55
     go_wp2_with (go_at_call 93;refine (HKN.out _).mono ?_;rintro e w1 ⟨rfl,hb⟩;have H1:=Lib.hid (H0.out.below hb H0.out.lt);have B1:=Lib.hid (HB.out.trans (hb.mono HB.out.size));have q0:=H1.out.tw.c0;have q3:=H1.out.tw.c3;have q4:=H1.out.tw.c4;clear hb)
     go_ret
     exact ⟨rfl,B1.out⟩
theorem rcopy_l {l:List GV} (hw:GV.weights l≤900000000) (W:World) (B:Option Addr) (d:Nat) (h:ListIn l B d W):Calls Tryz.prog 8 #[.agg #[.int .u8 0,.int .i64 0,.string ⟨#[]⟩,.slice B l.length d,.slice none 0 0]] W fun e w'=>
   ∃ BL dL BO dO,e=.returned (.agg #[.int .u8 0,.int .i64 0,.string ⟨#[]⟩,.slice BL l.length dL,.slice BO 0 dO])∧LstV (fun k=>W.heap.size≤k) w' (.slice BL l.length dL) l∧Below W.heap.size W w':=by
 have hv:(GV.mk 0 0 ⟨#[]⟩ l [] []).val (fun _=>True) W (.agg #[.int .u8 0,.int .i64 0,.string ⟨#[]⟩,.slice B l.length d,.slice none 0 0]):=⟨_,_,rfl,h,⟨rfl,.inl ⟨rfl,rfl⟩⟩⟩
 have hs:(GV.mk 0 0 ⟨#[]⟩ l [] []).size≤1000000000:=Nat.le_trans (size_le_weight _) (by have h0:(⟨#[]⟩:ByteArray).size=0:=rfl;simp only [GV.weight,GV.weights,h0];simp;omega)
 exact (ref_Copy _ _ _ _ W (Nat.le_refl _) hv hs).mono fun e w' ⟨v',he,⟨L',O',e2,hL',hO'⟩,hb⟩=>by
  obtain ⟨BL,dL,rfl⟩:=lst_form hL'
  obtain ⟨BO,dO,rfl⟩:=obj_form hO'
  exact ⟨BL,dL,BO,dO,by rw [he,e2];rfl,hL',hb⟩
theorem away_not {lo eb:Nat} {l c:Nat} {vO:Value}:¬ Away lo (.slice (some ⟨eb,0,none⟩) l c) vO eb:=fun h=>h.2.1 rfl
theorem CopyRows.below {lo:Nat} {l:List GV} {ks:List ByteArray} {ov:List GV} {W W':World} {vL vO:Value} {xs ys:List Value} (h:CopyRows lo l ks ov W vL vO xs ys) (hb:Below W.heap.size W W'):CopyRows lo l ks ov W' vL vO xs ys:=
 ⟨own_below h.ownL hb,own_below h.ownO hb,h.rowL.keep (From.of_below hb) (fun _ h _=>h),h.rowO.keep (From.of_below hb) (fun _ h _=>h)⟩
theorem rcopy_rows {l:List GV} (hw:GV.weights l≤900000000) (W:World) (B:Option Addr) (d:Nat) (h:ListIn l B d W):Calls Tryz.prog 8 #[.agg #[.int .u8 0,.int .i64 0,.string ⟨#[]⟩,.slice B l.length d,.slice none 0 0]] W fun e w'=>
   ∃ BL dL BO dO,e=.returned (.agg #[.int .u8 0,.int .i64 0,.string ⟨#[]⟩,.slice BL l.length dL,.slice BO 0 dO])∧(∃ xs ys,CopyRows W.heap.size l [] [] w' (.slice BL l.length dL) (.slice BO 0 dO) xs ys)∧Below W.heap.size W w':=by
 have hv:(GV.mk 0 0 ⟨#[]⟩ l [] []).val (fun _=>True) W (.agg #[.int .u8 0,.int .i64 0,.string ⟨#[]⟩,.slice B l.length d,.slice none 0 0]):=⟨_,_,rfl,h,⟨rfl,.inl ⟨rfl,rfl⟩⟩⟩
 have hs:(GV.mk 0 0 ⟨#[]⟩ l [] []).size≤1000000000:=Nat.le_trans (size_le_weight _) (by have h0:(⟨#[]⟩:ByteArray).size=0:=rfl;simp only [GV.weight,GV.weights,h0];simp;omega)
 exact (ref_CopyR _ _ _ W hv hs).mono fun e w' ⟨BL,dL,BO,dO,xs,ys,he,hc,hb⟩=>⟨BL,dL,BO,dO,he,⟨xs,ys,hc⟩,hb⟩
theorem rcopy_new {g:GV} {W:World} {AL AO:Option Addr} {cL cO:Nat} (hv:Vl W g AL AO cL cO) (hw:g.weight≤1000000000):Calls Tryz.prog 8 #[.agg #[.int .u8 g.kind,.int .i64 g.num,.string g.str,.slice AL g.items.length cL,.slice AO g.vals.length cO]] W fun e w'=>
   ∃ CL CO eL eO,e=.returned (.agg #[.int .u8 g.kind,.int .i64 g.num,.string g.str,.slice CL g.items.length eL,.slice CO g.vals.length eO])∧(LstV (fun k=>W.heap.size≤k) w' (.slice CL g.items.length eL) g.items∧ObjV (fun k=>W.heap.size≤k) w' (.slice CO g.vals.length eO) g.keys g.vals)∧Below W.heap.size W w':=
 (ref_Copy g.size _ _ g W (Nat.le_refl _) hv.val (Nat.le_trans (size_le_weight _) hw)).mono fun e w' ⟨v',he,⟨L,O,e2,hL,hO⟩,hb⟩=>by
  obtain ⟨BL,dL,rfl⟩:=lst_form hL
  obtain ⟨BO,dO,rfl⟩:=obj_form hO
  exact ⟨BL,BO,dL,dO,by rw [he,e2],⟨hL,hO⟩,hb⟩
end Go.Proofs.YtamlaknfakaanaaGreatDoor
