/- The document's own: Same of two components, says, in. -/
import Derived.Test.YtamlaknfakaanaaGreatDoorR21
import Derived.Laws.BytesArg
set_option maxRecDepth 100000
set_option maxHeartbeats 1000000
namespace Go.Proofs.YtamlaknfakaanaaGreatDoor
open Go Go.RowKit
set_option linter.unusedVariables false
set_option linter.unusedSimpArgs false
def saysB (k:Int):ByteArray:=if k=1 then ⟨#[78]⟩ else if k=2 then ⟨#[75,86]⟩ else if k=3 then ⟨#[75]⟩ else if k=4 then ⟨#[73,86]⟩ else if k=5 then ⟨#[73]⟩ else if k=6 then ⟨#[73,86]⟩ else if k=7 then ⟨#[73,74]⟩ else if k=8 then ⟨#[73,83]⟩ else if k=9 then ⟨#[73,78]⟩ else ⟨#[]⟩
theorem says_any (k:Int) (w:World):Calls Tryz.prog 58 #[.int .u8 k] w fun e w'=>e=.returned (.string (saysB k))∧w'=w:=by
 by_cases hk:1≤k∧k≤9
 ·obtain ⟨h1,h9⟩:=hk
  rcases (show k=1∨k=2∨k=3∨k=4∨k=5∨k=6∨k=7∨k=8∨k=9 by omega) with rfl | rfl | rfl | rfl | rfl | rfl | rfl | rfl | rfl
  all_goals
   go_enter Tryz.func58,Tryz.ntmps58
   go_wp2
   go_ret
   exact ⟨rfl,rfl⟩
 ·have hs:saysB k =⟨#[]⟩:=by unfold saysB;simp only [show ¬ k=1 by omega,show ¬ k=2 by omega,show ¬ k=3 by omega,show ¬ k=4 by omega,show ¬ k=5 by omega,show ¬ k=6 by omega,show ¬ k=7 by omega,show ¬ k=8 by omega,show ¬ k=9 by omega,if_false]
  rw [hs]
  have g1:(k == 1)=false:=by simp;omega
  have g2:(k == 2)=false:=by simp;omega
  have g3:(k == 3)=false:=by simp;omega
  have g4:(k == 4)=false:=by simp;omega
  have g5:(k == 5)=false:=by simp;omega
  have g6:(k == 6)=false:=by simp;omega
  have g7:(k == 7)=false:=by simp;omega
  have g8:(k == 8)=false:=by simp;omega
  have g9:(k == 9)=false:=by simp;omega
  clear hk hs
  go_enter Tryz.func58,Tryz.ntmps58
  go_wp2
  go_ret
  exact ⟨rfl,rfl⟩
def inB (s:ByteArray) (c:Int):Bool:=s.data.toList.any fun b=>decide ((b.toNat:Int)=c)
def InRel (s:ByteArray) (c:Int) (w:World) (i:Value) (wr:World):Prop:=∃ k:Nat,i=.int .i64 k∧k≤s.size∧(∀ b∈s.data.toList.take k,(b.toNat:Int)≠c)∧wr=w
theorem in_any (s:ByteArray) (c:Int) (w:World) (hs:s.size≤1000):Calls Tryz.prog 60 #[.string s,.int .u8 c] w fun e w'=>e=.returned (.bool (inB s c))∧w'=w:=by
 go_enter Tryz.func60,Tryz.ntmps60
 go_wp2
 go_loopw [5] (InRel s c w) (fun i _=>s.size - (intOf i).toNat)
 case atStart=>exact ⟨0,rfl,Nat.zero_le _,by simp,rfl⟩
 case round=>
  obtain ⟨k,rfl,hk,hno,rfl⟩:=hrel
  by_cases hlt:k<s.size
  ·have hl2:k<s.data.toList.length:=by simpa using hlt
   have hb:s.data.toList[k]=s[k]:=by simp;rfl
   have HNO:=Lib.hid hno
   have HT:=Lib.hid (show s.data.toList.take (k+1)=s.data.toList.take k++[s[k]] by rw [List.take_succ_eq_append_getElem hl2,hb])
   have HM:=Lib.hid (show s[k]∈s.data.toList by rw [← hb];exact List.getElem_mem hl2)
   clear hno hb
   by_cases hc:((s[k].toNat:Int))=c
   ·have HC:=Lib.hid hc
    have hz:((s[k].toNat:Int) == c)=true:=by simpa using hc
    clear hc
    go_wp2
    go_ret
    exact ⟨by rw [show inB s c=true from List.any_eq_true.2 ⟨_,HM.out,by simpa using HC.out⟩]<;>rfl,rfl⟩
   ·have HC:=Lib.hid hc
    have hz:((s[k].toNat:Int) == c)=false:=by simpa using hc
    clear hc
    go_wp2
    go_roundw
    case rel=>exact ⟨k+1,by go_num,by omega,by rw [HT.out];intro b hb;rcases List.mem_append.1 hb with hb | hb;exact HNO.out b hb;simp only [List.mem_singleton] at hb;subst hb;exact HC.out,rfl⟩
    case measure=>simp [intOf];omega
  ·have hk':k=s.size:=by omega
   have HF:=Lib.hid (show inB s c=false by
    unfold inB
    rw [List.any_eq_false]
    intro b hb
    have:=hno b (by rw [List.take_of_length_le (by simp;omega)];exact hb)
    simpa using this)
   clear hno
   go_wp2
   go_ret
   exact ⟨by rw [HF.out]<;>rfl,rfl⟩
end Go.Proofs.YtamlaknfakaanaaGreatDoor
