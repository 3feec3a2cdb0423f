/- Texts in one: TextM, TextW, TextT, TextV. -/
import Derived.WalkKit
import Derived.Lib.RuneCount
import Derived.Lib.RuneCountTail
import Derived.Lib.TrimU
import Derived.Lib.TrimUEq
import Derived.Lib.ValidLaws
namespace Go.Proofs.YtlhfnemcpgfcdaaDoor
set_option linter.unusedVariables false
set_option linter.unusedSimpArgs false
def cutAt (wd:Nat→Nat) (n:Nat):Nat→Nat
 | 0=>0
 | k+1=>if cutAt wd n k<n then cutAt wd n k+wd (cutAt wd n k) else n
def Wide (wd:Nat→Nat) (n:Nat):Prop:=∀ p,p<n→1≤wd p∧p+wd p≤n
structure Chars (wd:Nat→Nat) (n c:Nat):Prop where
 lt:∀ k,k<c→cutAt wd n k<n
 eq:cutAt wd n c=n
theorem cut_le {wd:Nat→Nat} {n:Nat} (h:Wide wd n):∀ k,cutAt wd n k≤n
 | 0=>Nat.zero_le _
 | k+1=>by
  unfold cutAt
  split
  ·exact (h _ ‹_›).2
  ·exact Nat.le_refl _
theorem cut_next {wd:Nat→Nat} {n k:Nat} (h:cutAt wd n k<n):cutAt wd n (k+1)=cutAt wd n k+wd (cutAt wd n k):=by
 rw [cutAt,if_pos h]
theorem cut_end {wd:Nat→Nat} {n k:Nat} (h:cutAt wd n k=n):∀ j,cutAt wd n (k+j)=n
 | 0=>h
 | j+1=>by rw [← Nat.add_assoc,cutAt,if_neg (by rw [cut_end h j];omega)]
theorem cut_grows {wd:Nat→Nat} {n:Nat} (h:Wide wd n):∀ k,k≤n→k≤cutAt wd n k
 | 0,_=>Nat.zero_le _
 | k+1,hk=>by
  have h1:=cut_grows h k (by omega)
  rw [cutAt]
  split
  ·have:=(h _ ‹_›).1;omega
  ·exact hk
theorem chars_some {wd:Nat→Nat} {n:Nat} (h:Wide wd n):∃ c,c≤n∧Chars wd n c:=by
 have key:∀ d k,k+d=n→(∀ j,j<k→cutAt wd n j<n)→∃ c,c≤n∧Chars wd n c:=fun d=>by
  induction d with
  | zero=>exact fun k hk hj=>⟨n,Nat.le_refl _,fun j hjn=>hj j (by omega),Nat.le_antisymm (cut_le h _) (cut_grows h n (Nat.le_refl _))⟩
  | succ d ih=>
   intro k hk hj
   by_cases hc:cutAt wd n k<n
   ·exact ih (k+1) (by omega) (fun j hjk=>if e:j=k then e ▸ hc else hj j (by omega))
   ·exact ⟨k,by omega,hj,Nat.le_antisymm (cut_le h _) (by omega)⟩
 exact key n 0 (by omega) (fun j hj=>absurd hj (by omega))
theorem Chars.past {wd:Nat→Nat} {n c k:Nat} (hc:Chars wd n c) (hk:c≤k):cutAt wd n k=n:=by
 obtain ⟨j,rfl⟩:=Nat.exists_eq_add_of_le hk
 exact cut_end hc.eq j
theorem Chars.iff {wd:Nat→Nat} {n c k:Nat} (hc:Chars wd n c):cutAt wd n k<n↔k<c:=by
 refine ⟨fun h=>?_,hc.lt k⟩
 by_cases hk:k<c
 ·exact hk
 ·exact absurd h (by rw [hc.past (by omega)];omega)
theorem cut_shift {wd:Nat→Nat} {n:Nat} (h:Wide wd n) (i:Nat):∀ k,cutAt (fun p=>wd (cutAt wd n i+p)) (n - cutAt wd n i) k+cutAt wd n i=cutAt wd n (i+k)
 | 0=>by simp [cutAt]
 | k+1=>by
  have ih:=cut_shift h i k
  have h1:=cut_le h i
  have h2:=cut_le h (i+k)
  rw [← Nat.add_assoc,cutAt,cutAt]
  by_cases hl:cutAt wd n (i+k)<n
  ·rw [if_pos hl,if_pos (by omega),Nat.add_comm (cutAt wd n i) (cutAt _ _ k),ih]
   omega
  ·rw [if_neg hl,if_neg (by omega)]
   omega
def cutsL (wd:Nat→Nat) (n k:Nat):List Nat:=(List.range k).map (cutAt wd n)
theorem cuts_get (wd:Nat→Nat) (n k:Nat) {j:Nat} (h:j<k):(cutsL wd n k)[j]? = some (cutAt wd n j):=by simp [cutsL,h]
theorem cuts_succ (wd:Nat→Nat) (n k:Nat):cutsL wd n (k+1)=cutsL wd n k++[cutAt wd n k]:=by simp [cutsL,List.range_succ]
open Go Go.Lib
def wdS (s:ByteArray) (p:Nat):Nat:=(Utf8.decode s p).2
theorem decodeN_within (n b0 b1 b2 b3:Nat) (hn:1≤n):(decodeN n b0 b1 b2 b3).2≤n:=by
 unfold decodeN
 (repeat' split)<;>simp only<;>omega
theorem wide_str (s:ByteArray):Wide (wdS s) s.size:=fun p hp=>by
 refine ⟨width_pos s p,?_⟩
 unfold wdS
 rw [decode_at]
 have:=decodeN_within (s.size - p) (s.get! p).toNat (s.get! (p+1)).toNat (s.get! (p+2)).toNat (s.get! (p+3)).toNat (by omega)
 omega
theorem wd_tail (s:ByteArray) (n:Nat):wdS (s.extract n s.size)=fun p=>wdS s (n+p):=funext fun p=>by
 unfold wdS
 rw [tail_decode]
def cutS (s:ByteArray) (k:Nat):Nat:=cutAt (wdS s) s.size k
def CharsS (s:ByteArray) (c:Nat):Prop:=Chars (wdS s) s.size c
theorem charsS_some (s:ByteArray):∃ c,c≤s.size∧CharsS s c:=chars_some (wide_str s)
theorem cutS_le (s:ByteArray) (k:Nat):cutS s k≤s.size:=cut_le (wide_str s) k
theorem tail_size (s:ByteArray) (n:Nat) (h:n≤s.size):(s.extract n s.size).size=s.size - n:=by simp [ByteArray.size_extract]
theorem cutS_tail (s:ByteArray) (i k:Nat):cutS (s.extract (cutS s i) s.size) k+cutS s i=cutS s (i+k):=by
 have h:=cut_shift (wide_str s) i k
 unfold cutS at *
 rw [wd_tail,tail_size s _ (cut_le (wide_str s) i)]
 exact h
def insS (s:ByteArray) (i:Nat) (t:ByteArray):ByteArray:=s.extract 0 (cutS s i)++t++s.extract (cutS s i) s.size
def delS (s:ByteArray) (i n:Nat):ByteArray:=s.extract 0 (cutS s i)++s.extract (cutS s (i+n)) s.size
def chkT (c:Int) (k:Nat) (i n:Int):Int:=
 if k=8 then (if 0≤i∧i≤c then 0 else 32) else if k=9 then (if (0≤i∧i≤c)∧(1≤n∧n≤c - i) then 0 else 32) else 31
theorem chkT_ok {c k:Nat} {i n:Int} (h:chkT c k i n=0):∃ i':Nat,i=i'∧i'≤c∧(k=8∨(k=9∧∃ n':Nat,n=n'∧1≤n'∧i'+n'≤c)):=by
 unfold chkT at h
 by_cases h8:k=8
 ·rw [if_pos h8] at h
  split at h
  ·exact ⟨i.toNat,by omega,by omega,.inl h8⟩
  ·omega
 ·rw [if_neg h8] at h
  by_cases h9:k=9
  ·rw [if_pos h9] at h
   split at h
   ·exact ⟨i.toNat,by omega,by omega,.inr ⟨h9,n.toNat,by omega,by omega,by omega⟩⟩
   ·omega
  ·rw [if_neg h9] at h
   omega
variable {α:Type}
inductive TC (α:Type) where
 | ins (i:Nat) (t:List α)
 | del (i n:Nat)
def doT (l:List α):TC α→List α
 | .ins i t=>l.take i++(t++l.drop i)
 | .del i n=>l.take i++l.drop (i+n)
theorem decodeN_alike (n n' b0 b1 b2 b3 c1 c2 c3:Nat) (h:decodeN n b0 b1 b2 b3≠(65533,1)) (hn:(decodeN n b0 b1 b2 b3).2≤n') (h1:2≤(decodeN n b0 b1 b2 b3).2→c1=b1) (h2:3≤(decodeN n b0 b1 b2 b3).2→c2=b2) (h3:4≤(decodeN n b0 b1 b2 b3).2→c3=b3):
  decodeN n' b0 c1 c2 c3=decodeN n b0 b1 b2 b3:=by
 generalize hd:decodeN n b0 b1 b2 b3=d at *
 unfold decodeN at hd
 split at hd
 ·subst hd
  unfold decodeN
  rw [if_pos ‹_›]
 ·rename_i a0
  split at hd
  ·rename_i a1
   split at hd
   ·rename_i a2
    subst hd
    obtain rfl:=h1 (Nat.le_refl 2)
    unfold decodeN
    rw [if_neg a0,if_pos ⟨a1.1,by simp only at hn;omega,a1.2.2⟩,if_pos a2]
   ·exact absurd hd.symm h
  ·rename_i a1
   split at hd
   ·rename_i a2
    split at hd
    ·rename_i a3
     subst hd
     obtain rfl:=h1 (by show 2≤_;omega)
     obtain rfl:=h2 (Nat.le_refl 3)
     simp only at hn
     unfold decodeN
     rw [if_neg a0,if_neg (by omega),if_pos ⟨a2.1,⟨by omega,a2.2.1.2⟩,by omega,a2.2.2.2⟩,if_pos a3]
    ·exact absurd hd.symm h
   ·rename_i a2
    split at hd
    ·rename_i a3
     split at hd
     ·rename_i a4
      subst hd
      obtain rfl:=h1 (by show 2≤_;omega)
      obtain rfl:=h2 (by show 3≤_;omega)
      obtain rfl:=h3 (Nat.le_refl 4)
      simp only at hn
      unfold decodeN
      rw [if_neg a0,if_neg (by omega),if_neg (by omega),if_pos ⟨a3.1,⟨by omega,a3.2.1.2⟩,⟨by omega,a3.2.2.1.2⟩,by omega,a3.2.2.2.2⟩,if_pos a4]
     ·exact absurd hd.symm h
    ·exact absurd hd.symm h
def IsChar (u:List UInt8):Prop:=decodeL u≠(65533,1)∧(decodeL u).2=u.length
theorem IsChar.pos {u:List UInt8} (h:IsChar u):1≤u.length:=by rw [← h.2];exact width_pos _ _
theorem decodeL_char {u:List UInt8} (r:List UInt8) (h:IsChar u):decodeL (u++r)=decodeL u:=by
 have h0:=h.pos
 obtain ⟨h1,h2⟩:=h
 rw [decodeL_N] at h1 h2
 rw [decodeL_N,decodeL_N u]
 have hg:∀ j,j<u.length→(u++r).getD j 0=u.getD j 0:=fun j hj=>by
  simp only [List.getD]
  rw [List.getElem?_append_left hj]
 rw [hg 0 (by omega)]
 exact decodeN_alike _ _ _ _ _ _ _ _ _ h1 (by rw [h2];simp) (fun h=>by rw [hg 1 (by omega)]) (fun h=>by rw [hg 2 (by omega)]) (fun h=>by rw [hg 3 (by omega)])
def Reads (s:ByteArray) (cs:List (List UInt8)):Prop:=s.data.toList=cs.flatten∧∀ u∈cs,IsChar u
theorem Reads.size {s:ByteArray} {cs:List (List UInt8)} (h:Reads s cs):s.size=cs.flatten.length:=by
 rw [← h.1]
 exact Array.length_toList.symm
theorem flat_take {α:Type} (cs:List (List α)) (k:Nat) (h:k<cs.length):(cs.take (k+1)).flatten.length=(cs.take k).flatten.length+cs[k].length:=by
 rw [List.take_succ_eq_append_getElem h,List.flatten_append,List.length_append]
 congr 1
 rw [List.flatten_cons,List.flatten_nil,List.append_nil]
theorem flat_drop {α:Type} (cs:List (List α)) (k:Nat):cs.flatten.drop (cs.take k).flatten.length=(cs.drop k).flatten:=by
 have h:cs.flatten=(cs.take k).flatten++(cs.drop k).flatten:=by rw [← List.flatten_append,List.take_append_drop]
 rw [h]
 exact List.drop_left
theorem Reads.cut {s:ByteArray} {cs:List (List UInt8)} (h:Reads s cs):∀ k,cutS s k=(cs.take k).flatten.length
 | 0=>by simp [cutS,cutAt]
 | k+1=>by
  have ih:=Reads.cut h k
  have hs:=h.size
  unfold cutS at *
  rw [cutAt,ih]
  by_cases hk:k<cs.length
  ·have h1:=flat_take cs k hk
   have h2:=(h.2 _ (List.getElem_mem hk)).pos
   have h3:(cs.take (k+1)).flatten.length≤cs.flatten.length:=by
    have e:cs.flatten=(cs.take (k+1)).flatten++(cs.drop (k+1)).flatten:=by rw [← List.flatten_append,List.take_append_drop]
    rw [e,List.length_append]
    omega
   rw [if_pos (by omega),h1]
   congr 1
   unfold wdS
   rw [← decodeL_drop,h.1,flat_drop,List.drop_eq_getElem_cons hk,List.flatten_cons,decodeL_char _ (h.2 _ (List.getElem_mem hk))]
   exact (h.2 _ (List.getElem_mem hk)).2
  ·rw [List.take_of_length_le (by omega),← hs,if_neg (by omega),List.take_of_length_le (by omega),hs]
theorem extract_list (s:ByteArray) (a b:Nat):(s.extract a b).data.toList=(s.data.toList.take b).drop a:=by
 rw [ByteArray.data_extract,Array.toList_extract,List.extract_eq_take_drop]
 rw [List.drop_take]
theorem Reads.ins {s t:ByteArray} {cs ts:List (List UInt8)} (h:Reads s cs) (ht:Reads t ts) (i:Nat):Reads (insS s i t) (doT cs (.ins i ts)):=by
 refine ⟨?_,fun u hu=>?_⟩
 ·unfold insS doT
  rw [ByteArray.data_append,ByteArray.data_append,Array.toList_append,Array.toList_append,extract_list,extract_list,h.cut,List.drop_zero,h.1,ht.1,h.size,List.take_length,flat_drop]
  simp only [List.flatten_append,List.append_assoc]
  congr 1
  have e:cs.flatten=(cs.take i).flatten++(cs.drop i).flatten:=by rw [← List.flatten_append,List.take_append_drop]
  rw [e]
  exact List.take_left
 ·unfold doT at hu
  rcases List.mem_append.1 hu with hu | hu
  ·exact h.2 u (List.mem_of_mem_take hu)
  ·rcases List.mem_append.1 hu with hu | hu
   ·exact ht.2 u hu
   ·exact h.2 u (List.mem_of_mem_drop hu)
theorem Reads.del {s:ByteArray} {cs:List (List UInt8)} (h:Reads s cs) (i n:Nat):Reads (delS s i n) (doT cs (.del i n)):=by
 refine ⟨?_,fun u hu=>?_⟩
 ·unfold delS doT
  rw [ByteArray.data_append,Array.toList_append,extract_list,extract_list,h.cut,h.cut,List.drop_zero,h.1,h.size,List.take_length,flat_drop]
  simp only [List.flatten_append]
  congr 1
  have e:cs.flatten=(cs.take i).flatten++(cs.drop i).flatten:=by rw [← List.flatten_append,List.take_append_drop]
  rw [e]
  exact List.take_left
 ·unfold doT at hu
  rcases List.mem_append.1 hu with hu | hu
  ·exact h.2 u (List.mem_of_mem_take hu)
  ·exact h.2 u (List.mem_of_mem_drop hu)
theorem width_within (l:List UInt8) (h:l≠[]):(decodeL l).2≤l.length:=by
 have hl:1≤l.length:=by
  cases l with
  | nil=>exact absurd rfl h
  | cons _ _=>simp
 rw [decodeL_N]
 exact decodeN_within _ _ _ _ _ hl
theorem char_of (l:List UInt8) (h:l≠[]) (hv:decodeL l≠(65533,1)):IsChar (l.take (decodeL l).2):=by
 have hw:=width_within l h
 have h1:1≤(decodeL l).2:=width_pos _ _
 have hlen:(l.take (decodeL l).2).length=(decodeL l).2:=by rw [List.length_take];omega
 have hg:∀ j,j<(decodeL l).2→(l.take (decodeL l).2).getD j 0=l.getD j 0:=fun j hj=>by
  simp only [List.getD]
  rw [List.getElem?_take,if_pos hj]
 have he:decodeL (l.take (decodeL l).2)=decodeL l:=by
  generalize hd:(decodeL l).2=d at *
  rw [decodeL_N,decodeL_N l,hlen,hg 0 (by omega)]
  rw [decodeL_N] at hd hv
  exact decodeN_alike _ _ _ _ _ _ _ _ _ hv (by omega) (fun h=>by rw [hg 1 (by omega)]) (fun h=>by rw [hg 2 (by omega)]) (fun h=>by rw [hg 3 (by omega)])
 exact ⟨by rw [he];exact hv,by rw [he,hlen]⟩
theorem chars_of:∀ (n:Nat) (l:List UInt8),l.length≤n→validD l=true→∃ cs:List (List UInt8),l=cs.flatten∧∀ u∈cs,IsChar u
 | 0,l,hn,_=>⟨[],by simpa using hn,by simp⟩
 | n+1,l,hn,hv=>by
  by_cases hl:l=[]
  ·exact ⟨[],by simpa using hl,by simp⟩
  ·rw [validD_step l hl] at hv
   split at hv
   ·exact absurd hv (by simp)
   ·rename_i hd
    have h1:1≤(decodeL l).2:=width_pos _ _
    obtain ⟨cs,hc,hi⟩:=chars_of n (l.drop (decodeL l).2) (by rw [List.length_drop];omega) hv
    refine ⟨l.take (decodeL l).2 :: cs,?_,?_⟩
    ·rw [List.flatten_cons,← hc,List.take_append_drop]
    ·intro u hu
     rcases List.mem_cons.1 hu with rfl | hu
     ·exact char_of l hl (fun e=>hd ⟨by rw [e],by rw [e]⟩)
     ·exact hi u hu
theorem reads_of {s:ByteArray} (h:validD s.data.toList=true):∃ cs,Reads s cs:=by
 obtain ⟨cs,h1,h2⟩:=chars_of _ _ (Nat.le_refl _) h
 exact ⟨cs,h1,h2⟩
end Go.Proofs.YtlhfnemcpgfcdaaDoor
