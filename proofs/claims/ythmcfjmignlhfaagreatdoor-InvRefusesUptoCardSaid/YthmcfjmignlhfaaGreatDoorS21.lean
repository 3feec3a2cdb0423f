/- Texts in one: BldX, TextX, TextY, RGet, OneM, CompDy, OpA, InvA. -/
import Derived.Test.YthmcfjmignlhfaaGreatDoorS1
import Derived.Test.YthmcfjmignlhfaaGreatDoorS10
import Derived.Lib.Builder
import Derived.Lib.OthersKept
import Derived.Lib.MakeNoZero
import Derived.Lib.BufferKept
import Derived.Lib.AppendStr
import Derived.Lib.UnsafeStr
import Derived.Lib.Strings
import Derived.Lib.Walk
import Derived.Laws.Externs
import Derived.Laws.BitsLemmas
import Derived.WalkKit
import Derived.Shelf.RegionOpenPlain
import Derived.RegionTactic
import Derived.BigQuiet
import Derived.Deep.QuietTactic
import Derived.Lib.Hide
import Derived.Test.YthmcfjmignlhfaaGreatDoorS8
import Derived.Laws.RangeString
import Derived.Laws.RangeAny
import Derived.Lib.RuneCount
import Derived.LoopTactic
import Derived.WalkSmall
import Derived.Test.YthmcfjmignlhfaaGreatDoorS15
import Derived.Test.YthmcfjmignlhfaaGreatDoorS12
import Derived.Test.YthmcfjmignlhfaaGreatDoorLaysU
import Derived.Lib.QuietBelow
import Derived.Test.YthmcfjmignlhfaaGreatDoorS9
import Derived.Deep.RegionWith
import Derived.Deep.DeepCutAuto
import Derived.Deep.CutRange
import Derived.Test.YthmcfjmignlhfaaGreatDoorS20
import Derived.Test.YthmcfjmignlhfaaGreatDoorS4
set_option maxHeartbeats 8000000
set_option maxRecDepth 1000000
namespace Go.Proofs.YthmcfjmignlhfaaGreatDoor
open Go.Lib(hid)
open Go Go.RowKit Go.Shelf
theorem sizeSB:(Tryz.prog.info? 169).map (·.size)=some 2:=by kernel_rfl
theorem liesSB:liesAt Tryz.prog Tryz.prog.depth 169 (2 / Tryz.prog.cellsOf 169) 0 169 1=true:=by kernel_rfl
theorem zkR (b:Nat) (w:World) (h0:w.cell? ⟨b,0,none⟩=some (.pointer (some ⟨b,0,none⟩))):
  Calls Tryz.prog 147 #[.pointer (some ⟨b,0,none⟩)] w fun e w'=>e=.returned (.tuple #[])/\w'=w:=by
 obtain ⟨j,hj,_⟩:=Option.map_eq_some_iff.1 sizeSB;go_enter Tryz.func147,Tryz.ntmps147
 go_wp2
 rw [Lib.run_neq_ptr_same w _ Tryz.underlying167 hj];go_wp2
 go_end0
 exact ⟨rfl,rfl⟩
theorem zgQ (b:Nat) (w:World) (h0:w.cell? ⟨b,0,none⟩=some (.pointer none)) (hsh:w.shape? b=some (169,2)) (hfz:w.frozen? ⟨b,0,none⟩=false):
  Calls Tryz.prog 147 #[.pointer (some ⟨b,0,none⟩)] w fun e w'=>e=.returned (.tuple #[])/\w'=w.setCell ⟨b,0,none⟩ (.pointer (some ⟨b,0,none⟩)):=by
 obtain ⟨j,hj,hjs⟩:=Option.map_eq_some_iff.1 sizeSB;go_enter Tryz.func147,Tryz.ntmps147
 go_wp2
 rw [Lib.run_to_unsafe w ⟨b,0,none⟩ Tryz.underlying167 Tryz.underlying195 hj (by rw [hjs];decide) hsh (Nat.zero_lt_succ 1)]
 simp only [Result.andThen];rw [Oper.upon_value];go_wp2
 rw [run_callFunc_extern Tryz.func154 (by kernel_rfl) (by kernel_rfl) (by kernel_rfl) (e:=Extern.AbiNoEscape.same) (by kernel_rfl)]
 rw [Lib.run_noEscape];simp only [Result.andThen];rw [Oper.upon_value];go_wp2
 rw [Lib.run_from_unsafe w ⟨b,0,none⟩ Tryz.underlying195 Tryz.underlying167 hj hsh liesSB];simp only [Result.andThen];rw [Oper.upon_value];go_wp2
 go_end0
 exact ⟨rfl,rfl⟩
abbrev SB (B b:Nat) (bs:List Value) (w:World):Prop:=Lib.IsBuilder 169 5 B b bs w
abbrev SBAt (B b:Nat) (bs:List Value) (w:World):Prop:=Lib.BuilderAt 169 5 B b (.pointer (some ⟨b,0,none⟩)) bs w
structure SWr (B b:Nat) (W W':World):Prop where
 below:Below B W W'
 kept:Lib.OthersKept 5 (some b) W W'
theorem SWr.refl (B b:Nat) (W:World):SWr B b W W:=⟨Below.refl _ _,Lib.OthersKept.refl _ _ _⟩
theorem SWr.set {B b:Nat} {W W1:World} (h:SWr B b W W1) (hB:B<=b) (i:Nat) (v:Value):SWr B b W (W1.setCell ⟨b,i,none⟩ v):=⟨h.below.setCell (p:=⟨b,i,none⟩) hB v,h.kept.setCell ⟨b,i,none⟩ rfl v⟩
theorem zka {B n:Nat} {v:Value} {bs:List Value} {w:World} (h:w.ownsRow B 5 1 v n bs) (g:Nat) (e:v.ownBlock=some g):∃ c fz,w.heap[g]? = some (.cells c 5 fz):=by
 rcases h.2 with ⟨hn,_⟩ | ⟨g',cap,cur,he,_,hg,_⟩
 ·rw [hn] at e;cases e
 ·rw [he] at e;cases e;exact ⟨_,_,hg⟩
theorem SWr.grown {B b n:Nat} {v:Value} {bs:List Value} {W W1 W2:World} (h:SWr B b W W1) (hB:B<=W1.heap.size) (ho:W1.ownsRow B 5 1 v n bs) (hg:W1.grownBy W2 v.ownBlock):SWr B b W W2:=
 ⟨h.below.grown hg hB (fun k hk=>(ho.lt k hk).1),h.kept.grown hg (fun g e=>zka ho g e)⟩
theorem zjZ (B b:Nat) (bs:List Value) (w:World) (h:SB B b bs w):
  Calls Tryz.prog 147 #[.pointer (some ⟨b,0,none⟩)] w fun e w'=>e=.returned (.tuple #[])/\SBAt B b bs w'/\SWr B b w w':=by
 rcases h with h | h
 ·refine (zgQ b w h.cell0 h.shape h.frozen0).mono ?_
  rintro e w' ⟨rfl,rfl⟩
  exact ⟨rfl,h.used _,(SWr.refl B b w).set h.1 0 _⟩
 ·refine (zkR b w h.cell0).mono ?_
  rintro e w' ⟨rfl,rfl⟩
  exact ⟨rfl,h,SWr.refl B b _⟩
theorem zlB (B b:Nat) (bs:List Value) (s:ByteArray) (w:World) (h:SB B b bs w) (hlen:bs.length+s.size<=140737488355328):
  Calls Tryz.prog 136 #[.pointer (some ⟨b,0,none⟩),.string s] w fun e w'=>e=.returned (.tuple #[.int .i64 s.size,.nilIface])/\SBAt B b (bs++Lib.strCells s) w'/\SWr B b w w':=by
 obtain ⟨i0,hi0,hz0,hz1,hz2⟩:=info_parts infoByte;have HI0:=hid (And.intro hi0 (And.intro hz0 (And.intro hz1 hz2)));have HC:=hid (zjZ B b bs w h);clear hi0 hz0 hz1 hz2 h;have hmax:bs.length+s.size<=maxLen:=by unfold maxLen;omega
 go_enter Tryz.func136,Tryz.ntmps136
 go_wp2_with (first | (go_at_call 147;refine HC.out.mono ?_;rintro e w1 ⟨rfl,h1,hb1⟩;have H1:=hid (And.intro h1 hb1);obtain ⟨hBb,v,hbk,hown,hne⟩:=h1;obtain ⟨A0,c0',rfl⟩:=zad hown;have hlt:=H1.out.1.lt;have c1:w1.cell? ⟨b,1,none⟩=some (.slice A0 bs.length c0'):=(by rw [Lib.cell_of_heap hbk];rfl);have HO:=hid hown;have HK:=hid hbk;have HNE:=hid hne;clear hown hbk hne hb1) | (at_builtin;refine Lib.wpList_append_own_string _ rfl (.tmp 12) (.tmp 13) 44 9 rfl B 5 i0 Tryz.underlying44 Tryz.underlying9 HI0.out.1 HI0.out.2.1 HI0.out.2.2.1 HI0.out.2.2.2 (.slice A0 bs.length c0') bs.length bs rfl HO.out s rfl hmax (by omega) (by omega) ?_;intro v3 W3 hown3 hgrow3 _;obtain ⟨A3,c3,rfl⟩:=zad hown3;have hb2:W3.heap[b]? = some (.cells #[.pointer (some ⟨b,0,none⟩),.slice A0 bs.length c0'] 169 (0,0)):=(by rw [hgrow3.block b hlt (fun e=>HNE.out e.symm)];exact HK.out);have d1:W3.cell? ⟨b,1,none⟩=some (.slice A0 bs.length c0'):=(by rw [Lib.cell_of_heap hb2];rfl);have f1:W3.frozen? ⟨b,1,none⟩=false:=Lib.frozen_of_heap hb2 1;have H3:=hid (And.intro hown3 (And.intro hgrow3 hb2));clear hown3 hgrow3 hb2))
 go_ret2
 refine ⟨rfl,Lib.BuilderAt.put hBb H3.out.2.2 (bs':=bs++Lib.strCells s) (by simpa [Lib.strCells_length] using H3.out.1) (by decide),?_⟩
 exact (H1.out.2.grown (by omega) HO.out H3.out.2.1).set hBb 1 _
theorem sizeByteS:(Tryz.prog.info? 5).map (·.size)=some 1:=by kernel_rfl
theorem neSB:169≠5:=by decide
theorem zkG (B b n:Nat) (w:World) (hB:B<=b) (hbk:w.heap[b]? = some (.cells #[.pointer (some ⟨b,0,none⟩),.slice none 0 0] 169 (0,0))) (hBw:B<=w.heap.size) (hn:n<=281474976710656):
  Calls Tryz.prog 148 #[.pointer (some ⟨b,0,none⟩),.int .i64 n] w fun e w'=>e=.returned (.tuple #[])/\SBAt B b [] w'/\Below B w w':=by
 obtain ⟨cs,hrun,hle,hmax⟩:=Lib.run_makeNoZero (P:=Tryz.prog) w.drew #[3] 44 5 Tryz.underlying44 n hn;have hw:IntKind.i64.wrap (IntKind.i64.wrap 0+(n:Int))=n:=by
  rw [IntKind.wrap_i64,IntKind.wrap_i64];omega
 have hcall:(callFunc 155 #[.int .i64 (IntKind.i64.wrap (IntKind.i64.wrap 0+(n:Int)))]).run Tryz.prog w.drew=.ok (.value (.slice (some ⟨w.drew.heap.size,0,none⟩) n cs.size)) (w.drew.drew.drew.alloc (.cells cs 5)):=by
  rw [hw,run_callFunc_extern Tryz.func155 (by kernel_rfl) (by kernel_rfl) (by kernel_rfl) (e:=Extern.BytealgMakeNoZero.makeNoZero #[3] #[44]) (by kernel_rfl),hrun]
  rfl
 have c1:w.drew.cell? ⟨b,1,none⟩=some (.slice none 0 0):=by
  have:w.drew.heap[b]? = _:=hbk;rw [Lib.cell_of_heap this];rfl
 have hlt:b<w.heap.size:=by
  rcases Nat.lt_or_ge b w.heap.size with h' | h'
  ·exact h'
  ·simp [Array.getElem?_eq_none h'] at hbk
 have c2:(w.alloc (.cells cs 5)).cell? ⟨b,1,none⟩=some (.slice none 0 0):=by
  have:(w.alloc (.cells cs 5)).heap[b]? = _:=(Lib.alloc_old w _ b hlt).trans hbk;rw [Lib.cell_of_heap this];rfl
 have f2:(w.alloc (.cells cs 5)).frozen? ⟨b,1,none⟩=false:=Lib.frozen_of_heap ((Lib.alloc_old w _ b hlt).trans hbk) 1;have hcopy:∀ W:World,(Builtin.copy_ #[44,44] 3 #[.slice (some ⟨w.heap.size,0,none⟩) 0 cs.size,.slice none 0 0]).run Tryz.prog W=.ok (goInt 0) W:=
  fun W=>run_copy_none W 44 44 3 5 _ _ 0 cs.size 0 0 Tryz.underlying44 sizeByteS rfl
 clear hw hlt;have mixed:Tryz.prog.follows .mixedOrders=true:=by kernel_rfl
 go_enter Tryz.func148,Tryz.ntmps148
 go_wp2
 have hfin:=Lib.grown_fresh (T:=169) (e:=5) (cs:=cs) hB hbk hBw (hmax (by unfold maxLen;omega)) neSB
 go_region_o
 all_goals (go_wp2;go_end0;exact ⟨rfl,hfin⟩)
theorem zkP (B b n:Nat) (w:World) (hB:B<=b) (hbk:w.heap[b]? = some (.cells #[.pointer none,.slice none 0 0] 169 (0,0))) (_hBw:B<=w.heap.size) (hn:n<=281474976710656):
  Calls Tryz.prog 135 #[.pointer (some ⟨b,0,none⟩),.int .i64 n] w fun e w'=>e=.returned (.tuple #[])/\SBAt B b [] w'/\Below B w w':=by
 have hbk1:(w.setCell ⟨b,0,none⟩ (.pointer (some ⟨b,0,none⟩))).heap[b]? = some (.cells #[.pointer (some ⟨b,0,none⟩),.slice none 0 0] 169 (0,0)):=by
  simp [World.setCell,Array.getElem?_modify,hbk]
 have hb1:Below B w (w.setCell ⟨b,0,none⟩ (.pointer (some ⟨b,0,none⟩))):=(Below.refl B w).setCell (p:=⟨b,0,none⟩) hB _;have hU:SBAt B b [] (w.setCell ⟨b,0,none⟩ (.pointer (some ⟨b,0,none⟩))):=⟨hB,.slice none 0 0,hbk1,World.ownsRow_nil _ _ _ _,by simp [Value.ownBlock]⟩
 have c1':(w.setCell ⟨b,0,none⟩ (.pointer (some ⟨b,0,none⟩))).drew.cell? ⟨b,1,none⟩=some (.slice none 0 0):=by
  have:(w.setCell ⟨b,0,none⟩ (.pointer (some ⟨b,0,none⟩))).drew.heap[b]? = _:=hbk1;rw [Lib.cell_of_heap this];rfl
 have mixed:Tryz.prog.follows .mixedOrders=true:=by kernel_rfl
 go_enter Tryz.func135,Tryz.ntmps135
 go_wp2_with (go_at_call 147;refine (zgQ b w (by rw [Lib.cell_of_heap hbk];rfl) (by simp [World.shape?,hbk]) (Lib.frozen_of_heap hbk 0)).mono ?_;rintro e w' ⟨rfl,rfl⟩)
 generalize hW1:(w.setCell ⟨b,0,none⟩ (.pointer (some ⟨b,0,none⟩)))=W1 at *;clear hW1;have c1:W1.cell? ⟨b,1,none⟩=some (.slice none 0 0):=c1';have hsz:B<=W1.heap.size:=by
  have:b<W1.heap.size:=by
   rcases Nat.lt_or_ge b W1.heap.size with h' | h'
   ·exact h'
   ·simp [Array.getElem?_eq_none h'] at hbk1
  omega
 have HH:=hid (And.intro hbk1 (And.intro hb1 (And.intro hU hsz)));clear c1' hbk1 hb1 hU hbk hsz
 go_quiet (fail)
 have HD:=hid (show (W1.drewN nq).heap=W1.heap from rfl);have HB:=hid (show Below W1.heap.size W1 (W1.drewN nq) from ⟨rfl,rfl,rfl,Nat.le_refl _,fun _ _=>rfl⟩)
 have HU:=hid (show SBAt B b [] (W1.drewN nq) from HH.out.2.2.1);have HK:=hid (show (W1.drewN nq).heap[b]? = some (.cells #[.pointer (some ⟨b,0,none⟩),.slice none 0 0] 169 (0,0)) from HH.out.1);clear c1;generalize W1.drewN nq=W2 at *;rcases Nat.eq_zero_or_pos n with h0 | h0
 ·have h0':¬ 0<n:=by omega
  clear h0;go_wp2
  go_end0
  exact ⟨rfl,HU.out,HH.out.2.1.trans (HB.out.mono HH.out.2.2.2)⟩
 ·go_wp2_with (go_at_call 148;refine (zkG B b n W2 hB HK.out (by rw [HD.out];exact HH.out.2.2.2) hn).mono ?_;rintro e w' ⟨rfl,h1,h2⟩;have HZ:=hid (And.intro h1 h2);clear h1 h2)
  go_end0
  exact ⟨rfl,HZ.out.1,(HH.out.2.1.trans (HB.out.mono HH.out.2.2.2)).trans HZ.out.2⟩
end Go.Proofs.YthmcfjmignlhfaaGreatDoor
namespace Go.Proofs.YthmcfjmignlhfaaGreatDoor
open Go.Lib(hid)
open Go Go.RowKit
set_option linter.unusedVariables false
set_option linter.unusedSimpArgs false
theorem zdm {k:IntKind} {a b:Int} (h:a=b):Ending.returned (.int k a)=.returned (.int k b):=by rw [h]
theorem zbs (w:World) (s:ByteArray) (pos:Nat):Below w.heap.size w (w.iter s pos):=by
 show Below w.heap.size w _
 unfold World.iter;exact (Below.refl _ w).alloc (Nat.le_refl _) _
theorem zg6 (s:ByteArray) (w:World) (hs:s.size<=9223372036854775807):
  Calls Tryz.prog 62 #[.string s] w fun e w'=>e=.returned (.int .i64 (nChars s))/\Below w.heap.size w w':=by
 obtain ⟨hch,hle⟩:=zaJ s;have HC:=hid hch;clear hch;generalize hc:nChars s=c at *;clear hc;go_enter Tryz.func62,Tryz.ntmps62
 go_wp2
 go_loopw [3] (fun n w'=>∃ k:Nat,w'=w.iter s (cutS s k)/\n=.int .i64 k/\k<=c) (fun _ w'=>s.size - w'.iterPos w.heap.size)
 case atStart=>exact ⟨0,rfl,rfl,Nat.zero_le _⟩
 case round=>
  obtain ⟨k,rfl,rfl,hk⟩:=hrel;by_cases hp:cutS s k<s.size
  ·have hkc:k<c:=(Chars.iff HC.out).1 hp
   have hnx:∀ ty,(Instr.next (.pointer (some ⟨w.heap.size,0,none⟩)) true ty).run Tryz.prog (w.iter s (cutS s k))=_:=fun ty=>run_next_any w s (cutS s k) ty hp
   have hnext:cutS s (k+1)=cutS s k+(Utf8.decode s (cutS s k)).2:=zdr hp;have hwd:=Lib.decode_width_pos s (cutS s k) hp;have HN:=hid hnext;have HP:=hid hp;clear hnext;generalize cutS s k=pos at *;go_wp2
   go_roundw
   case rel=>exact ⟨k+1,by rw [HN.out],by go_num,hkc⟩
   case measure=>
    simp
    omega
  ·have hkc:k=c:=by
    have h1:¬ k<c:=fun h=>hp ((Chars.iff HC.out).2 h)
    omega
   have hnx:∀ ty,(Instr.next (.pointer (some ⟨w.heap.size,0,none⟩)) true ty).run Tryz.prog (w.iter s (cutS s k))=_:=fun ty=>run_next_end w s (cutS s k) ty hp
   have HK:=hid hkc;clear hkc;generalize cutS s k=pos at *;go_wp2
   go_ret
   exact ⟨zdm (by have:=HK.out;omega),zbs w s pos⟩
theorem zcd (s:ByteArray) (i:Nat) (w:World) (hs:s.size<=9223372036854775807) (hi:i<=9223372036854775807):
  Calls Tryz.prog 116 #[.string s,.int .i64 i] w fun e w'=>e=.returned (.int .i64 (cutS s i))/\Below w.heap.size w w':=by
 go_enter Tryz.func116,Tryz.ntmps116
 go_wp2
 go_loopw [1,5] (fun n _ w'=>∃ k:Nat,w'=w.iter s (cutS s k)/\k<=i/\n=.int .i64 ((i - k:Nat):Int)) (fun _ _ w'=>s.size - w'.iterPos w.heap.size)
 case atStart=>exact ⟨0,rfl,Nat.zero_le _,rfl⟩
 case round=>
  obtain ⟨k,rfl,hk,rfl⟩:=hrel;by_cases hp:cutS s k<s.size
  ·have hnx:∀ ty,(Instr.next (.pointer (some ⟨w.heap.size,0,none⟩)) true ty).run Tryz.prog (w.iter s (cutS s k))=_:=fun ty=>run_next_any w s (cutS s k) ty hp
   have hnext:cutS s (k+1)=cutS s k+(Utf8.decode s (cutS s k)).2:=zdr hp;have hwd:=Lib.decode_width_pos s (cutS s k) hp;have HN:=hid hnext;clear hnext;generalize hpos:cutS s k=pos at *;have HPOS:=hid hpos;clear hpos;by_cases hki:k<i
   ·obtain ⟨d,hd⟩:∃ d,i - k=d+1:=⟨i - k - 1,by omega⟩
    rw [hd];have HD:=hid (show i - (k+1)=d by omega)
    have hz:(((d+1:Nat):Int) == 0)=false:=by simp;omega
    have hd9:d<=9223372036854775806:=by omega
    clear hd;go_wp2
    go_roundw
    case rel=>exact ⟨k+1,by rw [HN.out],hki,by rw [HD.out]<;>go_num⟩
    case measure=>
     simp
     omega
   ·have hik:i - k=0:=by omega
    have HK:=hid (show k=i by omega)
    rw [hik];clear hki hik hk;go_wp2
    go_ret
    exact ⟨zdm (by have h1:=HPOS.out;have h2:=HK.out;subst h2;omega),zbs w s _⟩
  ·have hend:cutS s i=s.size:=by
    have h1:cutS s k=s.size:=by have:=zbC s k;omega
    obtain ⟨j,rfl⟩:=Nat.exists_eq_add_of_le hk;exact zgj h1 j
   have hnx:∀ ty,(Instr.next (.pointer (some ⟨w.heap.size,0,none⟩)) true ty).run Tryz.prog (w.iter s (cutS s k))=_:=fun ty=>run_next_end w s (cutS s k) ty hp
   have HE:=hid hend;clear hend;generalize cutS s k=pos at *;go_wp2
   go_ret
   exact ⟨zdm (by have:=HE.out;omega),zbs w s pos⟩
theorem zb5 (s:ByteArray) (c:GC) (A AL AO:Option Addr) (cp cL cO:Nat) (w:World) (hs:s.size<=9223372036854775807) (hk:c.kq=8\/c.kq=9):
  Calls Tryz.prog 111 #[.string s,.agg #[.int .u8 c.kq,.slice A c.path.length cp,.string c.key,.int .i64 c.i,.int .i64 c.j,.int .i64 c.n,.int .u8 c.v.kq,.int .i64 c.v.num,.string c.v.str,.slice AL c.v.il.length cL,.slice AO c.v.vz.length cO,.string c.s]] w fun e w'=>e=.returned (.int .u16 (chkT (nChars s) c.kq.toNat c.i c.n))/\Below w.heap.size w w':=by
 have HL:=hid (fun W=>zg6 s W hs)
 have hle:nChars s<=9223372036854775807:=Nat.le_trans (zaJ s).2 hs;have H0:=hid (Whole.new w 48 #[.int .u8 c.kq,.slice A c.path.length cp,.string c.key,.int .i64 c.i,.int .i64 c.j,.int .i64 c.n,.int .u8 c.v.kq,.int .i64 c.v.num,.string c.v.str,.slice AL c.v.il.length cL,.slice AO c.v.vz.length cO,.string c.s]);have HB:=hid (zaa w (.cells #[.int .u8 c.kq,.slice A c.path.length cp,.string c.key,.int .i64 c.i,.int .i64 c.j,.int .i64 c.n,.int .u8 c.v.kq,.int .i64 c.v.num,.string c.v.str,.slice AL c.v.il.length cL,.slice AO c.v.vz.length cO,.string c.s] 48));rcases hk with hk | hk
 ·have hk8:(c.kq != 8)=false:=by simp;omega
  have hk9:(c.kq == 9)=false:=by simp;omega
  rw [show chkT (nChars s) c.kq.toNat c.i c.n=if c.i<0 then 32 else if (nChars s:Int)<c.i then 32 else 0 by unfold chkT;rw [show c.kq.toNat=8 by omega];simp;repeat' split;all_goals omega]
  clear hk;generalize nChars s=m at *;by_cases h0:c.i<0<;>by_cases h1:(m:Int)<c.i<;>first | (exfalso;omega) | (have K0:=hid h0;have K1:=hid h1;(go_enter Tryz.func111,Tryz.ntmps111;go_wp2_with (go_at_call 62;refine (HL.out _).mono ?_;rintro e w1 ⟨rfl,hb⟩;have H1:=hid (H0.out.below hb (by simp));have HB1:=hid (HB.out.trans (hb.mono (by simp)));obtain ⟨c0,c1,c2,c3,c4,c5,c6,c7,c8,c9,c10,c11,_⟩:=H1.out.tw;clear hb);go_ret;exact ⟨by simp [K0.out,K1.out],HB1.out⟩))
 ·have hk8:(c.kq != 8)=true:=by simp;omega
  have hk9n:(c.kq != 9)=false:=by simp;omega
  have hk9:(c.kq == 9)=true:=by simp;omega
  rw [show chkT (nChars s) c.kq.toNat c.i c.n=if c.i<0 then 32 else if (nChars s:Int)<c.i then 32 else if c.n<1 then 32 else if (nChars s:Int) - c.i<c.n then 32 else 0 by unfold chkT;rw [show c.kq.toNat=9 by omega];simp;repeat' split;all_goals omega]
  clear hk;generalize nChars s=m at *;by_cases h0:c.i<0<;>by_cases h1:(m:Int)<c.i<;>by_cases h2:c.n<1<;>by_cases h3:(m:Int) - c.i<c.n<;>first | (exfalso;omega) | (have K0:=hid h0;have K1:=hid h1;have K2:=hid h2;have K3:=hid h3;(go_enter Tryz.func111,Tryz.ntmps111;go_wp2_with (go_at_call 62;refine (HL.out _).mono ?_;rintro e w1 ⟨rfl,hb⟩;have H1:=hid (H0.out.below hb (by simp));have HB1:=hid (HB.out.trans (hb.mono (by simp)));obtain ⟨c0,c1,c2,c3,c4,c5,c6,c7,c8,c9,c10,c11,_⟩:=H1.out.tw;clear hb);go_ret;exact ⟨by simp [K0.out,K1.out,K2.out,K3.out],HB1.out⟩))
end Go.Proofs.YthmcfjmignlhfaaGreatDoor
namespace Go.Proofs.YthmcfjmignlhfaaGreatDoor
open Go.Lib(hid)
open Go Go.RowKit Go.Shelf
set_option linter.unusedVariables false
set_option linter.unusedSimpArgs false
theorem zdH (s:ByteArray):Lib.strCells s=Lib.byteCells s.data.toList:=rfl
theorem zgS (a b:List UInt8):Lib.byteCells a++Lib.byteCells b=Lib.byteCells (a++b):=by simp [Lib.byteCells]
theorem zkK (a b c:ByteArray):(⟨(a.data.toList++b.data.toList++c.data.toList).toArray⟩:ByteArray)=a++b++c:=by
 apply ByteArray.ext
 apply Array.ext'
 simp
theorem zfQ (a b c:ByteArray) (w:World) (hs:a.size+b.size+c.size<=140737488355328):
  Calls Tryz.prog 117 #[.string a,.string b,.string c] w fun e w'=>e=.returned (.string (a++b++c))/\Below w.heap.size w w':=by
 have hbk:(w.alloc (.cells #[.pointer none,.slice none 0 0] 169)).heap[w.heap.size]? = some (.cells #[.pointer none,.slice none 0 0] 169 (0,0)):=heap_alloc_new w _;have hgr:=zkP w.heap.size w.heap.size (a.size+b.size+c.size) (w.alloc (.cells #[.pointer none,.slice none 0 0] 169)) (Nat.le_refl _) hbk (by simp) (by omega)
 rw [Int.natCast_add,Int.natCast_add] at hgr;have HG:=hid hgr;clear hgr;have HB0:=hid (zaa w (.cells #[.pointer none,.slice none 0 0] 169));have hsz:((a.size:Int)+(b.size:Int))<=140737488355328:=by omega
 have hsz2:((a.size:Int)+(b.size:Int)+(c.size:Int))<=140737488355328:=by omega
 clear hbk;have HW:=hid (fun (bs:List Value) (s:ByteArray) (W:World) (h:SBAt w.heap.size w.heap.size bs W) (hl:bs.length+s.size<=140737488355328)=>zlB w.heap.size w.heap.size bs s W (.inr h) hl)
 have HS:=hid (fun (l:List UInt8) (W:World) (h:SBAt w.heap.size w.heap.size (Lib.byteCells l) W)=>Tryz.Builder_String_any w.heap.size w.heap.size l W (.inr h) (Nat.le_of_lt h.lt))
 go_enter Tryz.func117,Tryz.ntmps117
 go_wp2_with (first
  | (go_at_call 135;refine HG.out.mono ?_;rintro e w1 ⟨rfl,h1,hb⟩;have H1:=hid (And.intro h1 (HB0.out.trans hb));clear h1 hb)
  | (go_at_call 136;(with_reducible refine (HW.out [] a _ H1.out.1 (by simp;omega)).mono ?_);rintro e w2 ⟨rfl,h1,hb⟩;have H2:=hid (And.intro h1 (H1.out.2.trans hb.below));clear h1 hb)
  | (go_at_call 136;(with_reducible refine (HW.out _ b _ H2.out.1 (by simp [Lib.strCells_length];omega)).mono ?_);rintro e w3 ⟨rfl,h1,hb⟩;have H3:=hid (And.intro h1 (H2.out.2.trans hb.below));clear h1 hb)
  | (go_at_call 136;(with_reducible refine (HW.out _ c _ H3.out.1 (by simp [Lib.strCells_length];omega)).mono ?_);rintro e w4 ⟨rfl,h1,hb⟩;have H4:=hid (And.intro h1 (H3.out.2.trans hb.below));clear h1 hb)
  | (go_at_call 137;have hat:SBAt w.heap.size w.heap.size (Lib.byteCells (a.data.toList++b.data.toList++c.data.toList)) w4:=(by have:=H4.out.1;rw [List.nil_append,zdH,zdH,zdH,zgS,zgS] at this;exact this);refine (HS.out _ _ hat).mono ?_;rintro e w5 ⟨rfl,hb⟩;have H5:=hid (H4.out.2.trans hb)))
 go_ret
 exact ⟨by show Ending.returned (.string ⟨(a.data.toList++(b.data.toList++c.data.toList)).toArray⟩)=.returned (.string (a++b++c));rw [<- zkK,List.append_assoc],H5.out⟩
open Go Go.RowKit
open Go.Sort (grow)
theorem zf2 (s:ByteArray) (c:GC) (i:Nat) (A AL AO:Option Addr) (cp cL cO:Nat) (w:World) (hs:s.size+c.s.size<=140737488355328) (hk:c.kq=8) (hi:c.i=i) (hin:i<=nChars s):
  Calls Tryz.prog 89 #[.string s,.agg #[.int .u8 c.kq,.slice A c.path.length cp,.string c.key,.int .i64 c.i,.int .i64 c.j,.int .i64 c.n,.int .u8 c.v.kq,.int .i64 c.v.num,.string c.v.str,.slice AL c.v.il.length cL,.slice AO c.v.vz.length cO,.string c.s]] w fun e w'=>e=.returned (.tuple #[.string (insS s i c.s),.int .u16 0])/\Below w.heap.size w w':=by
 have h0:chkT (nChars s) c.kq.toNat c.i c.n=0:=by
  unfold chkT;rw [show c.kq.toNat=8 by omega,hi]
  simp
  omega
 have HCK:=hid (fun W=>zb5 s c A AL AO cp cL cO W (by omega) (.inl hk))
 rw [h0] at HCK;have hnl:=(zaJ s).2;have HOF:=hid (fun W=>zcd s i W (by omega) (by omega))
 have hcl:=zbC s i;have D1:=hid (fun (W0:World) (d:Nat) (os:Array Obj)=>Calls.regrown_of (zfQ (s.extract 0 (cutS s i)) c.s (s.extract (cutS s i) s.size) (grow (redrawn W0 d) os) (by simp [ByteArray.size_extract];omega)))
 have hk8:(c.kq == 8)=true:=by simp;omega
 have H0:=hid (Whole.new w 48 #[.int .u8 c.kq,.slice A c.path.length cp,.string c.key,.int .i64 c.i,.int .i64 c.j,.int .i64 c.n,.int .u8 c.v.kq,.int .i64 c.v.num,.string c.v.str,.slice AL c.v.il.length cL,.slice AO c.v.vz.length cO,.string c.s]);have HB:=hid (zaa w (.cells #[.int .u8 c.kq,.slice A c.path.length cp,.string c.key,.int .i64 c.i,.int .i64 c.j,.int .i64 c.n,.int .u8 c.v.kq,.int .i64 c.v.num,.string c.v.str,.slice AL c.v.il.length cL,.slice AO c.v.vz.length cO,.string c.s] 48));have HI:=hid hi;rw [hi] at HCK H0 HB ⊢;show Calls _ _ _ w fun e w'=>e=.returned (.tuple #[.string (s.extract 0 (cutS s i)++c.s++s.extract (cutS s i) s.size),.int .u16 0])/\Below w.heap.size w w'
 clear hk hi hin h0 hnl;generalize cutS s i=f at *;have hf0:(0:Int)<=(f:Int):=by omega
 have hf1:(f:Int)<=(s.size:Int):=by omega
 go_enter Tryz.func89,Tryz.ntmps89
 go_wp2_with (first
  | (go_at_call 111;refine (HCK.out _).mono ?_;rintro e w1 ⟨rfl,hb⟩;have H1:=hid (And.intro (H0.out.below hb (by simp)) (HB.out.trans (hb.mono (by simp))));clear hb;obtain ⟨c0,c1,c2,c3,c4,c5,c6,c7,c8,c9,c10,c11,_⟩:=H1.out.1.tw)
  | (go_at_call 116;refine (HOF.out _).mono ?_;rintro e w2 ⟨rfl,hb⟩;have H2:=hid (And.intro (H1.out.1.below hb H1.out.1.lt) (H1.out.2.trans (hb.mono H1.out.2.size)));clear hb c0 c1 c2 c3 c4 c5 c6 c7 c8 c9 c10 c11;obtain ⟨c0,c1,c2,c3,c4,c5,c6,c7,c8,c9,c10,c11,_⟩:=H2.out.1.tw))
 replace c11:=cell_regrown c11;clear c0 c1 c2 c3 c4 c5 c6 c7 c8 c9 c10;refine wp_region_quiet_below (by kernel_rfl) (by kernel_rfl) ?_
 repeat (any_goals (go_big_quiet_step (first | with_reducible exact D1.out _ _ _)))
 refine wpQuiet_nil ?_
 intro _ hw';obtain ⟨⟨dq,osq⟩,hw''⟩:=hw';subst hw'';go_wp2
 go_ret2
 exact ⟨rfl,H2.out.2.trans ((below_regrown w2 dq osq).mono H2.out.2.size)⟩
theorem zj8 (a c:ByteArray):a++⟨#[]⟩++c=a++c:=by
 apply ByteArray.ext
 simp
theorem zf9 (s:ByteArray) (c:GC) (i n:Nat) (A AL AO:Option Addr) (cp cL cO:Nat) (w:World) (hs:s.size<=70368744177664) (hk:c.kq=9) (hi:c.i=i) (hn:c.n=n) (h1:1<=n) (hin:i+n<=nChars s):
  Calls Tryz.prog 89 #[.string s,.agg #[.int .u8 c.kq,.slice A c.path.length cp,.string c.key,.int .i64 c.i,.int .i64 c.j,.int .i64 c.n,.int .u8 c.v.kq,.int .i64 c.v.num,.string c.v.str,.slice AL c.v.il.length cL,.slice AO c.v.vz.length cO,.string c.s]] w fun e w'=>e=.returned (.tuple #[.string (delS s i n),.int .u16 0])/\Below w.heap.size w w':=by
 have h0:chkT (nChars s) c.kq.toNat c.i c.n=0:=by
  unfold chkT;rw [show c.kq.toNat=9 by omega,hi,hn]
  simp
  omega
 have HCK:=hid (fun W=>zb5 s c A AL AO cp cL cO W (by omega) (.inr hk))
 rw [h0] at HCK;have hnl:=(zaJ s).2;have HOF:=hid (fun W=>zcd s i W (by omega) (by omega))
 have hcl:=zbC s i;have hts:=zcq s (cutS s i) hcl;have hc2:=zbC (s.extract (cutS s i) s.size) n;have hdt:=zkk s i n;have D2:=hid (fun (W0:World) (d:Nat) (os:Array Obj)=>Calls.regrown_of (zcd (s.extract (cutS s i) s.size) n (grow (redrawn W0 d) os) (by omega) (by omega)))
 have D1:=hid (fun (W0:World) (d:Nat) (os:Array Obj)=>Calls.regrown_of (zfQ (s.extract 0 (cutS s i)) ⟨#[]⟩ ((s.extract (cutS s i) s.size).extract (cutS (s.extract (cutS s i) s.size) n) (s.extract (cutS s i) s.size).size) (grow (redrawn W0 d) os) (by have e0:(⟨#[]⟩:ByteArray).size=0:=rfl;simp only [ByteArray.size_extract,e0];omega)))
 have hk8:(c.kq == 8)=false:=by simp;omega
 have H0:=hid (Whole.new w 48 #[.int .u8 c.kq,.slice A c.path.length cp,.string c.key,.int .i64 c.i,.int .i64 c.j,.int .i64 c.n,.int .u8 c.v.kq,.int .i64 c.v.num,.string c.v.str,.slice AL c.v.il.length cL,.slice AO c.v.vz.length cO,.string c.s]);have HB:=hid (zaa w (.cells #[.int .u8 c.kq,.slice A c.path.length cp,.string c.key,.int .i64 c.i,.int .i64 c.j,.int .i64 c.n,.int .u8 c.v.kq,.int .i64 c.v.num,.string c.v.str,.slice AL c.v.il.length cL,.slice AO c.v.vz.length cO,.string c.s] 48));rw [hi,hn] at HCK H0 HB ⊢;show Calls _ _ _ w fun e w'=>e=.returned (.tuple #[.string (s.extract 0 (cutS s i)++s.extract (cutS s (i+n)) s.size),.int .u16 0])/\Below w.heap.size w w'
 rw [<- hdt];have hn9:n<=9223372036854775807:=by omega
 clear hk hi hn hin h0 hnl hdt h1 hts;generalize hrest:s.extract (cutS s i) s.size=r at *;generalize cutS s i=f at *;generalize cutS r n=f2 at *;have HRE:=hid hrest;clear hrest;have hf1:(f:Int)<=(s.size:Int):=by omega
 have hf2:(f2:Int)<=(r.size:Int):=by omega
 go_enter Tryz.func89,Tryz.ntmps89
 go_wp2_with (first
  | (go_at_call 111;refine (HCK.out _).mono ?_;rintro e w1 ⟨rfl,hb⟩;have H1:=hid (And.intro (H0.out.below hb (by simp)) (HB.out.trans (hb.mono (by simp))));clear hb;obtain ⟨c0,c1,c2,c3,c4,c5,c6,c7,c8,c9,c10,c11,_⟩:=H1.out.1.tw)
  | (go_at_call 116;refine (HOF.out _).mono ?_;rintro e w2 ⟨rfl,hb⟩;have H2:=hid (And.intro (H1.out.1.below hb H1.out.1.lt) (H1.out.2.trans (hb.mono H1.out.2.size)));clear hb c0 c1 c2 c3 c4 c5 c6 c7 c8 c9 c10 c11;obtain ⟨c0,c1,c2,c3,c4,c5,c6,c7,c8,c9,c10,c11,_⟩:=H2.out.1.tw))
 rw [HRE.out];replace c5:=cell_regrown c5;clear c0 c1 c2 c3 c4 c6 c7 c8 c9 c10 c11;refine wp_region_quiet_below (by kernel_rfl) (by kernel_rfl) ?_
 repeat (any_goals (go_big_quiet_step (first | with_reducible exact D1.out _ _ _ | with_reducible exact D2.out _ _ _)))
 refine wpQuiet_nil ?_
 intro _ hw';obtain ⟨⟨dq,osq⟩,hw''⟩:=hw';subst hw'';go_wp2
 go_ret2
 exact ⟨by rw [zj8];rfl,H2.out.2.trans ((below_regrown w2 dq osq).mono H2.out.2.size)⟩
end Go.Proofs.YthmcfjmignlhfaaGreatDoor
namespace Go.Proofs.YthmcfjmignlhfaaGreatDoor
open Go.Lib(hid)
open Go Go.RowKit
structure RG (w:World) (h:GV) (BL BO:Option Addr) (dL dO:Nat) (W:World):Prop where
 below:Below w.heap.size w W
 box:Whole W w.heap.size 29 #[.int .u8 h.kq,.int .i64 h.num,.string h.str,.slice BL h.il.length dL,.slice BO h.vz.length dO]
 res:Whole W (w.heap.size+1) 29 ZC
 lst:LstV (fun k=>k<w.heap.size) W (.slice BL h.il.length dL) h.il
 obj:ObjV (fun k=>k<w.heap.size) W (.slice BO h.vz.length dO) h.keys h.vz
theorem RG.later {w W W':World} {h:GV} {BL BO:Option Addr} {dL dO:Nat} (q:RG w h BL BO dL dO W) (hb:Below W.heap.size W W'):RG w h BL BO dL dO W':=
 ⟨q.below.trans (hb.mono q.below.size),q.box.below hb q.box.lt,q.res.below hb q.res.lt,q.lst.keep (From.of_below hb) (fun _ h _=>h),q.obj.keep (From.of_below hb) (fun _ h _=>h)⟩
def RGRel (w:World) (g:GV) (ps:List GStep) (i:Value) (wr:World):Prop:=
 ∃ (k:Nat) (h:GV) (BL BO:Option Addr) (dL dO:Nat),i=.int .i64 k/\k<=ps.length/\g.get ps=h.get (ps.drop k)/\RG w h BL BO dL dO wr/\h.size<=g.size
def RGet (g:GV) (ps:List GStep) (w:World) (e:Ending) (w':World):Prop:=
 Below w.heap.size w w'/\((g.get ps=none/\e=.returned (.tuple #[zeroV,.int .i64 30]))\/∃ h v',g.get ps=some h/\e=.returned (.tuple #[v',.int .i64 0])/\h.val (fun k=>w.heap.size<=k) w' v')
def CutS (w wr:World) (h':GV) (t7 t8 t9:Value) (W:World):Prop:=
 Below wr.heap.size wr W/\t9=.int .i64 0/\∃ (X:Nat) (BL BO:Option Addr) (dL dO:Nat) (k:Nat),t7=.pointer (some ⟨X,0,none⟩)/\t8=.int .i64 k/\Whole W X 29 #[.int .u8 h'.kq,.int .i64 h'.num,.string h'.str,.slice BL h'.il.length dL,.slice BO h'.vz.length dO] /\
  LstV (fun k=>k<w.heap.size) wr (.slice BL h'.il.length dL) h'.il/\ObjV (fun k=>k<w.heap.size) wr (.slice BO h'.vz.length dO) h'.keys h'.vz
def CutN (wr:World) (t7 t8 t9:Value) (W:World):Prop:=Below wr.heap.size wr W/\t9=.int .i64 30/\∃ (X:Nat) (k:Int),t7=.pointer (some ⟨X,0,none⟩)/\t8=.int .i64 k
theorem zjj {ok:Nat->Prop} {w:World} {g:GV} {AL AO:Option Addr} {cL cO:Nat} (hL:LstV ok w (.slice AL g.il.length cL) g.il) (hO:ObjV ok w (.slice AO g.vz.length cO) g.keys g.vz):
  RG w g AL AO cL cO ((w.alloc (.cells #[.int .u8 g.kq,.int .i64 g.num,.string g.str,.slice AL g.il.length cL,.slice AO g.vz.length cO] 29)).alloc (.cells ZC 29)):=by
 have hb:Below w.heap.size w ((w.alloc (.cells #[.int .u8 g.kq,.int .i64 g.num,.string g.str,.slice AL g.il.length cL,.slice AO g.vz.length cO] 29)).alloc (.cells ZC 29)):=
  ((Below.refl _ w).alloc (Nat.le_refl _) _).alloc (by simp) _
 have h2:=Whole.new (w.alloc (.cells #[.int .u8 g.kq,.int .i64 g.num,.string g.str,.slice AL g.il.length cL,.slice AO g.vz.length cO] 29)) 29 ZC;rw [World.size_alloc] at h2;exact ⟨hb,(Whole.new w 29 _).alloc _,h2,hL.keep (From.of_below hb) (fun _ _ h=>h),hO.keep (From.of_below hb) (fun _ _ h=>h)⟩
theorem zeS:∀ (l:List GV) (k:Nat) (h:GV),l[k]? = some h->h.size<=GV.sizes l
 | [],k,h,e=>by simp at e
 | x :: r,0,h,e=>by simp at e;subst e;simp [GV.sizes]
 | x :: r,k+1,h,e=>by
  have:=zeS r k h (by simpa using e)
  simp only [GV.sizes];omega
theorem zgt {g h:GV} {s:GStep} (hi:g.inside s=some h):h.size<=g.size:=by
 cases g with
 | mk k n z l ks ov=>
  rcases zaI hi with ⟨_,_,k',_,hg⟩ | ⟨_,_,_,hg⟩
  ·have:=zeS l k' h hg
   simp only [GV.size];omega
  ·have:=zeS ov _ h hg
   simp only [GV.size];omega
theorem zdP {wr w1:World} (hb:Below ((wr.alloc (.cells #[.int .u8 0,.int .i64 0,.string ⟨#[]⟩,.slice none 0 0,.slice none 0 0] 29)).drew).heap.size ((wr.alloc (.cells #[.int .u8 0,.int .i64 0,.string ⟨#[]⟩,.slice none 0 0,.slice none 0 0] 29)).drew) w1):
  Hid (Whole w1 wr.heap.size 29 #[.int .u8 0,.int .i64 0,.string ⟨#[]⟩,.slice none 0 0,.slice none 0 0]/\Below wr.heap.size wr w1):=
 hid ⟨Whole.below (W:=(wr.alloc (.cells #[.int .u8 0,.int .i64 0,.string ⟨#[]⟩,.slice none 0 0,.slice none 0 0] 29)).drew) (Whole.new wr _ _) hb (by simp),(((Below.refl _ wr).alloc (Nat.le_refl _) _).drew).trans (hb.mono (by simp))⟩
theorem RG.put {w W W':World} {h h':GV} {BL BO BL' BO':Option Addr} {dL dO dL' dO':Nat} (q:RG w h BL BO dL dO W) (hb:Below W.heap.size W W') (hL:LstV (fun k=>k<w.heap.size) W (.slice BL' h'.il.length dL') h'.il) (hO:ObjV (fun k=>k<w.heap.size) W (.slice BO' h'.vz.length dO') h'.keys h'.vz):
  RG w h' BL' BO' dL' dO' (put5 W' w.heap.size (.int .u8 h'.kq) (.int .i64 h'.num) (.string h'.str) (.slice BL' h'.il.length dL') (.slice BO' h'.vz.length dO')):=by
 have q':=q.later hb;have hF:From (fun k=>k<w.heap.size) W' (put5 W' w.heap.size (.int .u8 h'.kq) (.int .i64 h'.num) (.string h'.str) (.slice BL' h'.il.length dL') (.slice BO' h'.vz.length dO')):=fun k hk _=>zae _ _ _ _ _ _ _ _ (by omega)
 exact ⟨zai q'.below (Nat.le_refl _) _ _ _ _ _,zao q'.box _ _ _ _ _,q'.res.of_eq (zae _ _ _ _ _ _ _ _ (by omega)),(hL.keep (From.of_below hb) (fun _ h _=>h)).keep hF (fun _ h _=>h),(hO.keep (From.of_below hb) (fun _ h _=>h)).keep hF (fun _ h _=>h)⟩
theorem zk4 (ok:Nat->Prop) (v:Value) (g:GV) (hi:Nat) (A:Option Addr) (cap:Nat) (ps:List GStep) (w:World) (hv:g.val ok w v) (hp:Steps hi w A ps) (hhi:hi<=w.heap.size) (hcap:ps.length<=cap) (hm:cap<=maxLen) (hsz:g.size<=1000000000):
  Calls Tryz.prog 39 #[v,.slice A ps.length cap] w (RGet g ps w):=by
 obtain ⟨L,O,rfl,hL,hO⟩:=hv;obtain ⟨AL,cL,rfl⟩:=zaf hL;obtain ⟨AO,cO,rfl⟩:=zag hO;have HST:=hid (zjj hL hO);have HP:=hid hp;clear hL hO hp;unfold maxLen at hm;unfold ZC at HST;go_enter Tryz.func39,Tryz.ntmps39
 go_wp2
 go_loopw [6] (RGRel w g ps) (fun i _=>ps.length - (intOf i).toNat)
 case atStart=>exact ⟨0,g,AL,AO,cL,cO,rfl,Nat.zero_le _,rfl,HST.out,Nat.le_refl _⟩
 case round=>
  obtain ⟨k,h,BL,BO,dL,dO,rfl,hk,hget,hR,hgs⟩:=hrel;have HR:=hid hR;clear hR;by_cases hlt:k<ps.length
  ·obtain ⟨pb,po,rfl,hpb,p0,p1,p2⟩:=(HP.out.keep (HR.out.below.mono hhi) (Nat.le_refl _)).one hlt
   have hdr:ps.drop k=ps[k] :: ps.drop (k+1):=List.drop_eq_getElem_cons hlt;rw [hdr] at hget;simp only [GV.get] at hget;have hstep:∀ W,Below wr.heap.size wr W->Calls Tryz.prog 69 #[.agg #[.int .u8 h.kq,.int .i64 h.num,.string h.str,.slice BL h.il.length dL,.slice BO h.vz.length dO],.agg #[.bool ps[k].list,.int .i64 ps[k].i,.string ps[k].key]] W (StepPost (fun k=>k<w.heap.size) h ps[k] W):=fun W hb=>
    zjJ _ _ h ps[k] W ⟨_,_,rfl,HR.out.lst.keep (From.of_below hb) (fun _ h _=>h),HR.out.obj.keep (From.of_below hb) (fun _ h _=>h)⟩
   have HGET:=hid hget;clear hget hdr;obtain ⟨v0,v1,v2,v3,v4,_⟩:=HR.out.box.five;have hws:w.heap.size<=wr.heap.size:=HR.out.below.size;generalize hs:ps[k]=s at *;have q0:=fun o=>zab o p0
   have q1:=fun o=>zab o p1
   have q2:=fun o=>zab o p2
   have g0:=fun o=>zab o v0
   have g1:=fun o=>zab o v1
   have g2:=fun o=>zab o v2
   have g3:=fun o=>zab o v3
   have g4:=fun o=>zab o v4
   cases hio:h.inside s with
   | none=>
    have hs2:=fun W hb=>(hstep W hb).mono (R':=fun e w'=>e=.returned (.tuple #[.agg #[.int .u8 0,.int .i64 0,.string ⟨#[]⟩,.slice none 0 0,.slice none 0 0],.int .i64 0,.int .i64 30])/\Below W.heap.size W w') fun e w' hq=>by
     rcases hq.2 with ⟨_,he⟩ | ⟨h',_,_,_,_,_,hx,_⟩
     ·exact ⟨he,hq.1⟩
     ·rw [hio] at hx;cases hx
    have HC:=hid hs2;clear hs2 hstep
    go_wp2_with fail
    go_cut [7,8,9] from 10 to 30 (CutN wr)
    case first=>
     go_region_with (first | (go_at_call 69;refine (HC.out wr.drew (Below.refl _ wr).drew).mono ?_;rintro e w1 ⟨rfl,hb1⟩;have HB1:Hid (Below wr.heap.size wr w1):=hid ((Below.refl _ wr).drew.trans hb1);clear hb1) | (go_at_call 69;refine (HC.out _ ((Below.refl _ wr).alloc (Nat.le_refl _) _).drew).mono ?_;rintro e w1 ⟨rfl,hb1⟩;have HX:=zdP hb1;obtain ⟨x0,x1,x2,x3,x4,y0,y1,y2,y3,y4⟩:=HX.out.1.five;have HB1:Hid (Below wr.heap.size wr w1):=hid HX.out.2;clear hb1))
     all_goals go_wp2_with fail
     all_goals go_meet
     all_goals first | exact ⟨HB1.out.alloc HB1.out.size _,rfl,_,_,rfl,rfl⟩ | exact ⟨zai HB1.out (Nat.le_refl _) _ _ _ _ _,rfl,_,_,rfl,rfl⟩
    case rest=>
     obtain ⟨hbw,rfl,X,kx,rfl,rfl⟩:=hcut;have HR2:=hid (HR.out.later hbw);obtain ⟨x0,x1,x2,x3,x4,y0,y1,y2,y3,y4⟩:=HR2.out.res.five;obtain ⟨d0,d1,d2,d3,d4,_⟩:=(zao HR2.out.res (.int .u8 0) (.int .i64 0) (.string ⟨#[]⟩) (.slice none 0 0) (.slice none 0 0)).five;unfold put5 at d0 d1 d2 d3 d4;clear hbw q0 q1 q2 g0 g1 g2 g3 g4;go_wp2
     refine bodyPost_ret (v:=.tuple #[zeroV,.int .i64 30]) (by simp [results,Tryz.results39,go_sem,zeroV,d0,d1,d2,d3,d4]) rfl ?_
     exact ⟨zai HR2.out.below (by omega) _ _ _ _ _,.inl ⟨by rw [HGET.out,hio];rfl,rfl⟩⟩
   | some h'=>
    have hs2:=fun W (hb:Below wr.heap.size wr W)=>(hstep W hb).mono (R':=fun e w'=>∃ BL' BO' dL' dO' kk,e=.returned (.tuple #[.agg #[.int .u8 h'.kq,.int .i64 h'.num,.string h'.str,.slice BL' h'.il.length dL',.slice BO' h'.vz.length dO'],.int .i64 (kk:Nat),.int .i64 0]) /\
      LstV (fun k=>k<w.heap.size) wr (.slice BL' h'.il.length dL') h'.il/\ObjV (fun k=>k<w.heap.size) wr (.slice BO' h'.vz.length dO') h'.keys h'.vz/\Below W.heap.size W w') fun e w' hq=>by
     rcases hq.2 with ⟨hx,_⟩ | ⟨h2,BL',BO',dL',dO',kk,hx,he,hL,hO,_⟩
     ·rw [hio] at hx;cases hx
     ·rw [hio] at hx;cases hx
      exact ⟨BL',BO',dL',dO',kk,he,hL.keep (fun k hk _=>(hb.block k (by omega)).symm) (fun _ h _=>h),hO.keep (fun k hk _=>(hb.block k (by omega)).symm) (fun _ h _=>h),hq.1⟩
    have HC:=hid hs2;clear hs2 hstep
    go_wp2_with fail
    go_cut [7,8,9] from 10 to 30 (CutS w wr h')
    case first=>
     go_region_with (first | (go_at_call 69;refine (HC.out wr.drew (Below.refl _ wr).drew).mono ?_;rintro e w1 ⟨BL',BO',dL',dO',kk,rfl,hL1,hO1,hb1⟩;have HLO:=hid (And.intro hL1 hO1);clear hL1 hO1;have HB1:Hid (Below wr.heap.size wr w1):=hid ((Below.refl _ wr).drew.trans hb1);clear hb1) | (go_at_call 69;refine (HC.out _ ((Below.refl _ wr).alloc (Nat.le_refl _) _).drew).mono ?_;rintro e w1 ⟨BL',BO',dL',dO',kk,rfl,hL1,hO1,hb1⟩;have HLO:=hid (And.intro hL1 hO1);clear hL1 hO1;have HX:=zdP hb1;obtain ⟨x0,x1,x2,x3,x4,y0,y1,y2,y3,y4⟩:=HX.out.1.five;have HB1:Hid (Below wr.heap.size wr w1):=hid HX.out.2;clear hb1))
     all_goals go_wp2_with fail
     all_goals go_meet
     all_goals first
      | (have hx:=HX.out.1;exact ⟨zai HB1.out (Nat.le_refl _) _ _ _ _ _,rfl,_,BL',BO',dL',dO',kk,rfl,rfl,zao hx _ _ _ _ _,HLO.out.1,HLO.out.2⟩)
      | exact ⟨HB1.out.alloc HB1.out.size _,rfl,_,BL',BO',dL',dO',kk,rfl,rfl,Whole.new w1 _ _,HLO.out.1,HLO.out.2⟩
    case rest=>
     obtain ⟨hbw,rfl,X,BL',BO',dL',dO',kx,rfl,rfl,hX,hL',hO'⟩:=hcut;have HR2:=hid (HR.out.later hbw);have HR3:=hid (HR.out.put hbw hL' hO');obtain ⟨x0,x1,x2,x3,x4,_⟩:=hX.five;obtain ⟨v0,v1,v2,v3,v4,y0,y1,y2,y3,y4⟩:=HR2.out.box.five;clear hbw q0 q1 q2 g0 g1 g2 g3 g4 hX hL' hO';go_wp2
     go_roundw
     case rel=>exact ⟨k+1,h',BL',BO',dL',dO',by go_num,by omega,by rw [HGET.out,hio];rfl,HR3.out,Nat.le_trans (zgt hio) hgs⟩
     case measure=>simp [intOf];omega
  ·have hk':k=ps.length:=by omega
   have hd:ps.drop k=[]:=by rw [hk'];simp
   rw [hd] at hget;have hcopy:=fun (W:World) (hb:Below wr.heap.size wr W)=>(zjC h.size (fun k=>k<w.heap.size) (.agg #[.int .u8 h.kq,.int .i64 h.num,.string h.str,.slice BL h.il.length dL,.slice BO h.vz.length dO]) h W (Nat.le_refl _) ⟨_,_,rfl,HR.out.lst.keep (From.of_below hb) (fun _ h _=>h),HR.out.obj.keep (From.of_below hb) (fun _ h _=>h)⟩ (Nat.le_trans hgs hsz)).mono
    (R':=fun e w'=>∃ BL dL BO dO,e=.returned (.agg #[.int .u8 h.kq,.int .i64 h.num,.string h.str,.slice BL h.il.length dL,.slice BO h.vz.length dO])/\LstV (fun k=>wr.heap.size<=k) w' (.slice BL h.il.length dL) h.il/\ObjV (fun k=>wr.heap.size<=k) w' (.slice BO h.vz.length dO) h.keys h.vz/\Below wr.heap.size wr w') fun e w' ⟨v',he,⟨L,O,hv,hL,hO⟩,hb'⟩=>by
     subst hv;obtain ⟨BL,dL,rfl⟩:=zaf hL;obtain ⟨BO,dO,rfl⟩:=zag hO;exact ⟨BL,dL,BO,dO,he,hL.keep (From.refl _ _) (fun k hk _=>Nat.le_trans hb.size hk),hO.keep (From.refl _ _) (fun k hk _=>Nat.le_trans hb.size hk),hb.trans (hb'.mono hb.size)⟩
   have HC:=hid hcopy;have HGET:=hid hget;clear hcopy hget hd;obtain ⟨v0,v1,v2,v3,v4,_⟩:=HR.out.box.five
   go_wp2_with (go_at_call 22;refine (HC.out _ (Below.refl _ _)).mono ?_;rintro e w1 ⟨CL,eL,CO,eO,rfl,hL,hO,hb1⟩;obtain ⟨x0,x1,x2,x3,x4,y0,y1,y2,y3,y4⟩:=(HR.out.later hb1).res.five;have HB1:=hid hb1;have HV:=hid (And.intro hL hO);clear hb1 hL hO)
   have hlt2:=HR.out.res.lt;obtain ⟨d0,d1,d2,d3,d4,_⟩:=(zao (HR.out.later HB1.out).res (.int .u8 h.kq) (.int .i64 h.num) (.string h.str) (.slice CL h.il.length eL) (.slice CO h.vz.length eO)).five;unfold put5 at d0 d1 d2 d3 d4;refine bodyPost_ret (v:=.tuple #[.agg #[.int .u8 h.kq,.int .i64 h.num,.string h.str,.slice CL h.il.length eL,.slice CO h.vz.length eO],.int .i64 0]) (by simp [results,Tryz.results39,go_sem,d0,d1,d2,d3,d4]) rfl ?_
   refine ⟨zai (HR.out.later HB1.out).below (by omega) _ _ _ _ _,.inr ⟨h,_,HGET.out,rfl,_,_,rfl,?_,?_⟩⟩
   ·exact HV.out.1.keep (fun k hk _=>zae _ _ _ _ _ _ _ _ (by omega)) (fun k hk _=>by omega)
   ·exact HV.out.2.keep (fun k hk _=>zae _ _ _ _ _ _ _ _ (by omega)) (fun k hk _=>by omega)
end Go.Proofs.YthmcfjmignlhfaaGreatDoor
namespace Go.Proofs.YthmcfjmignlhfaaGreatDoor
open Go.Lib(hid)
open Go Go.RowKit
set_option linter.unusedVariables false
set_option linter.unusedSimpArgs false
theorem zfz {g h:GV} {s:GStep} (hg:g.Sound) (hi:g.inside s=some h):h.Sound:=by
 rcases zaI hi with ⟨_,_,k',_,hgx⟩ | ⟨_,_,_,hgx⟩
 ·exact (zbE hg).2.1 h (List.mem_of_getElem? hgx)
 ·exact (zbE hg).2.2 h (List.mem_of_getElem? hgx)
theorem zc2:∀ (p:List GStep) (g h:GV),g.Sound->g.get p=some h->h.Sound
 | [],g,h,hg,e=>by simp [GV.get] at e;subst e;exact hg
 | s :: r,g,h,hg,e=>by
  simp only [GV.get] at e;cases hi:g.inside s with
  | none=>rw [hi] at e;cases e
  | some y=>rw [hi] at e;exact zc2 r y h (zfz hg hi) e
theorem zhw (g:GV):1<=g.weight:=by cases g with | mk k n s l ks ov=>simp only [GV.weight];omega
theorem zcc:∀ (l:List GV),l.length<=GV.weights l
 | []=>by simp
 | x :: r=>by have:=zcc r;have:=zhw x;simp only [GV.weights,List.length_cons];omega
theorem zbN (g:GV):g.str.size<=g.weight/\g.il.length<=g.weight/\g.vz.length<=g.weight:=by
 cases g with
 | mk k n s l ks ov=>
  have h1:=zcc l;have h2:=zcc ov;simp only [GV.weight,GV.str,GV.il,GV.vz];refine ⟨?_,?_,?_⟩<;>omega
def K2 (r s:Nat) (w1 W:World):Prop:=w1.heap.size<=W.heap.size/\∀ k,k≠r->k≠s->k<w1.heap.size->W.heap[k]? = w1.heap[k]?
end Go.Proofs.YthmcfjmignlhfaaGreatDoor
namespace Go.Proofs.YthmcfjmignlhfaaGreatDoor
open Go.Lib(hid)
open Go Go.RowKit
set_option linter.unusedVariables false
set_option linter.unusedSimpArgs false
theorem zkW (h:GV) (c:GC) (A AL AO:Option Addr) (cp cL cO:Nat) (w:World) (hk:c.kq=8) (i:Nat) (hi:c.i=i) (hin:i<=nChars h.str) (hs:h.str.size+c.s.size<=140737488355328):PlaceDoes h c A AL AO cp cL cO w:=by
 intro HL HO dL lo W hB hlo hlW hv hf;obtain ⟨Lh,Oh,eh,hL,hO⟩:=hv;obtain ⟨rfl,rfl⟩:Value.slice HL h.il.length dL=Lh/\Value.slice HO h.vz.length h.vz.length=Oh:=by simpa using eh
 have hd:doH h c=.mk h.kq h.num (insS h.str c.i.toNat c.s) h.il h.keys h.vz:=by
  unfold doH;rw [if_neg (by omega),if_neg (by omega),if_neg (by omega),if_pos hk]
 rw [hd];have ei:c.i.toNat=i:=by omega
 rw [ei];have g1:(c.kq == 1)=false:=by simp;omega
 have g2:(c.kq == 2)=false:=by simp;omega
 have g3:(c.kq == 3)=false:=by simp;omega
 have g8:(c.kq == 8)=true:=by simp;omega
 have g9:(c.kq == 9)=false:=by simp;omega
 obtain ⟨hP,hC,hB2⟩:=zbm W #[.int .u8 h.kq,.int .i64 h.num,.string h.str,.slice HL h.il.length dL,.slice HO h.vz.length h.vz.length] #[.int .u8 c.kq,.slice A c.path.length cp,.string c.key,.int .i64 c.i,.int .i64 c.j,.int .i64 c.n,.int .u8 c.v.kq,.int .i64 c.v.num,.string c.v.str,.slice AL c.v.il.length cL,.slice AO c.v.vz.length cO,.string c.s];have HSQ:=hid (fun (W':World)=>zf2 h.str c i A AL AO cp cL cO W' hs hk hi hin)
 have HL1:=hid (And.intro hL (And.intro hO hlW));clear hf hd hk hi hin hs hL hO hB hlo ei;generalize (insS h.str i c.s)=s' at *;generalize hb:W.heap.size=b at *;have HBE:=hid hb;go_enter Tryz.func56,Tryz.ntmps56
 go_wp2
 have hkeep:∀ k,k<b->((W.alloc (.cells #[.int .u8 h.kq,.int .i64 h.num,.string h.str,.slice HL h.il.length dL,.slice HO h.vz.length h.vz.length] 93)).alloc (.cells #[.int .u8 c.kq,.slice A c.path.length cp,.string c.key,.int .i64 c.i,.int .i64 c.j,.int .i64 c.n,.int .u8 c.v.kq,.int .i64 c.v.num,.string c.v.str,.slice AL c.v.il.length cL,.slice AO c.v.vz.length cO,.string c.s] 48)).heap[k]? = W.heap[k]?:=fun k hk=>hB2.block k hk
 have hB3:Below lo (W.alloc (.cells #[.int .u8 h.kq,.int .i64 h.num,.string h.str,.slice HL h.il.length dL,.slice HO h.vz.length h.vz.length] 93)) ((W.alloc (.cells #[.int .u8 h.kq,.int .i64 h.num,.string h.str,.slice HL h.il.length dL,.slice HO h.vz.length h.vz.length] 93)).alloc (.cells #[.int .u8 c.kq,.slice A c.path.length cp,.string c.key,.int .i64 c.i,.int .i64 c.j,.int .i64 c.n,.int .u8 c.v.kq,.int .i64 c.v.num,.string c.v.str,.slice AL c.v.il.length cL,.slice AO c.v.vz.length cO,.string c.s] 48)):=(Below.refl _ _).alloc (by simp;omega) _
 generalize ((W.alloc (.cells #[.int .u8 h.kq,.int .i64 h.num,.string h.str,.slice HL h.il.length dL,.slice HO h.vz.length h.vz.length] 93)).alloc (.cells #[.int .u8 c.kq,.slice A c.path.length cp,.string c.key,.int .i64 c.i,.int .i64 c.j,.int .i64 c.n,.int .u8 c.v.kq,.int .i64 c.v.num,.string c.v.str,.slice AL c.v.il.length cL,.slice AO c.v.vz.length cO,.string c.s] 48))=W2 at *;have HK:=hid (And.intro hkeep (And.intro hB3 hB2));have HP:=hid hP;obtain ⟨p0,p1,p2,p3,p4,f0,f1,f2,f3,f4⟩:=hP.five;obtain ⟨c0,c1,c2,c3,c4,c5,c6,c7,c8,c9,c10,c11,_⟩:=hC.tw;clear hkeep hP hC hB2 hB3 hb
 go_region_with (go_at_call 89;refine (HSQ.out W2.drew).mono ?_;rintro e w3 ⟨rfl,hbl⟩;have H3:=hid (show Below W2.heap.size W2 w3 from (Below.refl W2.heap.size W2).drew.trans hbl);clear hbl;obtain ⟨p0,p1,p2,p3,p4,f0,f1,f2,f3,f4⟩:=(HP.out.below H3.out HP.out.lt).five)
 all_goals
  go_wp2
  go_end0
  have hlt:=HP.out.lt;have hb3:=HBE.out;have hkw:∀ k,k<b->k<W.heap.size->(w3.setCell ⟨b,2,none⟩ (.string s')).heap[k]? = W.heap[k]?:=fun k hk _=>by
   rw [Below.heap_setCell w3 ⟨b,2,none⟩ _ k (by simp;omega)]
   exact (H3.out.block k (by omega)).trans (HK.out.1 k hk)
  refine ⟨rfl,HL,HO,dL,h.vz.length,(HP.out.below H3.out HP.out.lt).put 2 (.string s'),⟨?_,?_⟩,HK.out.2.1.trans ((H3.out.mono (by have:=HL1.out.2.2;omega)).setCell (p:=⟨b,2,none⟩) HL1.out.2.2 _)⟩
  ·exact (HL1.out.1.keep (ok':=fun k=>k<b) (From.refl _ W) (fun k _ hl=>by omega)).keep hkw (fun _ _ _=>trivial)
  ·exact (HL1.out.2.1.keep (ok':=fun k=>k<b) (From.refl _ W) (fun k _ hl=>by omega)).keep hkw (fun _ _ _=>trivial)
theorem zk6 (h:GV) (c:GC) (A AL AO:Option Addr) (cp cL cO:Nat) (w:World) (hk:c.kq=9) (i n:Nat) (hi:c.i=i) (hn:c.n=n) (h1:1<=n) (hin:i+n<=nChars h.str) (hs:h.str.size<=70368744177664):PlaceDoes h c A AL AO cp cL cO w:=by
 intro HL HO dL lo W hB hlo hlW hv hf;obtain ⟨Lh,Oh,eh,hL,hO⟩:=hv;obtain ⟨rfl,rfl⟩:Value.slice HL h.il.length dL=Lh/\Value.slice HO h.vz.length h.vz.length=Oh:=by simpa using eh
 have hd:doH h c=.mk h.kq h.num (delS h.str c.i.toNat c.n.toNat) h.il h.keys h.vz:=by
  unfold doH;rw [if_neg (by omega),if_neg (by omega),if_neg (by omega),if_neg (by omega),if_pos hk]
 rw [hd];have ei:c.i.toNat=i:=by omega
 have en:c.n.toNat=n:=by omega
 rw [ei,en];have g1:(c.kq == 1)=false:=by simp;omega
 have g2:(c.kq == 2)=false:=by simp;omega
 have g3:(c.kq == 3)=false:=by simp;omega
 have g8:(c.kq == 8)=false:=by simp;omega
 have g9:(c.kq == 9)=true:=by simp;omega
 obtain ⟨hP,hC,hB2⟩:=zbm W #[.int .u8 h.kq,.int .i64 h.num,.string h.str,.slice HL h.il.length dL,.slice HO h.vz.length h.vz.length] #[.int .u8 c.kq,.slice A c.path.length cp,.string c.key,.int .i64 c.i,.int .i64 c.j,.int .i64 c.n,.int .u8 c.v.kq,.int .i64 c.v.num,.string c.v.str,.slice AL c.v.il.length cL,.slice AO c.v.vz.length cO,.string c.s];have HSQ:=hid (fun (W':World)=>zf9 h.str c i n A AL AO cp cL cO W' hs hk hi hn h1 hin)
 have HL1:=hid (And.intro hL (And.intro hO hlW));clear hf hd hk hi hin hs hL hO hB hlo ei hn h1 en;generalize (delS h.str i n)=s' at *;generalize hb:W.heap.size=b at *;have HBE:=hid hb;go_enter Tryz.func56,Tryz.ntmps56
 go_wp2
 have hkeep:∀ k,k<b->((W.alloc (.cells #[.int .u8 h.kq,.int .i64 h.num,.string h.str,.slice HL h.il.length dL,.slice HO h.vz.length h.vz.length] 93)).alloc (.cells #[.int .u8 c.kq,.slice A c.path.length cp,.string c.key,.int .i64 c.i,.int .i64 c.j,.int .i64 c.n,.int .u8 c.v.kq,.int .i64 c.v.num,.string c.v.str,.slice AL c.v.il.length cL,.slice AO c.v.vz.length cO,.string c.s] 48)).heap[k]? = W.heap[k]?:=fun k hk=>hB2.block k hk
 have hB3:Below lo (W.alloc (.cells #[.int .u8 h.kq,.int .i64 h.num,.string h.str,.slice HL h.il.length dL,.slice HO h.vz.length h.vz.length] 93)) ((W.alloc (.cells #[.int .u8 h.kq,.int .i64 h.num,.string h.str,.slice HL h.il.length dL,.slice HO h.vz.length h.vz.length] 93)).alloc (.cells #[.int .u8 c.kq,.slice A c.path.length cp,.string c.key,.int .i64 c.i,.int .i64 c.j,.int .i64 c.n,.int .u8 c.v.kq,.int .i64 c.v.num,.string c.v.str,.slice AL c.v.il.length cL,.slice AO c.v.vz.length cO,.string c.s] 48)):=(Below.refl _ _).alloc (by simp;omega) _
 generalize ((W.alloc (.cells #[.int .u8 h.kq,.int .i64 h.num,.string h.str,.slice HL h.il.length dL,.slice HO h.vz.length h.vz.length] 93)).alloc (.cells #[.int .u8 c.kq,.slice A c.path.length cp,.string c.key,.int .i64 c.i,.int .i64 c.j,.int .i64 c.n,.int .u8 c.v.kq,.int .i64 c.v.num,.string c.v.str,.slice AL c.v.il.length cL,.slice AO c.v.vz.length cO,.string c.s] 48))=W2 at *;have HK:=hid (And.intro hkeep (And.intro hB3 hB2));have HP:=hid hP;obtain ⟨p0,p1,p2,p3,p4,f0,f1,f2,f3,f4⟩:=hP.five;obtain ⟨c0,c1,c2,c3,c4,c5,c6,c7,c8,c9,c10,c11,_⟩:=hC.tw;clear hkeep hP hC hB2 hB3 hb
 go_region_with (go_at_call 89;refine (HSQ.out W2.drew).mono ?_;rintro e w3 ⟨rfl,hbl⟩;have H3:=hid (show Below W2.heap.size W2 w3 from (Below.refl W2.heap.size W2).drew.trans hbl);clear hbl;obtain ⟨p0,p1,p2,p3,p4,f0,f1,f2,f3,f4⟩:=(HP.out.below H3.out HP.out.lt).five)
 all_goals
  go_wp2
  go_end0
  have hlt:=HP.out.lt;have hb3:=HBE.out;have hkw:∀ k,k<b->k<W.heap.size->(w3.setCell ⟨b,2,none⟩ (.string s')).heap[k]? = W.heap[k]?:=fun k hk _=>by
   rw [Below.heap_setCell w3 ⟨b,2,none⟩ _ k (by simp;omega)]
   exact (H3.out.block k (by omega)).trans (HK.out.1 k hk)
  refine ⟨rfl,HL,HO,dL,h.vz.length,(HP.out.below H3.out HP.out.lt).put 2 (.string s'),⟨?_,?_⟩,HK.out.2.1.trans ((H3.out.mono (by have:=HL1.out.2.2;omega)).setCell (p:=⟨b,2,none⟩) HL1.out.2.2 _)⟩
  ·exact (HL1.out.1.keep (ok':=fun k=>k<b) (From.refl _ W) (fun k _ hl=>by omega)).keep hkw (fun _ _ _=>trivial)
  ·exact (HL1.out.2.1.keep (ok':=fun k=>k<b) (From.refl _ W) (fun k _ hl=>by omega)).keep hkw (fun _ _ _=>trivial)
theorem ziu {W} {g h:GV} {AL AO cL cO} {s:GStep} (hv:Vl W g AL AO cL cO) (hi:g.inside s=some h):∃ BL BO dL dO,Vl W h BL BO dL dO:=by
 rcases zaI hi with ⟨_,_,k,_,hx⟩ | ⟨_,_,_,hx⟩
 ·rcases hv.lst with ⟨h0,_⟩ | ⟨b,o,c,he,_⟩
  ·rw [h0] at hx;simp at hx
  ·simp only [Value.slice.injEq] at he
   obtain ⟨rfl,_,_⟩:=he;obtain ⟨EL,EO,eL,eO,hsp⟩:=zll hv.lst hx;exact ⟨EL,EO,eL,eO,hsp.lst.keep (From.refl _ _) (fun _ _ _=>trivial),hsp.obj.keep (From.refl _ _) (fun _ _ _=>trivial)⟩
 ·rcases hv.obj.2 with ⟨h0,_⟩ | ⟨b,o,c,he,_⟩
  ·rw [h0] at hx;simp at hx
  ·simp only [Value.slice.injEq] at he
   obtain ⟨rfl,_,_⟩:=he;obtain ⟨EL,EO,eL,eO,hsp⟩:=zls hv.obj hx;exact ⟨EL,EO,eL,eO,hsp.lst.keep (From.refl _ _) (fun _ _ _=>trivial),hsp.obj.keep (From.refl _ _) (fun _ _ _=>trivial)⟩
theorem zkq {W:World}:∀ (p:List GStep) (g h:GV) (AL AO:Option Addr) (cL cO:Nat),Vl W g AL AO cL cO->g.get p=some h->∃ BL BO dL dO,Vl W h BL BO dL dO
 | [],g,h,AL,AO,cL,cO,hv,e=>by simp [GV.get] at e;subst e;exact ⟨AL,AO,cL,cO,hv⟩
 | s :: r,g,h,AL,AO,cL,cO,hv,e=>by
  simp only [GV.get] at e;cases hi:g.inside s with
  | none=>rw [hi] at e;cases e
  | some y=>
   rw [hi] at e;obtain ⟨BL,BO,dL,dO,hy⟩:=ziu hv hi;exact zkq r y h BL BO dL dO hy e
theorem zbi (l:List GV) (i:Nat) (v:GV):GV.weights (insL l i v)<=GV.weights l+v.weight:=by
 unfold insL;have:=zbH l i i (Nat.le_refl _);rw [zd0];simp only [GV.weights];omega
theorem zbn (l:List GV) (i:Nat):GV.weights (remL l i)<=GV.weights l:=by
 unfold remL;have:=zbH l i (i+1) (by omega)
 rw [zd0];omega
theorem zcW (l:List GV) (k:Nat) (x:GV) (h:l[k]? = some x):x.weight<=GV.weights l+1:=by
 have h1:=zaF l k x noG h;have h2:noG.weight=1:=by unfold noG;simp only [GV.weight,GV.weights,List.map_nil,List.sum_nil];decide
 omega
theorem zf1 (l:List GV) (k:Nat) (y:GV):GV.weights (l.set k y)<=GV.weights l+y.weight:=by
 by_cases h:k<l.length
 ·have:=zaF l k l[k] y (List.getElem?_eq_getElem h)
  omega
 ·rw [List.set_eq_of_length_le (by omega)]
  omega
theorem zdU (l:List GV) (c:Cm GV):GV.weights (doL l c)<=2 * GV.weights l+c.v.weight+1:=by
 unfold doL;split
 ·have:=zbi l c.i c.v;omega
 ·split
  ·have:=zbn l c.i;omega
  ·split
   ·have:=zbi (remL l c.i) c.i c.v
    have:=zbn l c.i;omega
   ·split
    ·rename_i x hx
     have:=zbi (remL l c.i) c.j x;have:=zbn l c.i;have:=zcW l c.i x hx;omega
    ·omega
theorem zjh (l:List ByteArray) (i:Nat) (v:ByteArray):((insL l i v).map (·.size)).sum<=(l.map (·.size)).sum+v.size:=by
 have:=zcL l i i (Nat.le_refl _);unfold ksum at this;unfold insL;rw [List.map_append,List.sum_append,List.map_cons,List.sum_cons];omega
theorem zjo (l:List ByteArray) (i:Nat):((remL l i).map (·.size)).sum<=(l.map (·.size)).sum:=by
 have:=zcL l i (i+1) (by omega)
 unfold ksum at this;unfold remL;rw [List.map_append,List.sum_append];omega
theorem zh9 (s:ByteArray) (i:Nat) (t:ByteArray):(insS s i t).size<=s.size+t.size:=by
 unfold insS;have:=zbC s i;rw [ByteArray.size_append,ByteArray.size_append,ByteArray.size_extract,ByteArray.size_extract];omega
theorem ziI (s:ByteArray) (i n:Nat):(delS s i n).size<=2 * s.size:=by
 unfold delS;rw [ByteArray.size_append,ByteArray.size_extract,ByteArray.size_extract];omega
theorem zbu (h:GV):h.weight=1+h.str.size+GV.weights h.il+(h.keys.map (·.size)).sum+GV.weights h.vz:=by
 cases h with | mk k n s l ks ov=>simp only [GV.weight,GV.str,GV.il,GV.keys,GV.vz]
theorem zei (h:GV) (c:GC):(doH h c).weight<=2 * h.weight+c.v.weight+c.key.size+c.s.size+10:=by
 have a0:=zbu h;have a1:=zbi h.vz (place c.key h.keys) c.v;have a2:=zbn h.vz (place c.key h.keys);have a3:=zf1 h.vz (place c.key h.keys) c.v;have a4:=zjh h.keys (place c.key h.keys) c.key;have a5:=zjo h.keys (place c.key h.keys);have a6:=zh9 h.str c.i.toNat c.s;have a7:=ziI h.str c.i.toNat c.n.toNat;have a8:=zdU h.il ⟨c.kq.toNat,c.i.toNat,c.j.toNat,c.v⟩;simp only at a8;unfold doH;by_cases k1:c.kq=1
 ·rw [if_pos k1];simp only [GV.weight];omega
 rw [if_neg k1];by_cases k2:c.kq=2
 ·rw [if_pos k2]
  by_cases ht:there c.key h.keys=true
  ·rw [if_pos ht];simp only [GV.weight];omega
  ·rw [if_neg ht];simp only [GV.weight];omega
 rw [if_neg k2];by_cases k3:c.kq=3
 ·rw [if_pos k3];simp only [GV.weight];omega
 rw [if_neg k3];by_cases k8:c.kq=8
 ·rw [if_pos k8];simp only [GV.weight];omega
 rw [if_neg k8];by_cases k9:c.kq=9
 ·rw [if_pos k9];simp only [GV.weight];omega
 rw [if_neg k9];simp only [GV.weight];omega
structure Small (c:GC):Prop where
 v:c.v.weight<=2200000
 k:c.key.size<=2200000
 s:c.s.size<=2200000
 pk:∀ s∈c.path,s.key.size<=9223372036854775807
theorem works3 {k:Int} (h:worksOn k=3):k=8\/k=9:=by
 unfold worksOn at h;split at h
 ·omega
 ·split at h
  ·omega
  ·split at h
   ·assumption
   ·omega
theorem zkh (g GL GO eL eO c A AL AO cp cL cO w) (hg:Vl w g GL GO eL eO) (hc:Cc w c A AL AO cp cL cO) (hgw:g.weight<=1000000) (hs:Small c) (hT:Tabs w):
  Calls Tryz.prog 32 #[.agg #[.int .u8 g.kq,.int .i64 g.num,.string g.str,.slice GL g.il.length eL,.slice GO g.vz.length eO],.agg #[.int .u8 c.kq,.slice A c.path.length cp,.string c.key,.int .i64 c.i,.int .i64 c.j,.int .i64 c.n,.int .u8 c.v.kq,.int .i64 c.v.num,.string c.v.str,.slice AL c.v.il.length cL,.slice AO c.v.vz.length cO,.string c.s]] w (DoesOut g c w):=by
 have hsv:=hs.v;have hsk:=hs.k;have hss:=hs.s;refine zix g GL GO eL eO c A AL AO cp cL cO w hg hc (by omega) (by omega) (by omega) (by omega) (fun s hm=>by have:=hs.pk s hm;omega) hT ?_ ?_ ?_
 ·intro h h3 hw hwk W hb
  have:=(zbN h).1;exact zb5 h.str c A AL AO cp cL cO W (by omega) (works3 hwk)
 ·intro h hget hck hS
  have hw:=zaD _ _ _ hget;obtain ⟨p1,p2,p3⟩:=zbN h;obtain ⟨BL,BO,dL,dO,hvh⟩:=zkq _ _ _ _ _ _ _ hg hget;have hkl:=hvh.obj.1;have hkr:=hS.2.2.2.2.1.1;have hi0:=hS.1;have hj0:=hS.2.1;by_cases h7:c.kq<=7
  ·refine zkm h c A AL AO cp cL cO w ⟨hkr.1,h7⟩ hck hi0 hj0 hc.v hkl (by omega) (by omega) fun _=>?_
   have:=zdU h.il ⟨c.kq.toNat,c.i.toNat,c.j.toNat,c.v⟩;have h2:GV.weights h.il<=h.weight:=by cases h with | mk k n s l ks ov=>simp only [GV.weight,GV.il];omega
   simp only at this;omega
  ·have h3:h.kq=3/\chkT (nChars h.str) c.kq.toNat c.i c.n=0:=by
    have hwk:worksOn c.kq=3:=by unfold worksOn;rw [if_neg (by omega),if_neg (by omega),if_pos (by omega)]
    unfold chkH at hck;rw [hwk] at hck;by_cases e:h.kq=3
    ·rw [if_neg (by omega),if_neg (by omega),if_pos e] at hck
     exact ⟨e,hck⟩
    ·rw [if_pos e] at hck
     omega
   obtain ⟨i,hi,hin,h8 | ⟨h9,n,hn,hn1,hin2⟩⟩:=ziW h3.2
   ·exact zkW h c A AL AO cp cL cO w (by omega) i hi hin (by omega)
   ·exact zk6 h c A AL AO cp cL cO w (by omega) i n hi hn hn1 hin2 (by omega)
 ·intro h hget hck
  have hw:=zaD _ _ _ hget;have:=zei h c;omega
end Go.Proofs.YthmcfjmignlhfaaGreatDoor
namespace Go.Proofs.YthmcfjmignlhfaaGreatDoor
open Go.Lib(hid)
open Go Go.RowKit
set_option linter.unusedVariables false
set_option linter.unusedSimpArgs false
structure EC where
 c:GC
 A:Option Addr
 cp:Nat
 AL:Option Addr
 cL:Nat
 AO:Option Addr
 cO:Nat
structure C12 (W:World) (b o:Nat) (e:EC):Prop where
 c0:W.cell? ⟨b,o,none⟩=some (.int .u8 e.c.kq)
 c1:W.cell? ⟨b,o+1,none⟩=some (.slice e.A e.c.path.length e.cp)
 c2:W.cell? ⟨b,o+2,none⟩=some (.string e.c.key)
 c3:W.cell? ⟨b,o+3,none⟩=some (.int .i64 e.c.i)
 c4:W.cell? ⟨b,o+4,none⟩=some (.int .i64 e.c.j)
 c5:W.cell? ⟨b,o+5,none⟩=some (.int .i64 e.c.n)
 c6:W.cell? ⟨b,o+6,none⟩=some (.int .u8 e.c.v.kq)
 c7:W.cell? ⟨b,o+7,none⟩=some (.int .i64 e.c.v.num)
 c8:W.cell? ⟨b,o+8,none⟩=some (.string e.c.v.str)
 c9:W.cell? ⟨b,o+9,none⟩=some (.slice e.AL e.c.v.il.length e.cL)
 c10:W.cell? ⟨b,o+10,none⟩=some (.slice e.AO e.c.v.vz.length e.cO)
 c11:W.cell? ⟨b,o+11,none⟩=some (.string e.c.s)
theorem C12.below {n:Nat} {W W':World} {b o:Nat} {e:EC} (h:C12 W b o e) (hb:Below n W W') (hn:b<n):C12 W' b o e:=
 ⟨(hb.cell hn).trans h.c0,(hb.cell hn).trans h.c1,(hb.cell hn).trans h.c2,(hb.cell hn).trans h.c3,(hb.cell hn).trans h.c4,(hb.cell hn).trans h.c5,(hb.cell hn).trans h.c6,(hb.cell hn).trans h.c7,(hb.cell hn).trans h.c8,(hb.cell hn).trans h.c9,(hb.cell hn).trans h.c10,(hb.cell hn).trans h.c11⟩
def EC.Ok (W:World) (e:EC):Prop:=Cc W e.c e.A e.AL e.AO e.cp e.cL e.cO/\Small e.c
theorem EC.Ok.later {W W':World} {e:EC} (h:e.Ok W) (hb:Below W.heap.size W W'):e.Ok W':=⟨h.1.later hb,h.2⟩
structure Ops (W:World) (A:Option Addr) (cap:Nat) (es:List EC):Prop where
 here:es≠[]->∃ b o,A=some ⟨b,o,none⟩/\b<W.heap.size/\∀ i e,es[i]? = some e->C12 W b (o+i * 12) e/\e.Ok W
 le:es.length<=cap
 cap:cap<=maxLen
def Does1 (g:GV) (c:GC) (y:GV):Prop:=ChkIs g c 0/\∃ h,g.get c.path=some h/\chkH h c=0/\g.put (doH h c) c.path=some y
def VlIn (ok:Nat->Prop) (W:World) (y:GV) (BL BO:Option Addr) (dL dO:Nat):Prop:=LstV ok W (.slice BL y.il.length dL) y.il/\ObjV ok W (.slice BO y.vz.length dO) y.keys y.vz
theorem VlIn.vl {ok:Nat->Prop} {W:World} {y:GV} {BL BO:Option Addr} {dL dO:Nat} (h:VlIn ok W y BL BO dL dO):Vl W y BL BO dL dO:=
 ⟨h.1.keep (From.refl _ _) (fun _ _ _=>trivial),h.2.keep (From.refl _ _) (fun _ _ _=>trivial)⟩
theorem VlIn.later {ok:Nat->Prop} {W W':World} {y:GV} {BL BO:Option Addr} {dL dO:Nat} (h:VlIn ok W y BL BO dL dO) (hb:Below W.heap.size W W'):VlIn ok W' y BL BO dL dO:=
 ⟨h.1.keep (fun k _ hk=>hb.block k hk) (fun _ hk _=>hk),h.2.keep (fun k _ hk=>hb.block k hk) (fun _ hk _=>hk)⟩
theorem zki {g c} {w w':World} {e:Ending} (hc:ChkIs g c 0) (hd:DoesOut g c w e w'):∃ (z:GV) (BL BO:Option Addr) (dL dO:Nat),e=.returned (.tuple #[.agg #[.int .u8 z.kq,.int .i64 z.num,.string z.str,.slice BL z.il.length dL,.slice BO z.vz.length dO],.int .u16 0])/\Does1 g c z/\VlNew w.heap.size w' z BL BO dL dO/\Below w.heap.size w w':=by
 obtain ⟨hb,n,hn,⟨h0,_⟩ | ⟨_,h,z,BL,BO,dL,dO,h1,hk,h2,he,_,hv⟩⟩:=hd
 ·exact absurd (zbo hn hc) h0
 ·exact ⟨z,BL,BO,dL,dO,he,⟨hc,h,h1,hk,h2⟩,hv,hb⟩
end Go.Proofs.YthmcfjmignlhfaaGreatDoor
namespace Go.Proofs.YthmcfjmignlhfaaGreatDoor
open Go.Lib(hid)
open Go Go.RowKit
set_option linter.unusedVariables false
set_option linter.unusedSimpArgs false
def partS (s:ByteArray) (i m:Nat):ByteArray:=s.extract (cutS s i) (cutS s (i+m))
theorem zd6 (s:ByteArray) (i m:Nat) (w:World) (hs:s.size<=70368744177664) (h1:1<=m) (him:i+m<=nChars s):
  Calls Tryz.prog 64 #[.string s,.int .i64 i,.int .i64 m] w fun e w'=>e=.returned (.string (partS s i m))/\Below w.heap.size w w':=by
 obtain ⟨hch,hle⟩:=zaJ s;have HC:=hid hch;clear hch;generalize hc:nChars s=c at *;clear hc;have hc9:c<=70368744177664:=by omega
 have hl1:=zbC s (i+m);have hl2:cutS s i<=cutS s (i+m):=zgH (zbW s) i m;have HCL:=hid (fun W=>zbb (s.extract (cutS s i) (cutS s (i+m))) W (by simp [ByteArray.size_extract];omega))
 unfold partS;obtain ⟨fa,hfa⟩:∃ x,cutS s i=x:=⟨_,rfl⟩;obtain ⟨fb,hfb⟩:∃ x,cutS s (i+m)=x:=⟨_,rfl⟩;rw [hfa,hfb] at hl2 HCL ⊢;rw [hfb] at hl1;have HA:=hid hfa;have HB:=hid hfb;clear hfa hfb;obtain ⟨F,hF⟩:∃ F:Nat->Nat,∀ k,F k=if i<k then fa else 0:=⟨_,fun _=>rfl⟩
 obtain ⟨T,hT⟩:∃ T:Nat->Nat,∀ k,T k=if i+m<k then fb else s.size:=⟨_,fun _=>rfl⟩
 have HFF:=hid hF;have HTT:=hid hT;have hF0:F 0=0:=by rw [hF];simp
 have hT0:T 0=s.size:=by rw [hT];simp
 clear hF hT;go_enter Tryz.func64,Tryz.ntmps64
 go_wp2
 go_loopw [7,8,9,10] (fun f t n _ w'=>∃ k:Nat,w'=w.iter s (cutS s k)/\k<=c/\f=.int .i64 (F k:Nat)/\t=.int .i64 (T k:Nat)/\n=.int .i64 (k:Nat)) (fun _ _ _ _ w'=>s.size - w'.iterPos w.heap.size)
 case atStart=>exact ⟨0,rfl,Nat.zero_le _,by rw [hF0];rfl,by rw [hT0],rfl⟩
 case round=>
  obtain ⟨k,rfl,hk,rfl,rfl,rfl⟩:=hrel;by_cases hp:cutS s k<s.size
  ·have hkc:k<c:=(Chars.iff HC.out).1 hp
   have hnx:∀ ty,(Instr.next (.pointer (some ⟨w.heap.size,0,none⟩)) true ty).run Tryz.prog (w.iter s (cutS s k))=_:=fun ty=>run_next_any w s (cutS s k) ty hp
   have hnext:cutS s (k+1)=cutS s k+(Utf8.decode s (cutS s k)).2:=zdr hp;have hwd:=Lib.decode_width_pos s (cutS s k) hp;have HN:=hid hnext;clear hnext;have HFK:=hid (HFF.out k);have HTK:=hid (HTT.out k);have HF1:=hid (HFF.out (k+1));have HT1:=hid (HTT.out (k+1));generalize hpos:cutS s k=pos at *;have HPOS:=hid hpos;clear hpos;generalize F k=fk at *;generalize T k=tk at *;by_cases hki:k=i
   ·have z1:((k:Int) == (i:Int))=true:=by simp;omega
    have e1:F (k+1)=pos:=by rw [HF1.out,if_pos (by omega),<- HA.out,<- hki,HPOS.out]
    have e2:T (k+1)=tk:=by rw [HT1.out,HTK.out,if_neg (by omega),if_neg (by omega)]
    have HE:=hid (And.intro e1 e2);clear e1 e2 hki him h1;go_wp2
    go_roundw
    case rel=>exact ⟨k+1,by rw [HN.out],hkc,by rw [HE.out.1],by rw [HE.out.2],by go_num⟩
    case measure=>
     simp
     omega
   ·have z1:((k:Int) == (i:Int))=false:=by simp;omega
    by_cases hkm:k=i+m
    ·have z2:((k:Int) == (i:Int)+(m:Int))=true:=by simp;omega
     have e1:F (k+1)=fk:=by rw [HF1.out,HFK.out,if_pos (by omega),if_pos (by omega)]
     have e2:T (k+1)=pos:=by rw [HT1.out,if_pos (by omega),<- HB.out,<- hkm,HPOS.out]
     have HE:=hid (And.intro e1 e2);clear e1 e2;go_wp2
     go_roundw
     case rel=>exact ⟨k+1,by rw [HN.out],hkc,by rw [HE.out.1],by rw [HE.out.2],by go_num⟩
     case measure=>
      simp
      omega
    ·have z2:((k:Int) == (i:Int)+(m:Int))=false:=by simp;omega
     have e1:F (k+1)=fk:=by
      rw [HF1.out,HFK.out];by_cases h:i<k
      ·rw [if_pos (by omega),if_pos h]
      ·rw [if_neg (by omega),if_neg h]
     have e2:T (k+1)=tk:=by
      rw [HT1.out,HTK.out];by_cases h:i+m<k
      ·rw [if_pos (by omega),if_pos h]
      ·rw [if_neg (by omega),if_neg h]
     have HE:=hid (And.intro e1 e2);clear e1 e2;go_wp2
     go_roundw
     case rel=>exact ⟨k+1,by rw [HN.out],hkc,by rw [HE.out.1],by rw [HE.out.2],by go_num⟩
     case measure=>
      simp
      omega
  ·have hkc:k=c:=by
    have h1:¬ k<c:=fun h=>hp ((Chars.iff HC.out).2 h)
    omega
   have e1:F k=fa:=by rw [HFF.out,if_pos (by omega)]
   have e2:T k=fb:=by
    rw [HTT.out];by_cases h:i+m<k
    ·rw [if_pos h]
    ·rw [if_neg h,<- HB.out,show i+m=k by omega]
     have:=zbC s k;omega
   have hnx:∀ ty,(Instr.next (.pointer (some ⟨w.heap.size,0,none⟩)) true ty).run Tryz.prog (w.iter s (cutS s k))=_:=fun ty=>run_next_end w s (cutS s k) ty hp
   rw [e1,e2];clear e1 e2 hkc hp;generalize cutS s k=pos at *;have hf0:(0:Int)<=(fa:Int):=by omega
   have hf1:(fa:Int)<=(fb:Int):=by omega
   have hf2:(fb:Int)<=(s.size:Int):=by omega
   go_wp2_with (go_at_call 96;refine (HCL.out _).mono ?_;rintro e w1 ⟨rfl,hb⟩)
   go_ret
   exact ⟨rfl,(zbs w s pos).trans (hb.mono (zbs w s pos).size)⟩
end Go.Proofs.YthmcfjmignlhfaaGreatDoor
