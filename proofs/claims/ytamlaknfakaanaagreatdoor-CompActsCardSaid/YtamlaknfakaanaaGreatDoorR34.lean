/- Texts in one: BldX, TextY. -/
import Derived.Test.YtamlaknfakaanaaGreatDoorR1
import Derived.Test.YtamlaknfakaanaaGreatDoorR13
import Derived.Lib.Builder
import Derived.Lib.OthersKept
import Derived.Lib.MakeNoZero
import Derived.Lib.BufferKept
import Derived.Lib.AppendStr
import Derived.Lib.UnsafeStr
import Derived.Lib.Strings
import Derived.Lib.Walk
import Derived.Laws.Externs
import Derived.Laws.BitsLemmas
import Derived.WalkKit
import Derived.Shelf.RegionOpenPlain
import Derived.RegionTactic
import Derived.BigQuiet
import Derived.Deep.QuietTactic
import Derived.Lib.Hide
import Derived.Test.YtamlaknfakaanaaGreatDoorR15
import Derived.Test.YtamlaknfakaanaaGreatDoorLays
import Derived.Test.YtamlaknfakaanaaGreatDoorR18
import Derived.Lib.QuietBelow
set_option maxHeartbeats 4000000
set_option maxRecDepth 1000000
namespace Go.Proofs.YtamlaknfakaanaaGreatDoor
open Go Go.RowKit Go.Shelf
theorem sizeSB:(Tryz.prog.info? 143).map (·.size)=some 2:=by kernel_rfl
theorem liesSB:liesAt Tryz.prog Tryz.prog.depth 143 (2 / Tryz.prog.cellsOf 143) 0 143 1=true:=by kernel_rfl
theorem sb_used (b:Nat) (w:World) (h0:w.cell? ⟨b,0,none⟩=some (.pointer (some ⟨b,0,none⟩))):
  Calls Tryz.prog 116 #[.pointer (some ⟨b,0,none⟩)] w fun e w'=>e=.returned (.tuple #[])∧w'=w:=by
 obtain ⟨j,hj,_⟩:=Option.map_eq_some_iff.1 sizeSB
 go_enter Tryz.func116,Tryz.ntmps116
 go_wp2
 rw [Lib.run_neq_ptr_same w _ Tryz.underlying141 hj]
 go_wp2
 go_end0
 exact ⟨rfl,rfl⟩
theorem sb_fresh (b:Nat) (w:World) (h0:w.cell? ⟨b,0,none⟩=some (.pointer none)) (hsh:w.shape? b=some (143,2)) (hfz:w.frozen? ⟨b,0,none⟩=false):
  Calls Tryz.prog 116 #[.pointer (some ⟨b,0,none⟩)] w fun e w'=>e=.returned (.tuple #[])∧w'=w.setCell ⟨b,0,none⟩ (.pointer (some ⟨b,0,none⟩)):=by
 obtain ⟨j,hj,hjs⟩:=Option.map_eq_some_iff.1 sizeSB
 go_enter Tryz.func116,Tryz.ntmps116
 go_wp2
 rw [Lib.run_to_unsafe w ⟨b,0,none⟩ Tryz.underlying141 Tryz.underlying169 hj (by rw [hjs];decide) hsh (Nat.zero_lt_succ 1)]
 simp only [Result.andThen]
 rw [Oper.upon_value]
 go_wp2
 rw [run_callFunc_extern Tryz.func123 (by kernel_rfl) (by kernel_rfl) (by kernel_rfl) (e:=Extern.AbiNoEscape.same) (by kernel_rfl)]
 rw [Lib.run_noEscape]
 simp only [Result.andThen]
 rw [Oper.upon_value]
 go_wp2
 rw [Lib.run_from_unsafe w ⟨b,0,none⟩ Tryz.underlying169 Tryz.underlying141 hj hsh liesSB]
 simp only [Result.andThen]
 rw [Oper.upon_value]
 go_wp2
 go_end0
 exact ⟨rfl,rfl⟩
abbrev SB (B b:Nat) (bs:List Value) (w:World):Prop:=Lib.IsBuilder 143 5 B b bs w
abbrev SBAt (B b:Nat) (bs:List Value) (w:World):Prop:=Lib.BuilderAt 143 5 B b (.pointer (some ⟨b,0,none⟩)) bs w
structure SWr (B b:Nat) (W W':World):Prop where
 below:Below B W W'
 kept:Lib.OthersKept 5 (some b) W W'
theorem SWr.refl (B b:Nat) (W:World):SWr B b W W:=⟨Below.refl _ _,Lib.OthersKept.refl _ _ _⟩
theorem SWr.set {B b:Nat} {W W1:World} (h:SWr B b W W1) (hB:B≤b) (i:Nat) (v:Value):SWr B b W (W1.setCell ⟨b,i,none⟩ v):=⟨h.below.setCell (p:=⟨b,i,none⟩) hB v,h.kept.setCell ⟨b,i,none⟩ rfl v⟩
theorem sb_cells {B n:Nat} {v:Value} {bs:List Value} {w:World} (h:w.ownsRow B 5 1 v n bs) (g:Nat) (e:v.ownBlock=some g):∃ c fz,w.heap[g]? = some (.cells c 5 fz):=by
 rcases h.2 with ⟨hn,_⟩ | ⟨g',cap,cur,he,_,hg,_⟩
 ·rw [hn] at e;cases e
 ·rw [he] at e;cases e;exact ⟨_,_,hg⟩
theorem SWr.grown {B b n:Nat} {v:Value} {bs:List Value} {W W1 W2:World} (h:SWr B b W W1) (hB:B≤W1.heap.size) (ho:W1.ownsRow B 5 1 v n bs) (hg:W1.grownBy W2 v.ownBlock):SWr B b W W2:=
 ⟨h.below.grown hg hB (fun k hk=>(ho.lt k hk).1),h.kept.grown hg (fun g e=>sb_cells ho g e)⟩
theorem sb_check (B b:Nat) (bs:List Value) (w:World) (h:SB B b bs w):
  Calls Tryz.prog 116 #[.pointer (some ⟨b,0,none⟩)] w fun e w'=>e=.returned (.tuple #[])∧SBAt B b bs w'∧SWr B b w w':=by
 rcases h with h | h
 ·refine (sb_fresh b w h.cell0 h.shape h.frozen0).mono ?_
  rintro e w' ⟨rfl,rfl⟩
  exact ⟨rfl,h.used _,(SWr.refl B b w).set h.1 0 _⟩
 ·refine (sb_used b w h.cell0).mono ?_
  rintro e w' ⟨rfl,rfl⟩
  exact ⟨rfl,h,SWr.refl B b _⟩
theorem sb_str (B b:Nat) (bs:List Value) (s:ByteArray) (w:World) (h:SB B b bs w) (hlen:bs.length+s.size≤140737488355328):
  Calls Tryz.prog 103 #[.pointer (some ⟨b,0,none⟩),.string s] w fun e w'=>e=.returned (.tuple #[.int .i64 s.size,.nilIface])∧SBAt B b (bs++Lib.strCells s) w'∧SWr B b w w':=by
 obtain ⟨i0,hi0,hz0,hz1,hz2⟩:=info_parts infoByte
 have HI0:=Lib.hid (And.intro hi0 (And.intro hz0 (And.intro hz1 hz2)))
 have HC:=Lib.hid (sb_check B b bs w h)
 clear hi0 hz0 hz1 hz2 h
 have hmax:bs.length+s.size≤maxLen:=by unfold maxLen;omega
 go_enter Tryz.func103,Tryz.ntmps103
 go_wp2_with (first | (go_at_call 116;refine HC.out.mono ?_;rintro e w1 ⟨rfl,h1,hb1⟩;have H1:=Lib.hid (And.intro h1 hb1);obtain ⟨hBb,v,hbk,hown,hne⟩:=h1;obtain ⟨A0,c0',rfl⟩:=own_form hown;have hlt:=H1.out.1.lt;have c1:w1.cell? ⟨b,1,none⟩=some (.slice A0 bs.length c0'):=(by rw [Lib.cell_of_heap hbk];rfl);have HO:=Lib.hid hown;have HK:=Lib.hid hbk;have HNE:=Lib.hid hne;clear hown hbk hne hb1) | (at_builtin;refine Lib.wpList_append_own_string _ rfl (.tmp 12) (.tmp 13) 46 9 rfl B 5 i0 Tryz.underlying46 Tryz.underlying9 HI0.out.1 HI0.out.2.1 HI0.out.2.2.1 HI0.out.2.2.2 (.slice A0 bs.length c0') bs.length bs rfl HO.out s rfl hmax (by omega) (by omega) ?_;intro v3 W3 hown3 hgrow3 _;obtain ⟨A3,c3,rfl⟩:=own_form hown3;have hb2:W3.heap[b]? = some (.cells #[.pointer (some ⟨b,0,none⟩),.slice A0 bs.length c0'] 143 (0,0)):=(by rw [hgrow3.block b hlt (fun e=>HNE.out e.symm)];exact HK.out);have d1:W3.cell? ⟨b,1,none⟩=some (.slice A0 bs.length c0'):=(by rw [Lib.cell_of_heap hb2];rfl);have f1:W3.frozen? ⟨b,1,none⟩=false:=Lib.frozen_of_heap hb2 1;have H3:=Lib.hid (And.intro hown3 (And.intro hgrow3 hb2));clear hown3 hgrow3 hb2))
 go_ret2
 refine ⟨rfl,Lib.BuilderAt.put hBb H3.out.2.2 (bs':=bs++Lib.strCells s) (by simpa [Lib.strCells_length] using H3.out.1) (by decide),?_⟩
 exact (H1.out.2.grown (by omega) HO.out H3.out.2.1).set hBb 1 _
theorem sizeByteS:(Tryz.prog.info? 5).map (·.size)=some 1:=by kernel_rfl
theorem neSB:143≠5:=by decide
theorem sb_grow (B b n:Nat) (w:World) (hB:B≤b) (hbk:w.heap[b]? = some (.cells #[.pointer (some ⟨b,0,none⟩),.slice none 0 0] 143 (0,0))) (hBw:B≤w.heap.size) (hn:n≤281474976710656):
  Calls Tryz.prog 117 #[.pointer (some ⟨b,0,none⟩),.int .i64 n] w fun e w'=>e=.returned (.tuple #[])∧SBAt B b [] w'∧Below B w w':=by
 obtain ⟨cs,hrun,hle,hmax⟩:=Lib.run_makeNoZero (P:=Tryz.prog) w.drew #[3] 46 5 Tryz.underlying46 n hn
 have hw:IntKind.i64.wrap (IntKind.i64.wrap 0+(n:Int))=n:=by
  rw [IntKind.wrap_i64,IntKind.wrap_i64]
  omega
 have hcall:(callFunc 124 #[.int .i64 (IntKind.i64.wrap (IntKind.i64.wrap 0+(n:Int)))]).run Tryz.prog w.drew=.ok (.value (.slice (some ⟨w.drew.heap.size,0,none⟩) n cs.size)) (w.drew.drew.drew.alloc (.cells cs 5)):=by
  rw [hw,run_callFunc_extern Tryz.func124 (by kernel_rfl) (by kernel_rfl) (by kernel_rfl) (e:=Extern.BytealgMakeNoZero.makeNoZero #[3] #[46]) (by kernel_rfl),hrun]
  rfl
 have c1:w.drew.cell? ⟨b,1,none⟩=some (.slice none 0 0):=by
  have:w.drew.heap[b]? = _:=hbk
  rw [Lib.cell_of_heap this];rfl
 have hlt:b<w.heap.size:=by
  rcases Nat.lt_or_ge b w.heap.size with h' | h'
  ·exact h'
  ·simp [Array.getElem?_eq_none h'] at hbk
 have c2:(w.alloc (.cells cs 5)).cell? ⟨b,1,none⟩=some (.slice none 0 0):=by
  have:(w.alloc (.cells cs 5)).heap[b]? = _:=(Lib.alloc_old w _ b hlt).trans hbk
  rw [Lib.cell_of_heap this];rfl
 have f2:(w.alloc (.cells cs 5)).frozen? ⟨b,1,none⟩=false:=Lib.frozen_of_heap ((Lib.alloc_old w _ b hlt).trans hbk) 1
 have hcopy:∀ W:World,(Builtin.copy_ #[46,46] 3 #[.slice (some ⟨w.heap.size,0,none⟩) 0 cs.size,.slice none 0 0]).run Tryz.prog W=.ok (goInt 0) W:=
  fun W=>run_copy_none W 46 46 3 5 _ _ 0 cs.size 0 0 Tryz.underlying46 sizeByteS rfl
 clear hw hlt
 have mixed:Tryz.prog.follows .mixedOrders=true:=by kernel_rfl
 go_enter Tryz.func117,Tryz.ntmps117
 go_wp2
 have hfin:=Lib.grown_fresh (T:=143) (e:=5) (cs:=cs) hB hbk hBw (hmax (by unfold maxLen;omega)) neSB
 go_region_o
 all_goals (go_wp2;go_end0;exact ⟨rfl,hfin⟩)
theorem sb_Grow (B b n:Nat) (w:World) (hB:B≤b) (hbk:w.heap[b]? = some (.cells #[.pointer none,.slice none 0 0] 143 (0,0))) (_hBw:B≤w.heap.size) (hn:n≤281474976710656):
  Calls Tryz.prog 102 #[.pointer (some ⟨b,0,none⟩),.int .i64 n] w fun e w'=>e=.returned (.tuple #[])∧SBAt B b [] w'∧Below B w w':=by
 have hbk1:(w.setCell ⟨b,0,none⟩ (.pointer (some ⟨b,0,none⟩))).heap[b]? = some (.cells #[.pointer (some ⟨b,0,none⟩),.slice none 0 0] 143 (0,0)):=by
  simp [World.setCell,Array.getElem?_modify,hbk]
 have hb1:Below B w (w.setCell ⟨b,0,none⟩ (.pointer (some ⟨b,0,none⟩))):=(Below.refl B w).setCell (p:=⟨b,0,none⟩) hB _
 have hU:SBAt B b [] (w.setCell ⟨b,0,none⟩ (.pointer (some ⟨b,0,none⟩))):=⟨hB,.slice none 0 0,hbk1,World.ownsRow_nil _ _ _ _,by simp [Value.ownBlock]⟩
 have c1':(w.setCell ⟨b,0,none⟩ (.pointer (some ⟨b,0,none⟩))).drew.cell? ⟨b,1,none⟩=some (.slice none 0 0):=by
  have:(w.setCell ⟨b,0,none⟩ (.pointer (some ⟨b,0,none⟩))).drew.heap[b]? = _:=hbk1
  rw [Lib.cell_of_heap this];rfl
 have mixed:Tryz.prog.follows .mixedOrders=true:=by kernel_rfl
 go_enter Tryz.func102,Tryz.ntmps102
 go_wp2_with (go_at_call 116;refine (sb_fresh b w (by rw [Lib.cell_of_heap hbk];rfl) (by simp [World.shape?,hbk]) (Lib.frozen_of_heap hbk 0)).mono ?_;rintro e w' ⟨rfl,rfl⟩)
 generalize hW1:(w.setCell ⟨b,0,none⟩ (.pointer (some ⟨b,0,none⟩)))=W1 at *
 clear hW1
 have c1:W1.cell? ⟨b,1,none⟩=some (.slice none 0 0):=c1'
 have hsz:B≤W1.heap.size:=by
  have:b<W1.heap.size:=by
   rcases Nat.lt_or_ge b W1.heap.size with h' | h'
   ·exact h'
   ·simp [Array.getElem?_eq_none h'] at hbk1
  omega
 have HH:=Lib.hid (And.intro hbk1 (And.intro hb1 (And.intro hU hsz)))
 clear c1' hbk1 hb1 hU hbk hsz
 go_quiet (fail)
 have HD:=Lib.hid (show (W1.drewN nq).heap=W1.heap from rfl)
 have HB:=Lib.hid (show Below W1.heap.size W1 (W1.drewN nq) from ⟨rfl,rfl,rfl,Nat.le_refl _,fun _ _=>rfl⟩)
 have HU:=Lib.hid (show SBAt B b [] (W1.drewN nq) from HH.out.2.2.1)
 have HK:=Lib.hid (show (W1.drewN nq).heap[b]? = some (.cells #[.pointer (some ⟨b,0,none⟩),.slice none 0 0] 143 (0,0)) from HH.out.1)
 clear c1
 generalize W1.drewN nq=W2 at *
 rcases Nat.eq_zero_or_pos n with h0 | h0
 ·have h0':¬ 0<n:=by omega
  clear h0
  go_wp2
  go_end0
  exact ⟨rfl,HU.out,HH.out.2.1.trans (HB.out.mono HH.out.2.2.2)⟩
 ·go_wp2_with (go_at_call 117;refine (sb_grow B b n W2 hB HK.out (by rw [HD.out];exact HH.out.2.2.2) hn).mono ?_;rintro e w' ⟨rfl,h1,h2⟩;have HZ:=Lib.hid (And.intro h1 h2);clear h1 h2)
  go_end0
  exact ⟨rfl,HZ.out.1,(HH.out.2.1.trans (HB.out.mono HH.out.2.2.2)).trans HZ.out.2⟩
end Go.Proofs.YtamlaknfakaanaaGreatDoor
namespace Go.Proofs.YtamlaknfakaanaaGreatDoor
open Go Go.RowKit Go.Shelf
set_option linter.unusedVariables false
set_option linter.unusedSimpArgs false
theorem str_cells (s:ByteArray):Lib.strCells s=Lib.byteCells s.data.toList:=rfl
theorem byte_app (a b:List UInt8):Lib.byteCells a++Lib.byteCells b=Lib.byteCells (a++b):=by simp [Lib.byteCells]
theorem arr_app (a b c:ByteArray):(⟨(a.data.toList++b.data.toList++c.data.toList).toArray⟩:ByteArray)=a++b++c:=by
 apply ByteArray.ext
 apply Array.ext'
 simp
theorem text_join (a b c:ByteArray) (w:World) (hs:a.size+b.size+c.size≤140737488355328):
  Calls Tryz.prog 82 #[.string a,.string b,.string c] w fun e w'=>e=.returned (.string (a++b++c))∧Below w.heap.size w w':=by
 have hbk:(w.alloc (.cells #[.pointer none,.slice none 0 0] 143)).heap[w.heap.size]? = some (.cells #[.pointer none,.slice none 0 0] 143 (0,0)):=heap_alloc_new w _
 have hgr:=sb_Grow w.heap.size w.heap.size (a.size+b.size+c.size) (w.alloc (.cells #[.pointer none,.slice none 0 0] 143)) (Nat.le_refl _) hbk (by simp) (by omega)
 rw [Int.natCast_add,Int.natCast_add] at hgr
 have HG:=Lib.hid hgr
 clear hgr
 have HB0:=Lib.hid (below_alloc w (.cells #[.pointer none,.slice none 0 0] 143))
 have hsz:((a.size:Int)+(b.size:Int))≤140737488355328:=by omega
 have hsz2:((a.size:Int)+(b.size:Int)+(c.size:Int))≤140737488355328:=by omega
 clear hbk
 have HW:=Lib.hid (fun (bs:List Value) (s:ByteArray) (W:World) (h:SBAt w.heap.size w.heap.size bs W) (hl:bs.length+s.size≤140737488355328)=>sb_str w.heap.size w.heap.size bs s W (.inr h) hl)
 have HS:=Lib.hid (fun (l:List UInt8) (W:World) (h:SBAt w.heap.size w.heap.size (Lib.byteCells l) W)=>Tryz.Builder_String_any w.heap.size w.heap.size l W (.inr h) (Nat.le_of_lt h.lt))
 go_enter Tryz.func82,Tryz.ntmps82
 go_wp2_with (first
  | (go_at_call 102;refine HG.out.mono ?_;rintro e w1 ⟨rfl,h1,hb⟩;have H1:=Lib.hid (And.intro h1 (HB0.out.trans hb));clear h1 hb)
  | (go_at_call 103;(with_reducible refine (HW.out [] a _ H1.out.1 (by simp;omega)).mono ?_);rintro e w2 ⟨rfl,h1,hb⟩;have H2:=Lib.hid (And.intro h1 (H1.out.2.trans hb.below));clear h1 hb)
  | (go_at_call 103;(with_reducible refine (HW.out _ b _ H2.out.1 (by simp [Lib.strCells_length];omega)).mono ?_);rintro e w3 ⟨rfl,h1,hb⟩;have H3:=Lib.hid (And.intro h1 (H2.out.2.trans hb.below));clear h1 hb)
  | (go_at_call 103;(with_reducible refine (HW.out _ c _ H3.out.1 (by simp [Lib.strCells_length];omega)).mono ?_);rintro e w4 ⟨rfl,h1,hb⟩;have H4:=Lib.hid (And.intro h1 (H3.out.2.trans hb.below));clear h1 hb)
  | (go_at_call 104;have hat:SBAt w.heap.size w.heap.size (Lib.byteCells (a.data.toList++b.data.toList++c.data.toList)) w4:=(by have:=H4.out.1;rw [List.nil_append,str_cells,str_cells,str_cells,byte_app,byte_app] at this;exact this);refine (HS.out _ _ hat).mono ?_;rintro e w5 ⟨rfl,hb⟩;have H5:=Lib.hid (H4.out.2.trans hb)))
 go_ret
 exact ⟨by show Ending.returned (.string ⟨(a.data.toList++(b.data.toList++c.data.toList)).toArray⟩)=.returned (.string (a++b++c));rw [← arr_app,List.append_assoc],H5.out⟩
open Go Go.RowKit
open Go.Sort (grow)
theorem text_Do_ins (s:ByteArray) (c:GC) (i:Nat) (A AL AO:Option Addr) (cp cL cO:Nat) (w:World) (hs:s.size+c.s.size≤140737488355328) (hk:c.kind=8) (hi:c.i=i) (hin:i≤nChars s):
  Calls Tryz.prog 46 #[.string s,.agg #[.int .u8 c.kind,.slice A c.path.length cp,.string c.key,.int .i64 c.i,.int .i64 c.j,.int .i64 c.n,.int .u8 c.v.kind,.int .i64 c.v.num,.string c.v.str,.slice AL c.v.items.length cL,.slice AO c.v.vals.length cO,.string c.s]] w fun e w'=>e=.returned (.tuple #[.string (insS s i c.s),.int .u16 0])∧Below w.heap.size w w':=by
 have h0:chkT (nChars s) c.kind.toNat c.i c.n=0:=by
  unfold chkT
  rw [show c.kind.toNat=8 by omega,hi]
  simp
  omega
 have HCK:=Lib.hid (fun W=>text_Check s c A AL AO cp cL cO W (by omega) (.inl hk))
 rw [h0] at HCK
 have hnl:=(nChars_chars s).2
 have HOF:=Lib.hid (fun W=>text_offset s i W (by omega) (by omega))
 have hcl:=cutS_le s i
 have D1:=Lib.hid (fun (W0:World) (d:Nat) (os:Array Obj)=>Calls.regrown_of (text_join (s.extract 0 (cutS s i)) c.s (s.extract (cutS s i) s.size) (grow (redrawn W0 d) os) (by simp [ByteArray.size_extract];omega)))
 have hk8:(c.kind == 8)=true:=by simp;omega
 have H0:=Lib.hid (Whole.new w 35 #[.int .u8 c.kind,.slice A c.path.length cp,.string c.key,.int .i64 c.i,.int .i64 c.j,.int .i64 c.n,.int .u8 c.v.kind,.int .i64 c.v.num,.string c.v.str,.slice AL c.v.items.length cL,.slice AO c.v.vals.length cO,.string c.s])
 have HB:=Lib.hid (below_alloc w (.cells #[.int .u8 c.kind,.slice A c.path.length cp,.string c.key,.int .i64 c.i,.int .i64 c.j,.int .i64 c.n,.int .u8 c.v.kind,.int .i64 c.v.num,.string c.v.str,.slice AL c.v.items.length cL,.slice AO c.v.vals.length cO,.string c.s] 35))
 have HI:=Lib.hid hi
 rw [hi] at HCK H0 HB ⊢
 show Calls _ _ _ w fun e w'=>e=.returned (.tuple #[.string (s.extract 0 (cutS s i)++c.s++s.extract (cutS s i) s.size),.int .u16 0])∧Below w.heap.size w w'
 clear hk hi hin h0 hnl
 generalize cutS s i=f at *
 have hf0:(0:Int)≤(f:Int):=by omega
 have hf1:(f:Int)≤(s.size:Int):=by omega
 go_enter Tryz.func46,Tryz.ntmps46
 go_wp2_with (first
  | (go_at_call 76;refine (HCK.out _).mono ?_;rintro e w1 ⟨rfl,hb⟩;have H1:=Lib.hid (And.intro (H0.out.below hb (by simp)) (HB.out.trans (hb.mono (by simp))));clear hb;obtain ⟨c0,c1,c2,c3,c4,c5,c6,c7,c8,c9,c10,c11,_⟩:=H1.out.1.tw)
  | (go_at_call 81;refine (HOF.out _).mono ?_;rintro e w2 ⟨rfl,hb⟩;have H2:=Lib.hid (And.intro (H1.out.1.below hb H1.out.1.lt) (H1.out.2.trans (hb.mono H1.out.2.size)));clear hb c0 c1 c2 c3 c4 c5 c6 c7 c8 c9 c10 c11;obtain ⟨c0,c1,c2,c3,c4,c5,c6,c7,c8,c9,c10,c11,_⟩:=H2.out.1.tw))
 replace c11:=cell_regrown c11
 clear c0 c1 c2 c3 c4 c5 c6 c7 c8 c9 c10
 refine wp_region_quiet_below (by kernel_rfl) (by kernel_rfl) ?_
 repeat (any_goals (go_big_quiet_step (first | with_reducible exact D1.out _ _ _)))
 refine wpQuiet_nil ?_
 intro _ hw'
 obtain ⟨⟨dq,osq⟩,hw''⟩:=hw'
 subst hw''
 go_wp2
 go_ret2
 exact ⟨rfl,H2.out.2.trans ((below_regrown w2 dq osq).mono H2.out.2.size)⟩
theorem app_none (a c:ByteArray):a++⟨#[]⟩++c=a++c:=by
 apply ByteArray.ext
 simp
theorem text_Do_del (s:ByteArray) (c:GC) (i n:Nat) (A AL AO:Option Addr) (cp cL cO:Nat) (w:World) (hs:s.size≤70368744177664) (hk:c.kind=9) (hi:c.i=i) (hn:c.n=n) (h1:1≤n) (hin:i+n≤nChars s):
  Calls Tryz.prog 46 #[.string s,.agg #[.int .u8 c.kind,.slice A c.path.length cp,.string c.key,.int .i64 c.i,.int .i64 c.j,.int .i64 c.n,.int .u8 c.v.kind,.int .i64 c.v.num,.string c.v.str,.slice AL c.v.items.length cL,.slice AO c.v.vals.length cO,.string c.s]] w fun e w'=>e=.returned (.tuple #[.string (delS s i n),.int .u16 0])∧Below w.heap.size w w':=by
 have h0:chkT (nChars s) c.kind.toNat c.i c.n=0:=by
  unfold chkT
  rw [show c.kind.toNat=9 by omega,hi,hn]
  simp
  omega
 have HCK:=Lib.hid (fun W=>text_Check s c A AL AO cp cL cO W (by omega) (.inr hk))
 rw [h0] at HCK
 have hnl:=(nChars_chars s).2
 have HOF:=Lib.hid (fun W=>text_offset s i W (by omega) (by omega))
 have hcl:=cutS_le s i
 have hts:=tail_size s (cutS s i) hcl
 have hc2:=cutS_le (s.extract (cutS s i) s.size) n
 have hdt:=del_tail s i n
 have D2:=Lib.hid (fun (W0:World) (d:Nat) (os:Array Obj)=>Calls.regrown_of (text_offset (s.extract (cutS s i) s.size) n (grow (redrawn W0 d) os) (by omega) (by omega)))
 have D1:=Lib.hid (fun (W0:World) (d:Nat) (os:Array Obj)=>Calls.regrown_of (text_join (s.extract 0 (cutS s i)) ⟨#[]⟩ ((s.extract (cutS s i) s.size).extract (cutS (s.extract (cutS s i) s.size) n) (s.extract (cutS s i) s.size).size) (grow (redrawn W0 d) os) (by have e0:(⟨#[]⟩:ByteArray).size=0:=rfl;simp only [ByteArray.size_extract,e0];omega)))
 have hk8:(c.kind == 8)=false:=by simp;omega
 have H0:=Lib.hid (Whole.new w 35 #[.int .u8 c.kind,.slice A c.path.length cp,.string c.key,.int .i64 c.i,.int .i64 c.j,.int .i64 c.n,.int .u8 c.v.kind,.int .i64 c.v.num,.string c.v.str,.slice AL c.v.items.length cL,.slice AO c.v.vals.length cO,.string c.s])
 have HB:=Lib.hid (below_alloc w (.cells #[.int .u8 c.kind,.slice A c.path.length cp,.string c.key,.int .i64 c.i,.int .i64 c.j,.int .i64 c.n,.int .u8 c.v.kind,.int .i64 c.v.num,.string c.v.str,.slice AL c.v.items.length cL,.slice AO c.v.vals.length cO,.string c.s] 35))
 rw [hi,hn] at HCK H0 HB ⊢
 show Calls _ _ _ w fun e w'=>e=.returned (.tuple #[.string (s.extract 0 (cutS s i)++s.extract (cutS s (i+n)) s.size),.int .u16 0])∧Below w.heap.size w w'
 rw [← hdt]
 have hn9:n≤9223372036854775807:=by omega
 clear hk hi hn hin h0 hnl hdt h1 hts
 generalize hrest:s.extract (cutS s i) s.size=r at *
 generalize cutS s i=f at *
 generalize cutS r n=f2 at *
 have HRE:=Lib.hid hrest
 clear hrest
 have hf1:(f:Int)≤(s.size:Int):=by omega
 have hf2:(f2:Int)≤(r.size:Int):=by omega
 go_enter Tryz.func46,Tryz.ntmps46
 go_wp2_with (first
  | (go_at_call 76;refine (HCK.out _).mono ?_;rintro e w1 ⟨rfl,hb⟩;have H1:=Lib.hid (And.intro (H0.out.below hb (by simp)) (HB.out.trans (hb.mono (by simp))));clear hb;obtain ⟨c0,c1,c2,c3,c4,c5,c6,c7,c8,c9,c10,c11,_⟩:=H1.out.1.tw)
  | (go_at_call 81;refine (HOF.out _).mono ?_;rintro e w2 ⟨rfl,hb⟩;have H2:=Lib.hid (And.intro (H1.out.1.below hb H1.out.1.lt) (H1.out.2.trans (hb.mono H1.out.2.size)));clear hb c0 c1 c2 c3 c4 c5 c6 c7 c8 c9 c10 c11;obtain ⟨c0,c1,c2,c3,c4,c5,c6,c7,c8,c9,c10,c11,_⟩:=H2.out.1.tw))
 rw [HRE.out]
 replace c5:=cell_regrown c5
 clear c0 c1 c2 c3 c4 c6 c7 c8 c9 c10 c11
 refine wp_region_quiet_below (by kernel_rfl) (by kernel_rfl) ?_
 repeat (any_goals (go_big_quiet_step (first | with_reducible exact D1.out _ _ _ | with_reducible exact D2.out _ _ _)))
 refine wpQuiet_nil ?_
 intro _ hw'
 obtain ⟨⟨dq,osq⟩,hw''⟩:=hw'
 subst hw''
 go_wp2
 go_ret2
 exact ⟨by rw [app_none];rfl,H2.out.2.trans ((below_regrown w2 dq osq).mono H2.out.2.size)⟩
end Go.Proofs.YtamlaknfakaanaaGreatDoor
