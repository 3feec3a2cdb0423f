/- Texts in one: OneF, RcD. -/
import Derived.Test.YthmcfjmignlhfaaGreatDoorQ20
import Derived.Test.YthmcfjmignlhfaaGreatDoorQ26
import Derived.Test.YthmcfjmignlhfaaGreatDoorQ25
import Derived.Test.YthmcfjmignlhfaaGreatDoorQ11
import Derived.RegionTactic
import Derived.OwnWalk
import Derived.BigQuiet
import Derived.Test.YthmcfjmignlhfaaGreatDoorQ13
import Derived.Test.YthmcfjmignlhfaaGreatDoorQ10
import Derived.Test.YthmcfjmignlhfaaGreatDoorQ9
import Derived.Test.YthmcfjmignlhfaaGreatDoorQ12
namespace Go.Proofs.YthmcfjmignlhfaaGreatDoor
open Go Go.RowKit
set_option linter.unusedVariables false
set_option linter.unusedSimpArgs false
theorem zdG {g c m} (h:OneG g c m):Small c:=
 ⟨by have:=h.v.2.2.1;omega,by have:=h.key;omega,by have:=h.s;omega,fun s hs=>by have:=(h.clean s hs).1;omega⟩
end Go.Proofs.YthmcfjmignlhfaaGreatDoor
namespace Go.Proofs.YthmcfjmignlhfaaGreatDoor
open Go Go.RowKit Go.Shelf
set_option linter.unusedVariables false
set_option linter.unusedSimpArgs false
theorem dchk (g GL GO eL eO c A AL AO cp cL cO w) (hg:Vl w g GL GO eL eO) (hc:Cc w c A AL AO cp cL cO) (hgw:g.weight<=1000000) (hs:Small c) (hpos:c.v.Pos) (hT:Tabs w) {n} (hchk:ChkIs g c n) (W:World) (hb:Below w.heap.size w W):
  Calls Tryz.prog 27 #[.agg #[.int .u8 g.kq,.int .i64 g.num,.string g.str,.slice GL g.il.length eL,.slice GO g.vz.length eO],.agg #[.int .u8 c.kq,.slice A c.path.length cp,.string c.key,.int .i64 c.i,.int .i64 c.j,.int .i64 c.n,.int .u8 c.v.kq,.int .i64 c.v.num,.string c.v.str,.slice AL c.v.il.length cL,.slice AO c.v.vz.length cO,.string c.s]] W fun e w'=>e=.returned (.int .i64 n)/\Below W.heap.size W w':=
 (zhL g GL GO eL eO c A AL AO cp cL cO W (hg.later hb) (hc.later hb) (by omega) hs hpos (hT.below hb (Nat.le_refl _))).mono fun e w' ⟨m,he,hm,hb'⟩=>⟨by rw [he,zdM hm hchk],hb'⟩
theorem dget (g GL GO eL eO) (c:GC) (A cp w) (hg:Vl w g GL GO eL eO) (hp:Wy w A cp c.path) (hgw:g.weight<=1000000) (h:GV) (hget:g.get c.path=some h) (W:World) (hb:Below w.heap.size w W):
  Calls Tryz.prog 39 #[.agg #[.int .u8 g.kq,.int .i64 g.num,.string g.str,.slice GL g.il.length eL,.slice GO g.vz.length eO],.slice A c.path.length cp] W fun e w'=>∃ HL HO dL dO,e=.returned (.tuple #[.agg #[.int .u8 h.kq,.int .i64 h.num,.string h.str,.slice HL h.il.length dL,.slice HO h.vz.length dO],.int .i64 0])/\(LstV (fun k=>W.heap.size<=k) w' (.slice HL h.il.length dL) h.il/\ObjV (fun k=>W.heap.size<=k) w' (.slice HO h.vz.length dO) h.keys h.vz)/\Below W.heap.size W w':=
 (zgH (fun _=>True) _ g W.heap.size A cp c.path W (hg.later hb).val (hp.later hb).steps (Nat.le_refl _) hp.le hp.cap (Nat.le_trans (zac _) (by omega))).mono fun e w' ⟨hb',hq⟩=>by
  rcases hq with ⟨h1,_⟩ | ⟨h',v',h1,he,L,O,hv,hL,hO⟩
  ·rw [hget] at h1;cases h1
  ·rw [hget] at h1
   cases h1
   subst hv;obtain ⟨HL,dL,rfl⟩:=zaf hL;obtain ⟨HO,dO,rfl⟩:=zae hO;exact ⟨HL,HO,dL,dO,he,⟨hL,hO⟩,hb'⟩
end Go.Proofs.YthmcfjmignlhfaaGreatDoor
