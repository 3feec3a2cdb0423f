/- Sound of a component, the document's own. -/
import Derived.Test.YtlhfnemcpgfcdaaDoorQ25
import Derived.Test.YtlhfnemcpgfcdaaDoorQ26
import Derived.Test.YtlhfnemcpgfcdaaDoorQ27
set_option maxRecDepth 100000
set_option maxHeartbeats 4000000
namespace Go.Proofs.YtlhfnemcpgfcdaaDoor
open Go Go.RowKit
set_option linter.unusedVariables false
set_option linter.unusedSimpArgs false
theorem rsound_no (c:GC) (A AL AO:Option Addr) (cp cL cO:Nat) (w:World) (hc:Cc w c A AL AO cp cL cO) (hk:¬ (1≤c.kind∧c.kind≤9)):
  Calls Tryd.prog 32 #[.agg #[.int .u8 c.kind,.slice A c.path.length cp,.string c.key,.int .i64 c.i,.int .i64 c.j,.int .i64 c.n,.int .u8 c.v.kind,.int .i64 c.v.num,.string c.v.str,.slice AL c.v.items.length cL,.slice AO c.v.vals.length cO,.string c.s]] w (BoolPost c.Sound w):=by
 have HN:=Lib.hid (show ¬ c.Sound from fun h=>hk h.2.2.2.2.1.1)
 have HB:=Lib.hid (below_alloc w (.cells #[.int .u8 c.kind,.slice A c.path.length cp,.string c.key,.int .i64 c.i,.int .i64 c.j,.int .i64 c.n,.int .u8 c.v.kind,.int .i64 c.v.num,.string c.v.str,.slice AL c.v.items.length cL,.slice AO c.v.vals.length cO,.string c.s] 36))
 have HSAY:=Lib.hid (fun W=>says_any c.kind W)
 rw [show saysB c.kind =⟨#[]⟩ by unfold saysB;simp only [show ¬ c.kind=1 by omega,show ¬ c.kind=2 by omega,show ¬ c.kind=3 by omega,show ¬ c.kind=4 by omega,show ¬ c.kind=5 by omega,show ¬ c.kind=6 by omega,show ¬ c.kind=7 by omega,show ¬ c.kind=8 by omega,show ¬ c.kind=9 by omega,if_false]] at HSAY
 have z:(⟨#[]⟩:ByteArray).toList.isEmpty=true:=by decide +kernel
 clear hc hk
 generalize c.Sound=SS at *
 go_enter Tryd.func32,Tryd.ntmps32
 go_wp2_with (go_at_call 56;refine (HSAY.out _).mono ?_;rintro e w' ⟨rfl,rfl⟩)
 go_ret
 exact ⟨false,rfl,⟨(fun h=>by cases h),fun h=>absurd h HN.out⟩,HB.out⟩
theorem ref_SoundC (c:GC) (A AL AO:Option Addr) (cp cL cO:Nat) (w:World) (hc:Cc w c A AL AO cp cL cO) (hw:c.v.weight≤1000000000) (hpos:c.v.Pos) (hky:c.key.size≤9223372036854775807) (hs:c.s.size≤9223372036854775807) (hpk:∀ s∈c.path,s.key.size≤9223372036854775807) (hT:Tabs w):
  Calls Tryd.prog 32 #[.agg #[.int .u8 c.kind,.slice A c.path.length cp,.string c.key,.int .i64 c.i,.int .i64 c.j,.int .i64 c.n,.int .u8 c.v.kind,.int .i64 c.v.num,.string c.v.str,.slice AL c.v.items.length cL,.slice AO c.v.vals.length cO,.string c.s]] w (BoolPost c.Sound w):=by
 by_cases h:1≤c.kind∧c.kind≤9
 ·rcases (show c.kind=1∨c.kind=2∨c.kind=3∨c.kind=4∨c.kind=5∨c.kind=6∨c.kind=7∨c.kind=8∨c.kind=9 by omega) with k | k | k | k | k | k | k | k | k
  ·exact rsound_1 c A AL AO cp cL cO w hc hw hpos hky hs hpk hT k
  ·exact rsound_2 c A AL AO cp cL cO w hc hw hpos hky hs hpk hT k
  ·exact rsound_3 c A AL AO cp cL cO w hc hw hpos hky hs hpk hT k
  ·exact rsound_4 c A AL AO cp cL cO w hc hw hpos hky hs hpk hT k
  ·exact rsound_5 c A AL AO cp cL cO w hc hw hpos hky hs hpk hT k
  ·exact rsound_6 c A AL AO cp cL cO w hc hw hpos hky hs hpk hT k
  ·exact rsound_7 c A AL AO cp cL cO w hc hw hpos hky hs hpk hT k
  ·exact rsound_8 c A AL AO cp cL cO w hc hw hpos hky hs hpk hT k
  ·exact rsound_9 c A AL AO cp cL cO w hc hw hpos hky hs hpk hT k
 ·exact rsound_no c A AL AO cp cL cO w hc h
end Go.Proofs.YtlhfnemcpgfcdaaDoor
