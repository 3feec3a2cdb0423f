/- Turn, whatever both are. -/
import Derived.Test.YtlgggalbngpelaaSeqC
namespace Go.Proofs.Ytlgggalbngpelaa
open Go Go.RowKit
set_option linter.unusedVariables false
set_option linter.unusedSimpArgs false

theorem turn_any (k i j : Nat) (v : GV) (s t : ByteArray) (m : Int) (AL AO : Option Addr) (cL cO : Nat) (k' i' j' : Nat) (v' : GV) (s' t' : ByteArray) (m' : Int) (P' AL' AO' : Option Addr) (p' q' cL' cO' : Nat) (left : Bool) (w : World) (hv : Vl w v AL AO cL cO) (hg : v.weight ≤ 1000000000)
    (hs : s.size ≤ 281474976710656) (ht : t.size ≤ 281474976710656) (hi : i ≤ 4294967296) (hj : j ≤ 4294967296) (hi' : i' ≤ 4294967296) (hj' : j' ≤ 4294967296) :
    Calls Try.prog 10 #[.agg #[.int .u8 k, .slice none 0 0, .string s, .int .i64 i, .int .i64 j, .int .i64 m, .int .u8 v.kind, .int .i64 v.num, .string v.str, .slice AL v.items.length cL, .slice AO v.vals.length cO, .string t], .agg #[.int .u8 k', .slice P' p' q', .string s', .int .i64 i', .int .i64 j', .int .i64 m', .int .u8 v'.kind, .int .i64 v'.num, .string v'.str, .slice AL' v'.items.length cL', .slice AO' v'.vals.length cO', .string t'], .bool left] w (TurnOut (turnG ⟨k, i, j, v⟩ ⟨k', i', j', v'⟩ left) s t m w) := by
  cases hk : listK k
  · exact turn_other k i j v s t m AL AO cL cO k' i' j' v' s' t' m' P' AL' AO' p' q' cL' cO' left w hv hg hs ht hi hj hi' hj' (by simp [hk])
  cases hk' : listK k'
  · exact turn_other k i j v s t m AL AO cL cO k' i' j' v' s' t' m' P' AL' AO' p' q' cL' cO' left w hv hg hs ht hi hj hi' hj' (by simp [hk'])
  have h1 : k = 4 ∨ k = 5 ∨ k = 6 ∨ k = 7 := by simpa [listK] using hk
  have h2 : k' = 4 ∨ k' = 5 ∨ k' = 6 ∨ k' = 7 := by simpa [listK] using hk'
  by_cases h4 : k = 4
  · exact turn_ins k i j v s t m AL AO cL cO k' i' j' v' s' t' m' P' AL' AO' p' q' cL' cO' left w hv hg hs ht hi hj hi' hj' h4 hk'
  have h5 : k = 5 ∨ k = 6 ∨ k = 7 := by omega
  by_cases he : i' = i ∧ k' ≠ 4
  · have h6 : k' = 5 ∨ k' = 6 ∨ k' = 7 := by omega
    cases hst : staysN k k' left
    · exact turn_gone k i j v s t m AL AO cL cO k' i' j' v' s' t' m' P' AL' AO' p' q' cL' cO' left w hv hg hs ht hi hj hi' hj' h5 h6 he.1 hst
    · have h7 : k' ≠ 5 := fun e => by subst e; simp [staysN] at hst
      by_cases h8 : k' = 6
      · exact turn_set k i j v s t m AL AO cL cO k' i' j' v' s' t' m' P' AL' AO' p' q' cL' cO' left w hv hg hs ht hi hj hi' hj' h5 h8 he.1 hst
      · exact turn_moved k i j v s t m AL AO cL cO k' i' j' v' s' t' m' P' AL' AO' p' q' cL' cO' left w hv hg hs ht hi hj hi' hj' h5 (by omega) he.1 hst
  · have hne : i ≠ i' ∨ k' = 4 := by omega
    by_cases h9 : k = 7
    · exact turn_move k i j v s t m AL AO cL cO k' i' j' v' s' t' m' P' AL' AO' p' q' cL' cO' left w hv hg hs ht hi hj hi' hj' h9 hk' hne
    · exact turn_apart k i j v s t m AL AO cL cO k' i' j' v' s' t' m' P' AL' AO' p' q' cL' cO' left w hv hg hs ht hi hj hi' hj' (by omega) hk' hne
end Go.Proofs.Ytlgggalbngpelaa
