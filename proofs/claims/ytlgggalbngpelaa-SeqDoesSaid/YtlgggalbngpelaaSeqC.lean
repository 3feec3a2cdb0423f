/- Turn of a Move behind one that is done to another element: five minutes' build. -/
import Derived.Test.YtlgggalbngpelaaSeqB
namespace Go.Proofs.Ytlgggalbngpelaa
open Go Go.RowKit
set_option linter.unusedVariables false
set_option linter.unusedSimpArgs false

def TwoR (w : World) (ca cb : Array Value) (W : World) : Prop := Two w W ca cb

set_option maxRecDepth 100000 in
set_option maxHeartbeats 8000000 in
theorem turn_move (k i j : Nat) (v : GV) (s t : ByteArray) (m : Int) (AL AO : Option Addr) (cL cO : Nat) (k' i' j' : Nat) (v' : GV) (s' t' : ByteArray) (m' : Int) (P' AL' AO' : Option Addr) (p' q' cL' cO' : Nat) (left : Bool) (w : World) (hv : Vl w v AL AO cL cO) (hg : v.weight ≤ 1000000000)
    (hs : s.size ≤ 281474976710656) (ht : t.size ≤ 281474976710656) (hi : i ≤ 4294967296) (hj : j ≤ 4294967296) (hi' : i' ≤ 4294967296) (hj' : j' ≤ 4294967296) (hk : k = 7) (hk' : listK k' = true) (hne : i ≠ i' ∨ k' = 4) :
    Calls Try.prog 10 #[.agg #[.int .u8 k, .slice none 0 0, .string s, .int .i64 i, .int .i64 j, .int .i64 m, .int .u8 v.kind, .int .i64 v.num, .string v.str, .slice AL v.items.length cL, .slice AO v.vals.length cO, .string t], .agg #[.int .u8 k', .slice P' p' q', .string s', .int .i64 i', .int .i64 j', .int .i64 m', .int .u8 v'.kind, .int .i64 v'.num, .string v'.str, .slice AL' v'.items.length cL', .slice AO' v'.vals.length cO', .string t'], .bool left] w (TurnOut (turnG ⟨k, i, j, v⟩ ⟨k', i', j', v'⟩ left) s t m w) := by
  have HAL := Lib.hid (fun (W : World) (i j : Nat) (hb : Below w.heap.size w W) => alone_any k i j v s t m AL AO cL cO W (hv.from hb) hg hs ht)
  have HLA := Lib.hid (fun W => lists_any i j k (none : Option Addr) AL AO 0 0 v.items.length cL v.vals.length cO s v.str t m v.kind v.num W)
  have HLB := Lib.hid (fun W => lists_any i' j' k' P' AL' AO' p' q' v'.items.length cL' v'.vals.length cO' s' v'.str t' m' v'.kind v'.num W)
  clear hv hg hs ht
  have T0 := Lib.hid (Two.new w #[.int .u8 k, .slice none 0 0, .string s, .int .i64 i, .int .i64 j, .int .i64 m, .int .u8 v.kind, .int .i64 v.num, .string v.str, .slice AL v.items.length cL, .slice AO v.vals.length cO, .string t] #[.int .u8 k', .slice P' p' q', .string s', .int .i64 i', .int .i64 j', .int .i64 m', .int .u8 v'.kind, .int .i64 v'.num, .string v'.str, .slice AL' v'.items.length cL', .slice AO' v'.vals.length cO', .string t'])
  have HR := Lib.hid (turnG_apart (i := i) (j := j) (i' := i') (j' := j') (v := v) (v' := v') (left := left) (.inr (.inr hk)) hk' hne)
  rw [if_pos hk] at HR
  have HAT := Lib.hid (fun W => at_any i i' j' k' P' AL' AO' p' q' v'.items.length cL' v'.vals.length cO' s' v'.str t' m' v'.kind v'.num W (by omega) (by omega) (by omega))
  rw [show atV i k' i' j' = gapN i k' i' j' false by rcases hne with h | h <;> simp [atV, h, eq_comm], show atB i k' i' = true by rcases hne with h | h <;> simp [atB, h, eq_comm]] at HAT
  rw [show listK k = true by subst hk; rfl] at HLA
  rw [hk'] at HLB
  have k4 : ((k : Int) == 4) = false := by simp; omega
  have k7 : ((k : Int) == 7) = true := by simp; omega
  have HLK := Lib.hid (fun W => lacking_any i' j' k' i P' AL' AO' p' q' v'.items.length cL' v'.vals.length cO' s' v'.str t' m' v'.kind v'.num W (by omega) (by omega) (by omega))
  have hl1 : lessN i' i ≤ 4294967296 := by unfold lessN; split <;> omega
  have hl2 : (if k' = 7 then lessN j' (lessN i i') else j') ≤ 4294967296 := by unfold lessN; repeat (first | split | omega)
  generalize lessN i' i = i2 at *
  generalize (if k' = 7 then lessN j' (lessN i i') else j') = j2 at *
  have HGB := Lib.hid (fun W => gap_any j i2 j2 k' left P' AL' AO' p' q' v'.items.length cL' v'.vals.length cO' s' v'.str t' m' v'.kind v'.num W (by omega) (by omega) (by omega))
  generalize turnG ⟨k, i, j, v⟩ ⟨k', i', j', v'⟩ left = R at *
  generalize gapN i k' i' j' false = z at *
  generalize gapN j k' i2 j2 left = z2 at *
  rcases (show (((i : Int) == (i' : Int)) = false ∧ (i == i') = false) ∨ (((i : Int) == (i' : Int)) = true ∧ (i == i') = true ∧ ((k' : Int) != 4) = false ∧ (k' != 4) = false) by
    by_cases e : i = i'
    · rcases hne with h | h
      · exact absurd e h
      · subst h; subst e; simp
    · left; simp [e]; omega) with ⟨e1, e2⟩ | ⟨e1, e2, e3, e4⟩
  all_goals clear hne hk hk'
  all_goals
    clear hl1 hl2
    go_enter Try.func10, Try.ntmps10
    go_wp2_with (first
      | (go_at_call 23; with_reducible refine (HLA.out _).mono ?_; rintro e t1w ⟨rfl, hb⟩; have T1 := Lib.hid ((T0.out).step hb); clear hb; obtain ⟨a0, a1, a2, a3, a4, a5, a6, a7, a8, a9, a10, a11, f0, f1, f2, f3, f4, f5, f6, f7, f8, f9, f10, f11⟩ := T1.out.a.tw; obtain ⟨b0, b1, b2, b3, b4, b5, b6, b7, b8, b9, b10, b11, g0, g1, g2, g3, g4, g5, g6, g7, g8, g9, g10, g11⟩ := T1.out.b.tw)
      | (go_at_call 23; with_reducible refine (HLB.out _).mono ?_; rintro e t2w ⟨rfl, hb⟩; have T2 := Lib.hid ((T1.out).step hb); clear hb; clear a0 a1 a2 a3 a4 a5 a6 a7 a8 a9 a10 a11 f0 f1 f2 f3 f4 f5 f6 f7 f8 f9 f10 f11 b0 b1 b2 b3 b4 b5 b6 b7 b8 b9 b10 b11 g0 g1 g2 g3 g4 g5 g6 g7 g8 g9 g10 g11; obtain ⟨a0, a1, a2, a3, a4, a5, a6, a7, a8, a9, a10, a11, f0, f1, f2, f3, f4, f5, f6, f7, f8, f9, f10, f11⟩ := T2.out.a.tw; obtain ⟨b0, b1, b2, b3, b4, b5, b6, b7, b8, b9, b10, b11, g0, g1, g2, g3, g4, g5, g6, g7, g8, g9, g10, g11⟩ := T2.out.b.tw))
    go_cut [] (TwoR w #[.int .u8 k, .slice none 0 0, .string s, .int .i64 i, .int .i64 z2, .int .i64 m, .int .u8 v.kind, .int .i64 v.num, .string v.str, .slice AL v.items.length cL, .slice AO v.vals.length cO, .string t] #[.int .u8 k', .slice P' p' q', .string s', .int .i64 i', .int .i64 j', .int .i64 m', .int .u8 v'.kind, .int .i64 v'.num, .string v'.str, .slice AL' v'.items.length cL', .slice AO' v'.vals.length cO', .string t'])
    case first =>
      clear a0 a1 a2 a5 a6 a7 a8 a9 a10 a11 f0 f1 f2 f3 f5 f6 f7 f8 f9 f10 f11 g0 g1 g2 g3 g4 g5 g6 g7 g8 g9 g10 g11
      clear HAL HAT HLA HLB HR T0 T1
      go_region_with (first
        | (go_at_call 27; refine (HLK.out _).mono ?_; rintro e t3w ⟨rfl, hb⟩; have T3 := Lib.hid ((T2.out.drew).step hb); clear hb; have x4 := T3.out.a.tw.c4; have y4 := T3.out.a.tw.f4)
        | (go_at_call 25; refine (HGB.out _).mono ?_; rintro e t4w ⟨rfl, hb⟩; have T4 := Lib.hid ((T3.out).step hb); clear hb; have u4 := T4.out.a.tw.c4; have v4 := T4.out.a.tw.f4))
      all_goals go_wp2_with fail
      all_goals go_meet
      all_goals exact T4.out.put 4 _
    case rest =>
      have T5 := Lib.hid (show Two w wc #[.int .u8 k, .slice none 0 0, .string s, .int .i64 i, .int .i64 z2, .int .i64 m, .int .u8 v.kind, .int .i64 v.num, .string v.str, .slice AL v.items.length cL, .slice AO v.vals.length cO, .string t] #[.int .u8 k', .slice P' p' q', .string s', .int .i64 i', .int .i64 j', .int .i64 m', .int .u8 v'.kind, .int .i64 v'.num, .string v'.str, .slice AL' v'.items.length cL', .slice AO' v'.vals.length cO', .string t'] from hcut)
      clear hcut
      clear a0 a1 a2 a3 a4 a5 a6 a7 a8 a9 a10 a11 f0 f1 f2 f3 f4 f5 f6 f7 f8 f9 f10 f11 b0 b1 b2 b3 b4 b5 b6 b7 b8 b9 b10 b11 g0 g1 g2 g3 g4 g5 g6 g7 g8 g9 g10 g11; obtain ⟨a0, a1, a2, a3, a4, a5, a6, a7, a8, a9, a10, a11, f0, f1, f2, f3, f4, f5, f6, f7, f8, f9, f10, f11⟩ := T5.out.a.tw; obtain ⟨b0, b1, b2, b3, b4, b5, b6, b7, b8, b9, b10, b11, g0, g1, g2, g3, g4, g5, g6, g7, g8, g9, g10, g11⟩ := T5.out.b.tw
      go_wp2_with (first
        | (go_at_call 22; refine (HAT.out _).mono ?_; rintro e t6w ⟨rfl, hb⟩; have T6 := Lib.hid ((T5.out).step hb); clear hb; clear a0 a1 a2 a3 a4 a5 a6 a7 a8 a9 a10 a11 f0 f1 f2 f3 f4 f5 f6 f7 f8 f9 f10 f11 b0 b1 b2 b3 b4 b5 b6 b7 b8 b9 b10 b11 g0 g1 g2 g3 g4 g5 g6 g7 g8 g9 g10 g11; obtain ⟨a0, a1, a2, a3, a4, a5, a6, a7, a8, a9, a10, a11, f0, f1, f2, f3, f4, f5, f6, f7, f8, f9, f10, f11⟩ := T6.out.a.tw; obtain ⟨b0, b1, b2, b3, b4, b5, b6, b7, b8, b9, b10, b11, g0, g1, g2, g3, g4, g5, g6, g7, g8, g9, g10, g11⟩ := T6.out.b.tw)
        | (go_at_call 24; refine (HAL.out _ _ _ ((T6.out.put 3 _).below)).mono ?_; rintro e wz ⟨bb, BL, BO, dL, dO, rfl, h1, h2, h3, h4⟩; have HO := Lib.hid (turn_some (m := m) HR.out ((T6.out.put 3 _).below) ⟨bb, BL, BO, dL, dO, rfl, h1, h2, h3, h4⟩); clear h1 h2 h3 h4))
      go_ret
      exact HO.out
end Go.Proofs.Ytlgggalbngpelaa
