/- Turn: what is to be done behind something else. -/
import Derived.Test.YtlgggalbngpelaaSeqA
namespace Go.Proofs.Ytlgggalbngpelaa
open Go Go.RowKit
set_option linter.unusedVariables false
set_option linter.unusedSimpArgs false

structure Two (w W : World) (ca cb : Array Value) : Prop where
  a : Whole W w.heap.size 29 ca
  b : Whole W (w.heap.size + 1) 29 cb
  below : Below w.heap.size w W
theorem Two.new (w : World) (ca cb : Array Value) : Two w ((w.alloc (.cells ca 29)).alloc (.cells cb 29)) ca cb :=
  ⟨(Whole.new w 29 ca).alloc _, by have := Whole.new (w.alloc (.cells ca 29)) 29 cb; rwa [World.size_alloc] at this, ((Below.refl _ _).alloc (Nat.le_refl _) _).alloc (by simp) _⟩
theorem Two.step {w W W' : World} {ca cb : Array Value} (h : Two w W ca cb) (hb : Below W.heap.size W W') : Two w W' ca cb :=
  ⟨h.a.below hb h.a.lt, h.b.below hb h.b.lt, h.below.trans (hb.mono h.below.size)⟩
theorem Two.put {w W : World} {ca cb : Array Value} (h : Two w W ca cb) (i : Nat) (u : Value) : Two w (W.setCell ⟨w.heap.size, i, none⟩ u) (ca.setIfInBounds i u) cb :=
  ⟨h.a.put i u, h.b.far (by simp) u, h.below.setCell (Nat.le_refl _) u⟩
theorem Two.drew {w W : World} {ca cb : Array Value} (h : Two w W ca cb) : Two w W.drew ca cb := h.step (Below.refl _ _).drew
theorem Two.draw {w W : World} {ca cb : Array Value} (h : Two w W ca cb) (d : Nat) : Two w (W.drewN d) ca cb := h.step (below_drewN (Below.refl _ _) d)

/-- What Turn answers: nothing, or one component. -/
def TurnOut (r : Option (Cm GV)) (s t : ByteArray) (m : Int) (w : World) (e : Ending) (w' : World) : Prop :=
  (r = none ∧ e = .returned (.slice none 0 0) ∧ Below w.heap.size w w') ∨ ∃ c, r = some c ∧ OneC c s t m w e w'
theorem turn_none {r : Option (Cm GV)} {s t : ByteArray} {m : Int} {w w' : World} (h : r = none) (hb : Below w.heap.size w w') : TurnOut r s t m w (.returned (.slice none 0 0)) w' := .inl ⟨h, rfl, hb⟩
theorem turn_some {r : Option (Cm GV)} {c : Cm GV} {s t : ByteArray} {m : Int} {w W w' : World} {e : Ending} (h : r = some c) (hb : Below w.heap.size w W) (ho : OneC c s t m W e w') : TurnOut r s t m w e w' := by
  obtain ⟨b, AL, AO, cL, cO, he, h1, h2, ⟨h3, h4⟩, h5⟩ := ho
  have hs := hb.size
  exact .inr ⟨c, h, b, AL, AO, cL, cO, he, by omega, h2, ⟨h3.keep (From.refl _ _) (fun k hk _ => by omega), h4.keep (From.refl _ _) (fun k hk _ => by omega)⟩, hb.trans (h5.mono hs)⟩
theorem Vl.from {w W : World} {g : GV} {AL AO : Option Addr} {cL cO : Nat} (h : Vl w g AL AO cL cO) (hb : Below w.heap.size w W) : Vl W g AL AO cL cO := h.later hb

set_option maxRecDepth 100000 in
set_option maxHeartbeats 8000000 in
theorem turn_other (k i j : Nat) (v : GV) (s t : ByteArray) (m : Int) (AL AO : Option Addr) (cL cO : Nat) (k' i' j' : Nat) (v' : GV) (s' t' : ByteArray) (m' : Int) (P' AL' AO' : Option Addr) (p' q' cL' cO' : Nat) (left : Bool) (w : World) (hv : Vl w v AL AO cL cO) (hg : v.weight ≤ 1000000000)
    (hs : s.size ≤ 281474976710656) (ht : t.size ≤ 281474976710656) (hi : i ≤ 4294967296) (hj : j ≤ 4294967296) (hi' : i' ≤ 4294967296) (hj' : j' ≤ 4294967296) (hk : (listK k && listK k') = false) :
    Calls Try.prog 10 #[.agg #[.int .u8 k, .slice none 0 0, .string s, .int .i64 i, .int .i64 j, .int .i64 m, .int .u8 v.kind, .int .i64 v.num, .string v.str, .slice AL v.items.length cL, .slice AO v.vals.length cO, .string t], .agg #[.int .u8 k', .slice P' p' q', .string s', .int .i64 i', .int .i64 j', .int .i64 m', .int .u8 v'.kind, .int .i64 v'.num, .string v'.str, .slice AL' v'.items.length cL', .slice AO' v'.vals.length cO', .string t'], .bool left] w (TurnOut (turnG ⟨k, i, j, v⟩ ⟨k', i', j', v'⟩ left) s t m w) := by
  have HAL := Lib.hid (fun (W : World) (i j : Nat) (hb : Below w.heap.size w W) => alone_any k i j v s t m AL AO cL cO W (hv.from hb) hg hs ht)
  have HLA := Lib.hid (fun W => lists_any i j k (none : Option Addr) AL AO 0 0 v.items.length cL v.vals.length cO s v.str t m v.kind v.num W)
  have HLB := Lib.hid (fun W => lists_any i' j' k' P' AL' AO' p' q' v'.items.length cL' v'.vals.length cO' s' v'.str t' m' v'.kind v'.num W)
  clear hv hg hs ht
  have T0 := Lib.hid (Two.new w #[.int .u8 k, .slice none 0 0, .string s, .int .i64 i, .int .i64 j, .int .i64 m, .int .u8 v.kind, .int .i64 v.num, .string v.str, .slice AL v.items.length cL, .slice AO v.vals.length cO, .string t] #[.int .u8 k', .slice P' p' q', .string s', .int .i64 i', .int .i64 j', .int .i64 m', .int .u8 v'.kind, .int .i64 v'.num, .string v'.str, .slice AL' v'.items.length cL', .slice AO' v'.vals.length cO', .string t'])
  have HR := Lib.hid (show turnG ⟨k, i, j, v⟩ ⟨k', i', j', v'⟩ left = some ⟨k, i, j, v⟩ by simp [turnG, hk])
  generalize turnG ⟨k, i, j, v⟩ ⟨k', i', j', v'⟩ left = R at *
  generalize listK k = la at *
  generalize listK k' = lb at *
  cases la
  · clear hk
    go_enter Try.func10, Try.ntmps10
    go_wp2_with (first
      | (go_at_call 23; with_reducible refine (HLA.out _).mono ?_; rintro e t1w ⟨rfl, hb⟩; have T1 := Lib.hid ((T0.out).step hb); clear hb; obtain ⟨a0, a1, a2, a3, a4, a5, a6, a7, a8, a9, a10, a11, f0, f1, f2, f3, f4, f5, f6, f7, f8, f9, f10, f11⟩ := T1.out.a.tw; obtain ⟨b0, b1, b2, b3, b4, b5, b6, b7, b8, b9, b10, b11, g0, g1, g2, g3, g4, g5, g6, g7, g8, g9, g10, g11⟩ := T1.out.b.tw)
      | (go_at_call 24; refine (HAL.out _ _ _ (T1.out.below)).mono ?_; rintro e wz ⟨bb, BL, BO, dL, dO, rfl, h1, h2, h3, h4⟩; have HO := Lib.hid (turn_some (m := m) HR.out (T1.out.below) ⟨bb, BL, BO, dL, dO, rfl, h1, h2, h3, h4⟩); clear h1 h2 h3 h4))
    go_ret
    exact HO.out
  · obtain rfl : lb = false := by simpa using hk
    clear hk
    go_enter Try.func10, Try.ntmps10
    go_wp2_with (first
      | (go_at_call 23; with_reducible refine (HLA.out _).mono ?_; rintro e t1w ⟨rfl, hb⟩; have T1 := Lib.hid ((T0.out).step hb); clear hb; obtain ⟨a0, a1, a2, a3, a4, a5, a6, a7, a8, a9, a10, a11, f0, f1, f2, f3, f4, f5, f6, f7, f8, f9, f10, f11⟩ := T1.out.a.tw; obtain ⟨b0, b1, b2, b3, b4, b5, b6, b7, b8, b9, b10, b11, g0, g1, g2, g3, g4, g5, g6, g7, g8, g9, g10, g11⟩ := T1.out.b.tw)
      | (go_at_call 23; with_reducible refine (HLB.out _).mono ?_; rintro e t2w ⟨rfl, hb⟩; have T2 := Lib.hid ((T1.out).step hb); clear hb; clear a0 a1 a2 a3 a4 a5 a6 a7 a8 a9 a10 a11 f0 f1 f2 f3 f4 f5 f6 f7 f8 f9 f10 f11 b0 b1 b2 b3 b4 b5 b6 b7 b8 b9 b10 b11 g0 g1 g2 g3 g4 g5 g6 g7 g8 g9 g10 g11; obtain ⟨a0, a1, a2, a3, a4, a5, a6, a7, a8, a9, a10, a11, f0, f1, f2, f3, f4, f5, f6, f7, f8, f9, f10, f11⟩ := T2.out.a.tw; obtain ⟨b0, b1, b2, b3, b4, b5, b6, b7, b8, b9, b10, b11, g0, g1, g2, g3, g4, g5, g6, g7, g8, g9, g10, g11⟩ := T2.out.b.tw)
      | (go_at_call 24; refine (HAL.out _ _ _ (T2.out.below)).mono ?_; rintro e wz ⟨bb, BL, BO, dL, dO, rfl, h1, h2, h3, h4⟩; have HO := Lib.hid (turn_some (m := m) HR.out (T2.out.below) ⟨bb, BL, BO, dL, dO, rfl, h1, h2, h3, h4⟩); clear h1 h2 h3 h4))
    go_ret
    exact HO.out

theorem turnG_ins {k i j k' i' j' : Nat} {v v' : GV} {left : Bool} (hk4 : k = 4) (hk' : listK k' = true) : turnG ⟨k, i, j, v⟩ ⟨k', i', j', v'⟩ left = some ⟨k, gapN i k' i' j' left, j, v⟩ := by
  subst hk4
  simp [turnG, show listK 4 = true from rfl, hk']
theorem turnG_gone {k i j k' j' : Nat} {v v' : GV} {left : Bool} (hk : k = 5 ∨ k = 6 ∨ k = 7) (hk' : k' = 5 ∨ k' = 6 ∨ k' = 7) (hst : staysN k k' left = false) : turnG ⟨k, i, j, v⟩ ⟨k', i, j', v'⟩ left = none := by
  have h1 : listK k = true := by rcases hk with rfl | rfl | rfl <;> rfl
  have h2 : listK k' = true := by rcases hk' with rfl | rfl | rfl <;> rfl
  simp [turnG, h1, h2, hst, show k ≠ 4 by omega, show k' ≠ 4 by omega]
theorem turnG_stay {k i j k' j' : Nat} {v v' : GV} {left : Bool} (hk : k = 5 ∨ k = 6 ∨ k = 7) (hk' : k' = 5 ∨ k' = 6 ∨ k' = 7) (hst : staysN k k' left = true) : turnG ⟨k, i, j, v⟩ ⟨k', i, j', v'⟩ left = some (if k' = 7 then ⟨k, j', j, v⟩ else ⟨k, i, j, v⟩) := by
  have h1 : listK k = true := by rcases hk with rfl | rfl | rfl <;> rfl
  have h2 : listK k' = true := by rcases hk' with rfl | rfl | rfl <;> rfl
  simp [turnG, h1, h2, hst, show k ≠ 4 by omega, show k' ≠ 4 by omega]
theorem turnG_apart {k i j k' i' j' : Nat} {v v' : GV} {left : Bool} (hk : k = 5 ∨ k = 6 ∨ k = 7) (hk' : listK k' = true) (hne : i ≠ i' ∨ k' = 4) : turnG ⟨k, i, j, v⟩ ⟨k', i', j', v'⟩ left =
    some ⟨k, gapN i k' i' j' false, if k = 7 then gapN j k' (lessN i' i) (if k' = 7 then lessN j' (lessN i i') else j') left else j, v⟩ := by
  have h1 : listK k = true := by rcases hk with rfl | rfl | rfl <;> rfl
  simp only [turnG, h1, hk', Bool.and_self, Bool.true_eq_false, if_false, if_neg (show ¬ k = 4 by omega)]
  rw [if_neg (show ¬ (i = i' ∧ k' ≠ 4) by omega)]

set_option maxRecDepth 100000 in
set_option maxHeartbeats 8000000 in
theorem turn_ins (k i j : Nat) (v : GV) (s t : ByteArray) (m : Int) (AL AO : Option Addr) (cL cO : Nat) (k' i' j' : Nat) (v' : GV) (s' t' : ByteArray) (m' : Int) (P' AL' AO' : Option Addr) (p' q' cL' cO' : Nat) (left : Bool) (w : World) (hv : Vl w v AL AO cL cO) (hg : v.weight ≤ 1000000000)
    (hs : s.size ≤ 281474976710656) (ht : t.size ≤ 281474976710656) (hi : i ≤ 4294967296) (hj : j ≤ 4294967296) (hi' : i' ≤ 4294967296) (hj' : j' ≤ 4294967296) (hk4 : k = 4) (hk' : listK k' = true) :
    Calls Try.prog 10 #[.agg #[.int .u8 k, .slice none 0 0, .string s, .int .i64 i, .int .i64 j, .int .i64 m, .int .u8 v.kind, .int .i64 v.num, .string v.str, .slice AL v.items.length cL, .slice AO v.vals.length cO, .string t], .agg #[.int .u8 k', .slice P' p' q', .string s', .int .i64 i', .int .i64 j', .int .i64 m', .int .u8 v'.kind, .int .i64 v'.num, .string v'.str, .slice AL' v'.items.length cL', .slice AO' v'.vals.length cO', .string t'], .bool left] w (TurnOut (turnG ⟨k, i, j, v⟩ ⟨k', i', j', v'⟩ left) s t m w) := by
  have HAL := Lib.hid (fun (W : World) (i j : Nat) (hb : Below w.heap.size w W) => alone_any k i j v s t m AL AO cL cO W (hv.from hb) hg hs ht)
  have HLA := Lib.hid (fun W => lists_any i j k (none : Option Addr) AL AO 0 0 v.items.length cL v.vals.length cO s v.str t m v.kind v.num W)
  have HLB := Lib.hid (fun W => lists_any i' j' k' P' AL' AO' p' q' v'.items.length cL' v'.vals.length cO' s' v'.str t' m' v'.kind v'.num W)
  clear hv hg hs ht
  have T0 := Lib.hid (Two.new w #[.int .u8 k, .slice none 0 0, .string s, .int .i64 i, .int .i64 j, .int .i64 m, .int .u8 v.kind, .int .i64 v.num, .string v.str, .slice AL v.items.length cL, .slice AO v.vals.length cO, .string t] #[.int .u8 k', .slice P' p' q', .string s', .int .i64 i', .int .i64 j', .int .i64 m', .int .u8 v'.kind, .int .i64 v'.num, .string v'.str, .slice AL' v'.items.length cL', .slice AO' v'.vals.length cO', .string t'])
  have HR := Lib.hid (turnG_ins (i := i) (j := j) (i' := i') (j' := j') (v := v) (v' := v') (left := left) hk4 hk')
  have HGB := Lib.hid (fun W => gap_any i i' j' k' left P' AL' AO' p' q' v'.items.length cL' v'.vals.length cO' s' v'.str t' m' v'.kind v'.num W (by omega) (by omega) (by omega))
  generalize turnG ⟨k, i, j, v⟩ ⟨k', i', j', v'⟩ left = R at *
  rw [show listK k = true by subst hk4; rfl] at HLA
  rw [hk'] at HLB
  have g1 : ((k : Int) == 4) = true := by simp; omega
  clear hk' hk4
  generalize gapN i k' i' j' left = z at *
  go_enter Try.func10, Try.ntmps10
  go_wp2_with (first
    | (go_at_call 23; with_reducible refine (HLA.out _).mono ?_; rintro e t1w ⟨rfl, hb⟩; have T1 := Lib.hid ((T0.out).step hb); clear hb; obtain ⟨a0, a1, a2, a3, a4, a5, a6, a7, a8, a9, a10, a11, f0, f1, f2, f3, f4, f5, f6, f7, f8, f9, f10, f11⟩ := T1.out.a.tw; obtain ⟨b0, b1, b2, b3, b4, b5, b6, b7, b8, b9, b10, b11, g0, g1, g2, g3, g4, g5, g6, g7, g8, g9, g10, g11⟩ := T1.out.b.tw)
    | (go_at_call 23; with_reducible refine (HLB.out _).mono ?_; rintro e t2w ⟨rfl, hb⟩; have T2 := Lib.hid ((T1.out).step hb); clear hb; clear a0 a1 a2 a3 a4 a5 a6 a7 a8 a9 a10 a11 f0 f1 f2 f3 f4 f5 f6 f7 f8 f9 f10 f11 b0 b1 b2 b3 b4 b5 b6 b7 b8 b9 b10 b11 g0 g1 g2 g3 g4 g5 g6 g7 g8 g9 g10 g11; obtain ⟨a0, a1, a2, a3, a4, a5, a6, a7, a8, a9, a10, a11, f0, f1, f2, f3, f4, f5, f6, f7, f8, f9, f10, f11⟩ := T2.out.a.tw; obtain ⟨b0, b1, b2, b3, b4, b5, b6, b7, b8, b9, b10, b11, g0, g1, g2, g3, g4, g5, g6, g7, g8, g9, g10, g11⟩ := T2.out.b.tw)
    | (go_at_call 25; refine (HGB.out _).mono ?_; rintro e t3w ⟨rfl, hb⟩; have T3 := Lib.hid ((T2.out).step hb); clear hb; clear a0 a1 a2 a3 a4 a5 a6 a7 a8 a9 a10 a11 f0 f1 f2 f3 f4 f5 f6 f7 f8 f9 f10 f11 b0 b1 b2 b3 b4 b5 b6 b7 b8 b9 b10 b11 g0 g1 g2 g3 g4 g5 g6 g7 g8 g9 g10 g11; obtain ⟨a0, a1, a2, a3, a4, a5, a6, a7, a8, a9, a10, a11, f0, f1, f2, f3, f4, f5, f6, f7, f8, f9, f10, f11⟩ := T3.out.a.tw; obtain ⟨b0, b1, b2, b3, b4, b5, b6, b7, b8, b9, b10, b11, g0, g1, g2, g3, g4, g5, g6, g7, g8, g9, g10, g11⟩ := T3.out.b.tw)
    | (go_at_call 24; refine (HAL.out _ _ _ ((T3.out.put 3 _).below)).mono ?_; rintro e wz ⟨bb, BL, BO, dL, dO, rfl, h1, h2, h3, h4⟩; have HO := Lib.hid (turn_some (m := m) HR.out ((T3.out.put 3 _).below) ⟨bb, BL, BO, dL, dO, rfl, h1, h2, h3, h4⟩); clear h1 h2 h3 h4))
  go_ret
  exact HO.out

set_option maxRecDepth 100000 in
set_option maxHeartbeats 8000000 in
theorem turn_gone (k i j : Nat) (v : GV) (s t : ByteArray) (m : Int) (AL AO : Option Addr) (cL cO : Nat) (k' i' j' : Nat) (v' : GV) (s' t' : ByteArray) (m' : Int) (P' AL' AO' : Option Addr) (p' q' cL' cO' : Nat) (left : Bool) (w : World) (hv : Vl w v AL AO cL cO) (hg : v.weight ≤ 1000000000)
    (hs : s.size ≤ 281474976710656) (ht : t.size ≤ 281474976710656) (hi : i ≤ 4294967296) (hj : j ≤ 4294967296) (hi' : i' ≤ 4294967296) (hj' : j' ≤ 4294967296) (hk : k = 5 ∨ k = 6 ∨ k = 7) (hk' : k' = 5 ∨ k' = 6 ∨ k' = 7) (he : i' = i) (hst : staysN k k' left = false) :
    Calls Try.prog 10 #[.agg #[.int .u8 k, .slice none 0 0, .string s, .int .i64 i, .int .i64 j, .int .i64 m, .int .u8 v.kind, .int .i64 v.num, .string v.str, .slice AL v.items.length cL, .slice AO v.vals.length cO, .string t], .agg #[.int .u8 k', .slice P' p' q', .string s', .int .i64 i', .int .i64 j', .int .i64 m', .int .u8 v'.kind, .int .i64 v'.num, .string v'.str, .slice AL' v'.items.length cL', .slice AO' v'.vals.length cO', .string t'], .bool left] w (TurnOut (turnG ⟨k, i, j, v⟩ ⟨k', i', j', v'⟩ left) s t m w) := by
  have HAL := Lib.hid (fun (W : World) (i j : Nat) (hb : Below w.heap.size w W) => alone_any k i j v s t m AL AO cL cO W (hv.from hb) hg hs ht)
  have HLA := Lib.hid (fun W => lists_any i j k (none : Option Addr) AL AO 0 0 v.items.length cL v.vals.length cO s v.str t m v.kind v.num W)
  have HLB := Lib.hid (fun W => lists_any i' j' k' P' AL' AO' p' q' v'.items.length cL' v'.vals.length cO' s' v'.str t' m' v'.kind v'.num W)
  clear hv hg hs ht
  have T0 := Lib.hid (Two.new w #[.int .u8 k, .slice none 0 0, .string s, .int .i64 i, .int .i64 j, .int .i64 m, .int .u8 v.kind, .int .i64 v.num, .string v.str, .slice AL v.items.length cL, .slice AO v.vals.length cO, .string t] #[.int .u8 k', .slice P' p' q', .string s', .int .i64 i', .int .i64 j', .int .i64 m', .int .u8 v'.kind, .int .i64 v'.num, .string v'.str, .slice AL' v'.items.length cL', .slice AO' v'.vals.length cO', .string t'])
  have HR := Lib.hid (turnG_gone (i := i) (j := j) (j' := j') (v := v) (v' := v') (left := left) hk hk' hst)
  subst he
  have HST := Lib.hid (fun W => stays_any i' j k i' j' k' left (none : Option Addr) AL AO 0 0 v.items.length cL v.vals.length cO s v.str t m v.kind v.num P' AL' AO' p' q' v'.items.length cL' v'.vals.length cO' s' v'.str t' m' v'.kind v'.num W)
  rw [hst] at HST
  rw [show listK k = true by rcases hk with rfl | rfl | rfl <;> rfl] at HLA
  rw [show listK k' = true by rcases hk' with rfl | rfl | rfl <;> rfl] at HLB
  have g1 : ((k : Int) == 4) = false := by simp; omega
  have g2 : ((k' : Int) != 4) = true := by simp; omega
  have g3 : ((k' : Int) == 4) = false := by simp; omega
  generalize turnG ⟨k, i', j, v⟩ ⟨k', i', j', v'⟩ left = R at *
  clear hst hk hk'
  go_enter Try.func10, Try.ntmps10
  go_wp2_with (first
    | (go_at_call 23; with_reducible refine (HLA.out _).mono ?_; rintro e t1w ⟨rfl, hb⟩; have T1 := Lib.hid ((T0.out).step hb); clear hb; obtain ⟨a0, a1, a2, a3, a4, a5, a6, a7, a8, a9, a10, a11, f0, f1, f2, f3, f4, f5, f6, f7, f8, f9, f10, f11⟩ := T1.out.a.tw; obtain ⟨b0, b1, b2, b3, b4, b5, b6, b7, b8, b9, b10, b11, g0, g1, g2, g3, g4, g5, g6, g7, g8, g9, g10, g11⟩ := T1.out.b.tw)
    | (go_at_call 23; with_reducible refine (HLB.out _).mono ?_; rintro e t2w ⟨rfl, hb⟩; have T2 := Lib.hid ((T1.out).step hb); clear hb; clear a0 a1 a2 a3 a4 a5 a6 a7 a8 a9 a10 a11 f0 f1 f2 f3 f4 f5 f6 f7 f8 f9 f10 f11 b0 b1 b2 b3 b4 b5 b6 b7 b8 b9 b10 b11 g0 g1 g2 g3 g4 g5 g6 g7 g8 g9 g10 g11; obtain ⟨a0, a1, a2, a3, a4, a5, a6, a7, a8, a9, a10, a11, f0, f1, f2, f3, f4, f5, f6, f7, f8, f9, f10, f11⟩ := T2.out.a.tw; obtain ⟨b0, b1, b2, b3, b4, b5, b6, b7, b8, b9, b10, b11, g0, g1, g2, g3, g4, g5, g6, g7, g8, g9, g10, g11⟩ := T2.out.b.tw)
    | (go_at_call 26; refine (HST.out _).mono ?_; rintro e t3w ⟨rfl, hb⟩; have T3 := Lib.hid ((T2.out).step hb); clear hb; clear a0 a1 a2 a3 a4 a5 a6 a7 a8 a9 a10 a11 f0 f1 f2 f3 f4 f5 f6 f7 f8 f9 f10 f11 b0 b1 b2 b3 b4 b5 b6 b7 b8 b9 b10 b11 g0 g1 g2 g3 g4 g5 g6 g7 g8 g9 g10 g11; obtain ⟨a0, a1, a2, a3, a4, a5, a6, a7, a8, a9, a10, a11, f0, f1, f2, f3, f4, f5, f6, f7, f8, f9, f10, f11⟩ := T3.out.a.tw; obtain ⟨b0, b1, b2, b3, b4, b5, b6, b7, b8, b9, b10, b11, g0, g1, g2, g3, g4, g5, g6, g7, g8, g9, g10, g11⟩ := T3.out.b.tw))
  go_ret
  exact turn_none HR.out T3.out.below

set_option maxRecDepth 100000 in
set_option maxHeartbeats 8000000 in
theorem turn_set (k i j : Nat) (v : GV) (s t : ByteArray) (m : Int) (AL AO : Option Addr) (cL cO : Nat) (k' i' j' : Nat) (v' : GV) (s' t' : ByteArray) (m' : Int) (P' AL' AO' : Option Addr) (p' q' cL' cO' : Nat) (left : Bool) (w : World) (hv : Vl w v AL AO cL cO) (hg : v.weight ≤ 1000000000)
    (hs : s.size ≤ 281474976710656) (ht : t.size ≤ 281474976710656) (hi : i ≤ 4294967296) (hj : j ≤ 4294967296) (hi' : i' ≤ 4294967296) (hj' : j' ≤ 4294967296) (hk : k = 5 ∨ k = 6 ∨ k = 7) (hk' : k' = 6) (he : i' = i) (hst : staysN k k' left = true) :
    Calls Try.prog 10 #[.agg #[.int .u8 k, .slice none 0 0, .string s, .int .i64 i, .int .i64 j, .int .i64 m, .int .u8 v.kind, .int .i64 v.num, .string v.str, .slice AL v.items.length cL, .slice AO v.vals.length cO, .string t], .agg #[.int .u8 k', .slice P' p' q', .string s', .int .i64 i', .int .i64 j', .int .i64 m', .int .u8 v'.kind, .int .i64 v'.num, .string v'.str, .slice AL' v'.items.length cL', .slice AO' v'.vals.length cO', .string t'], .bool left] w (TurnOut (turnG ⟨k, i, j, v⟩ ⟨k', i', j', v'⟩ left) s t m w) := by
  have HAL := Lib.hid (fun (W : World) (i j : Nat) (hb : Below w.heap.size w W) => alone_any k i j v s t m AL AO cL cO W (hv.from hb) hg hs ht)
  have HLA := Lib.hid (fun W => lists_any i j k (none : Option Addr) AL AO 0 0 v.items.length cL v.vals.length cO s v.str t m v.kind v.num W)
  have HLB := Lib.hid (fun W => lists_any i' j' k' P' AL' AO' p' q' v'.items.length cL' v'.vals.length cO' s' v'.str t' m' v'.kind v'.num W)
  clear hv hg hs ht
  have T0 := Lib.hid (Two.new w #[.int .u8 k, .slice none 0 0, .string s, .int .i64 i, .int .i64 j, .int .i64 m, .int .u8 v.kind, .int .i64 v.num, .string v.str, .slice AL v.items.length cL, .slice AO v.vals.length cO, .string t] #[.int .u8 k', .slice P' p' q', .string s', .int .i64 i', .int .i64 j', .int .i64 m', .int .u8 v'.kind, .int .i64 v'.num, .string v'.str, .slice AL' v'.items.length cL', .slice AO' v'.vals.length cO', .string t'])
  have HR := Lib.hid (turnG_stay (i := i) (j := j) (j' := j') (v := v) (v' := v') (left := left) hk (by omega) hst)
  rw [if_neg (show ¬ k' = 7 by omega)] at HR
  subst he
  have HST := Lib.hid (fun W => stays_any i' j k i' j' k' left (none : Option Addr) AL AO 0 0 v.items.length cL v.vals.length cO s v.str t m v.kind v.num P' AL' AO' p' q' v'.items.length cL' v'.vals.length cO' s' v'.str t' m' v'.kind v'.num W)
  rw [hst] at HST
  rw [show listK k = true by rcases hk with rfl | rfl | rfl <;> rfl] at HLA
  rw [show listK k' = true by subst hk'; rfl] at HLB
  have g1 : ((k : Int) == 4) = false := by simp; omega
  have g2 : ((k' : Int) != 4) = true := by simp; omega
  have g3 : ((k' : Int) == 4) = false := by simp; omega
  have HAT := Lib.hid (fun W => at_any i' i' j' k' P' AL' AO' p' q' v'.items.length cL' v'.vals.length cO' s' v'.str t' m' v'.kind v'.num W (by omega) (by omega) (by omega))
  rw [show atV i' k' i' j' = 0 by subst hk'; simp [atV], show atB i' k' i' = false by subst hk'; simp [atB]] at HAT
  generalize turnG ⟨k, i', j, v⟩ ⟨k', i', j', v'⟩ left = R at *
  clear hst hk hk'
  rcases (show ((k : Int) == 7) = true ∨ ((k : Int) == 7) = false by cases ((k : Int) == 7) <;> simp) with g5 | g5
  all_goals
    go_enter Try.func10, Try.ntmps10
    go_wp2_with (first
      | (go_at_call 23; with_reducible refine (HLA.out _).mono ?_; rintro e t1w ⟨rfl, hb⟩; have T1 := Lib.hid ((T0.out).step hb); clear hb; obtain ⟨a0, a1, a2, a3, a4, a5, a6, a7, a8, a9, a10, a11, f0, f1, f2, f3, f4, f5, f6, f7, f8, f9, f10, f11⟩ := T1.out.a.tw; obtain ⟨b0, b1, b2, b3, b4, b5, b6, b7, b8, b9, b10, b11, g0, g1, g2, g3, g4, g5, g6, g7, g8, g9, g10, g11⟩ := T1.out.b.tw)
      | (go_at_call 23; with_reducible refine (HLB.out _).mono ?_; rintro e t2w ⟨rfl, hb⟩; have T2 := Lib.hid ((T1.out).step hb); clear hb; clear a0 a1 a2 a3 a4 a5 a6 a7 a8 a9 a10 a11 f0 f1 f2 f3 f4 f5 f6 f7 f8 f9 f10 f11 b0 b1 b2 b3 b4 b5 b6 b7 b8 b9 b10 b11 g0 g1 g2 g3 g4 g5 g6 g7 g8 g9 g10 g11; obtain ⟨a0, a1, a2, a3, a4, a5, a6, a7, a8, a9, a10, a11, f0, f1, f2, f3, f4, f5, f6, f7, f8, f9, f10, f11⟩ := T2.out.a.tw; obtain ⟨b0, b1, b2, b3, b4, b5, b6, b7, b8, b9, b10, b11, g0, g1, g2, g3, g4, g5, g6, g7, g8, g9, g10, g11⟩ := T2.out.b.tw)
      | (go_at_call 26; refine (HST.out _).mono ?_; rintro e t3w ⟨rfl, hb⟩; have T3 := Lib.hid ((T2.out).step hb); clear hb; clear a0 a1 a2 a3 a4 a5 a6 a7 a8 a9 a10 a11 f0 f1 f2 f3 f4 f5 f6 f7 f8 f9 f10 f11 b0 b1 b2 b3 b4 b5 b6 b7 b8 b9 b10 b11 g0 g1 g2 g3 g4 g5 g6 g7 g8 g9 g10 g11; obtain ⟨a0, a1, a2, a3, a4, a5, a6, a7, a8, a9, a10, a11, f0, f1, f2, f3, f4, f5, f6, f7, f8, f9, f10, f11⟩ := T3.out.a.tw; obtain ⟨b0, b1, b2, b3, b4, b5, b6, b7, b8, b9, b10, b11, g0, g1, g2, g3, g4, g5, g6, g7, g8, g9, g10, g11⟩ := T3.out.b.tw)
      | (go_at_call 22; refine (HAT.out _).mono ?_; rintro e t4w ⟨rfl, hb⟩; have T4 := Lib.hid ((T3.out).step hb); clear hb; clear a0 a1 a2 a3 a4 a5 a6 a7 a8 a9 a10 a11 f0 f1 f2 f3 f4 f5 f6 f7 f8 f9 f10 f11 b0 b1 b2 b3 b4 b5 b6 b7 b8 b9 b10 b11 g0 g1 g2 g3 g4 g5 g6 g7 g8 g9 g10 g11; obtain ⟨a0, a1, a2, a3, a4, a5, a6, a7, a8, a9, a10, a11, f0, f1, f2, f3, f4, f5, f6, f7, f8, f9, f10, f11⟩ := T4.out.a.tw; obtain ⟨b0, b1, b2, b3, b4, b5, b6, b7, b8, b9, b10, b11, g0, g1, g2, g3, g4, g5, g6, g7, g8, g9, g10, g11⟩ := T4.out.b.tw)
      | (go_at_call 24; refine (HAL.out _ _ _ (T4.out.below)).mono ?_; rintro e wz ⟨bb, BL, BO, dL, dO, rfl, h1, h2, h3, h4⟩; have HO := Lib.hid (turn_some (m := m) HR.out (T4.out.below) ⟨bb, BL, BO, dL, dO, rfl, h1, h2, h3, h4⟩); clear h1 h2 h3 h4))
    go_ret
    exact HO.out

set_option maxRecDepth 100000 in
set_option maxHeartbeats 8000000 in
theorem turn_moved (k i j : Nat) (v : GV) (s t : ByteArray) (m : Int) (AL AO : Option Addr) (cL cO : Nat) (k' i' j' : Nat) (v' : GV) (s' t' : ByteArray) (m' : Int) (P' AL' AO' : Option Addr) (p' q' cL' cO' : Nat) (left : Bool) (w : World) (hv : Vl w v AL AO cL cO) (hg : v.weight ≤ 1000000000)
    (hs : s.size ≤ 281474976710656) (ht : t.size ≤ 281474976710656) (hi : i ≤ 4294967296) (hj : j ≤ 4294967296) (hi' : i' ≤ 4294967296) (hj' : j' ≤ 4294967296) (hk : k = 5 ∨ k = 6 ∨ k = 7) (hk' : k' = 7) (he : i' = i) (hst : staysN k k' left = true) :
    Calls Try.prog 10 #[.agg #[.int .u8 k, .slice none 0 0, .string s, .int .i64 i, .int .i64 j, .int .i64 m, .int .u8 v.kind, .int .i64 v.num, .string v.str, .slice AL v.items.length cL, .slice AO v.vals.length cO, .string t], .agg #[.int .u8 k', .slice P' p' q', .string s', .int .i64 i', .int .i64 j', .int .i64 m', .int .u8 v'.kind, .int .i64 v'.num, .string v'.str, .slice AL' v'.items.length cL', .slice AO' v'.vals.length cO', .string t'], .bool left] w (TurnOut (turnG ⟨k, i, j, v⟩ ⟨k', i', j', v'⟩ left) s t m w) := by
  have HAL := Lib.hid (fun (W : World) (i j : Nat) (hb : Below w.heap.size w W) => alone_any k i j v s t m AL AO cL cO W (hv.from hb) hg hs ht)
  have HLA := Lib.hid (fun W => lists_any i j k (none : Option Addr) AL AO 0 0 v.items.length cL v.vals.length cO s v.str t m v.kind v.num W)
  have HLB := Lib.hid (fun W => lists_any i' j' k' P' AL' AO' p' q' v'.items.length cL' v'.vals.length cO' s' v'.str t' m' v'.kind v'.num W)
  clear hv hg hs ht
  have T0 := Lib.hid (Two.new w #[.int .u8 k, .slice none 0 0, .string s, .int .i64 i, .int .i64 j, .int .i64 m, .int .u8 v.kind, .int .i64 v.num, .string v.str, .slice AL v.items.length cL, .slice AO v.vals.length cO, .string t] #[.int .u8 k', .slice P' p' q', .string s', .int .i64 i', .int .i64 j', .int .i64 m', .int .u8 v'.kind, .int .i64 v'.num, .string v'.str, .slice AL' v'.items.length cL', .slice AO' v'.vals.length cO', .string t'])
  have HR := Lib.hid (turnG_stay (i := i) (j := j) (j' := j') (v := v) (v' := v') (left := left) hk (by omega) hst)
  rw [if_pos hk'] at HR
  subst he
  have HST := Lib.hid (fun W => stays_any i' j k i' j' k' left (none : Option Addr) AL AO 0 0 v.items.length cL v.vals.length cO s v.str t m v.kind v.num P' AL' AO' p' q' v'.items.length cL' v'.vals.length cO' s' v'.str t' m' v'.kind v'.num W)
  rw [hst] at HST
  rw [show listK k = true by rcases hk with rfl | rfl | rfl <;> rfl] at HLA
  rw [show listK k' = true by subst hk'; rfl] at HLB
  have g1 : ((k : Int) == 4) = false := by simp; omega
  have g2 : ((k' : Int) != 4) = true := by simp; omega
  have g3 : ((k' : Int) == 4) = false := by simp; omega
  have HAT := Lib.hid (fun W => at_any i' i' j' k' P' AL' AO' p' q' v'.items.length cL' v'.vals.length cO' s' v'.str t' m' v'.kind v'.num W (by omega) (by omega) (by omega))
  rw [show atV i' k' i' j' = j' by subst hk'; simp [atV], show atB i' k' i' = true by subst hk'; simp [atB]] at HAT
  generalize turnG ⟨k, i', j, v⟩ ⟨k', i', j', v'⟩ left = R at *
  clear hst hk hk'
  rcases (show ((k : Int) == 7) = true ∨ ((k : Int) == 7) = false by cases ((k : Int) == 7) <;> simp) with g5 | g5
  all_goals
    go_enter Try.func10, Try.ntmps10
    go_wp2_with (first
      | (go_at_call 23; with_reducible refine (HLA.out _).mono ?_; rintro e t1w ⟨rfl, hb⟩; have T1 := Lib.hid ((T0.out).step hb); clear hb; obtain ⟨a0, a1, a2, a3, a4, a5, a6, a7, a8, a9, a10, a11, f0, f1, f2, f3, f4, f5, f6, f7, f8, f9, f10, f11⟩ := T1.out.a.tw; obtain ⟨b0, b1, b2, b3, b4, b5, b6, b7, b8, b9, b10, b11, g0, g1, g2, g3, g4, g5, g6, g7, g8, g9, g10, g11⟩ := T1.out.b.tw)
      | (go_at_call 23; with_reducible refine (HLB.out _).mono ?_; rintro e t2w ⟨rfl, hb⟩; have T2 := Lib.hid ((T1.out).step hb); clear hb; clear a0 a1 a2 a3 a4 a5 a6 a7 a8 a9 a10 a11 f0 f1 f2 f3 f4 f5 f6 f7 f8 f9 f10 f11 b0 b1 b2 b3 b4 b5 b6 b7 b8 b9 b10 b11 g0 g1 g2 g3 g4 g5 g6 g7 g8 g9 g10 g11; obtain ⟨a0, a1, a2, a3, a4, a5, a6, a7, a8, a9, a10, a11, f0, f1, f2, f3, f4, f5, f6, f7, f8, f9, f10, f11⟩ := T2.out.a.tw; obtain ⟨b0, b1, b2, b3, b4, b5, b6, b7, b8, b9, b10, b11, g0, g1, g2, g3, g4, g5, g6, g7, g8, g9, g10, g11⟩ := T2.out.b.tw)
      | (go_at_call 26; refine (HST.out _).mono ?_; rintro e t3w ⟨rfl, hb⟩; have T3 := Lib.hid ((T2.out).step hb); clear hb; clear a0 a1 a2 a3 a4 a5 a6 a7 a8 a9 a10 a11 f0 f1 f2 f3 f4 f5 f6 f7 f8 f9 f10 f11 b0 b1 b2 b3 b4 b5 b6 b7 b8 b9 b10 b11 g0 g1 g2 g3 g4 g5 g6 g7 g8 g9 g10 g11; obtain ⟨a0, a1, a2, a3, a4, a5, a6, a7, a8, a9, a10, a11, f0, f1, f2, f3, f4, f5, f6, f7, f8, f9, f10, f11⟩ := T3.out.a.tw; obtain ⟨b0, b1, b2, b3, b4, b5, b6, b7, b8, b9, b10, b11, g0, g1, g2, g3, g4, g5, g6, g7, g8, g9, g10, g11⟩ := T3.out.b.tw)
      | (go_at_call 22; refine (HAT.out _).mono ?_; rintro e t4w ⟨rfl, hb⟩; have T4 := Lib.hid ((T3.out).step hb); clear hb; clear a0 a1 a2 a3 a4 a5 a6 a7 a8 a9 a10 a11 f0 f1 f2 f3 f4 f5 f6 f7 f8 f9 f10 f11 b0 b1 b2 b3 b4 b5 b6 b7 b8 b9 b10 b11 g0 g1 g2 g3 g4 g5 g6 g7 g8 g9 g10 g11; obtain ⟨a0, a1, a2, a3, a4, a5, a6, a7, a8, a9, a10, a11, f0, f1, f2, f3, f4, f5, f6, f7, f8, f9, f10, f11⟩ := T4.out.a.tw; obtain ⟨b0, b1, b2, b3, b4, b5, b6, b7, b8, b9, b10, b11, g0, g1, g2, g3, g4, g5, g6, g7, g8, g9, g10, g11⟩ := T4.out.b.tw)
      | (go_at_call 24; refine (HAL.out _ _ _ ((T4.out.put 3 _).below)).mono ?_; rintro e wz ⟨bb, BL, BO, dL, dO, rfl, h1, h2, h3, h4⟩; have HO := Lib.hid (turn_some (m := m) HR.out ((T4.out.put 3 _).below) ⟨bb, BL, BO, dL, dO, rfl, h1, h2, h3, h4⟩); clear h1 h2 h3 h4))
    go_ret
    exact HO.out

set_option maxRecDepth 100000 in
set_option maxHeartbeats 8000000 in
theorem turn_apart (k i j : Nat) (v : GV) (s t : ByteArray) (m : Int) (AL AO : Option Addr) (cL cO : Nat) (k' i' j' : Nat) (v' : GV) (s' t' : ByteArray) (m' : Int) (P' AL' AO' : Option Addr) (p' q' cL' cO' : Nat) (left : Bool) (w : World) (hv : Vl w v AL AO cL cO) (hg : v.weight ≤ 1000000000)
    (hs : s.size ≤ 281474976710656) (ht : t.size ≤ 281474976710656) (hi : i ≤ 4294967296) (hj : j ≤ 4294967296) (hi' : i' ≤ 4294967296) (hj' : j' ≤ 4294967296) (hk : k = 5 ∨ k = 6) (hk' : listK k' = true) (hne : i ≠ i' ∨ k' = 4) :
    Calls Try.prog 10 #[.agg #[.int .u8 k, .slice none 0 0, .string s, .int .i64 i, .int .i64 j, .int .i64 m, .int .u8 v.kind, .int .i64 v.num, .string v.str, .slice AL v.items.length cL, .slice AO v.vals.length cO, .string t], .agg #[.int .u8 k', .slice P' p' q', .string s', .int .i64 i', .int .i64 j', .int .i64 m', .int .u8 v'.kind, .int .i64 v'.num, .string v'.str, .slice AL' v'.items.length cL', .slice AO' v'.vals.length cO', .string t'], .bool left] w (TurnOut (turnG ⟨k, i, j, v⟩ ⟨k', i', j', v'⟩ left) s t m w) := by
  have HAL := Lib.hid (fun (W : World) (i j : Nat) (hb : Below w.heap.size w W) => alone_any k i j v s t m AL AO cL cO W (hv.from hb) hg hs ht)
  have HLA := Lib.hid (fun W => lists_any i j k (none : Option Addr) AL AO 0 0 v.items.length cL v.vals.length cO s v.str t m v.kind v.num W)
  have HLB := Lib.hid (fun W => lists_any i' j' k' P' AL' AO' p' q' v'.items.length cL' v'.vals.length cO' s' v'.str t' m' v'.kind v'.num W)
  clear hv hg hs ht
  have T0 := Lib.hid (Two.new w #[.int .u8 k, .slice none 0 0, .string s, .int .i64 i, .int .i64 j, .int .i64 m, .int .u8 v.kind, .int .i64 v.num, .string v.str, .slice AL v.items.length cL, .slice AO v.vals.length cO, .string t] #[.int .u8 k', .slice P' p' q', .string s', .int .i64 i', .int .i64 j', .int .i64 m', .int .u8 v'.kind, .int .i64 v'.num, .string v'.str, .slice AL' v'.items.length cL', .slice AO' v'.vals.length cO', .string t'])
  have HR := Lib.hid (turnG_apart (i := i) (j := j) (i' := i') (j' := j') (v := v) (v' := v') (left := left) (hk.imp id .inl) hk' hne)
  rw [if_neg (show ¬ k = 7 by omega)] at HR
  have HAT := Lib.hid (fun W => at_any i i' j' k' P' AL' AO' p' q' v'.items.length cL' v'.vals.length cO' s' v'.str t' m' v'.kind v'.num W (by omega) (by omega) (by omega))
  rw [show atV i k' i' j' = gapN i k' i' j' false by rcases hne with h | h <;> simp [atV, h, eq_comm], show atB i k' i' = true by rcases hne with h | h <;> simp [atB, h, eq_comm]] at HAT
  rw [show listK k = true by rcases hk with rfl | rfl <;> rfl] at HLA
  rw [hk'] at HLB
  have k4 : ((k : Int) == 4) = false := by simp; omega
  have k7 : ((k : Int) == 7) = false := by simp; omega
  generalize turnG ⟨k, i, j, v⟩ ⟨k', i', j', v'⟩ left = R at *
  generalize gapN i k' i' j' false = z at *
  rcases (show (((i : Int) == (i' : Int)) = false ∧ (i == i') = false) ∨ (((i : Int) == (i' : Int)) = true ∧ (i == i') = true ∧ ((k' : Int) != 4) = false ∧ (k' != 4) = false) by
    by_cases e : i = i'
    · rcases hne with h | h
      · exact absurd e h
      · subst h; subst e; simp
    · left; simp [e]; omega) with ⟨e1, e2⟩ | ⟨e1, e2, e3, e4⟩
  all_goals clear hne hk hk'
  all_goals
    go_enter Try.func10, Try.ntmps10
    go_wp2_with (first
      | (go_at_call 23; with_reducible refine (HLA.out _).mono ?_; rintro e t1w ⟨rfl, hb⟩; have T1 := Lib.hid ((T0.out).step hb); clear hb; obtain ⟨a0, a1, a2, a3, a4, a5, a6, a7, a8, a9, a10, a11, f0, f1, f2, f3, f4, f5, f6, f7, f8, f9, f10, f11⟩ := T1.out.a.tw; obtain ⟨b0, b1, b2, b3, b4, b5, b6, b7, b8, b9, b10, b11, g0, g1, g2, g3, g4, g5, g6, g7, g8, g9, g10, g11⟩ := T1.out.b.tw)
      | (go_at_call 23; with_reducible refine (HLB.out _).mono ?_; rintro e t2w ⟨rfl, hb⟩; have T2 := Lib.hid ((T1.out).step hb); clear hb; clear a0 a1 a2 a3 a4 a5 a6 a7 a8 a9 a10 a11 f0 f1 f2 f3 f4 f5 f6 f7 f8 f9 f10 f11 b0 b1 b2 b3 b4 b5 b6 b7 b8 b9 b10 b11 g0 g1 g2 g3 g4 g5 g6 g7 g8 g9 g10 g11; obtain ⟨a0, a1, a2, a3, a4, a5, a6, a7, a8, a9, a10, a11, f0, f1, f2, f3, f4, f5, f6, f7, f8, f9, f10, f11⟩ := T2.out.a.tw; obtain ⟨b0, b1, b2, b3, b4, b5, b6, b7, b8, b9, b10, b11, g0, g1, g2, g3, g4, g5, g6, g7, g8, g9, g10, g11⟩ := T2.out.b.tw)
      | (go_at_call 22; refine (HAT.out _).mono ?_; rintro e t4w ⟨rfl, hb⟩; have T4 := Lib.hid ((T2.out).step hb); clear hb; clear a0 a1 a2 a3 a4 a5 a6 a7 a8 a9 a10 a11 f0 f1 f2 f3 f4 f5 f6 f7 f8 f9 f10 f11 b0 b1 b2 b3 b4 b5 b6 b7 b8 b9 b10 b11 g0 g1 g2 g3 g4 g5 g6 g7 g8 g9 g10 g11; obtain ⟨a0, a1, a2, a3, a4, a5, a6, a7, a8, a9, a10, a11, f0, f1, f2, f3, f4, f5, f6, f7, f8, f9, f10, f11⟩ := T4.out.a.tw; obtain ⟨b0, b1, b2, b3, b4, b5, b6, b7, b8, b9, b10, b11, g0, g1, g2, g3, g4, g5, g6, g7, g8, g9, g10, g11⟩ := T4.out.b.tw)
      | (go_at_call 24; refine (HAL.out _ _ _ ((T4.out.put 3 _).below)).mono ?_; rintro e wz ⟨bb, BL, BO, dL, dO, rfl, h1, h2, h3, h4⟩; have HO := Lib.hid (turn_some (m := m) HR.out ((T4.out.put 3 _).below) ⟨bb, BL, BO, dL, dO, rfl, h1, h2, h3, h4⟩); clear h1 h2 h3 h4))
    go_ret
    exact HO.out
end Go.Proofs.Ytlgggalbngpelaa
