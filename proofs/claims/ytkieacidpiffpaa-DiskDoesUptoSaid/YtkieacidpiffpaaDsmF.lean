/- does: one call on both disks, as the law makes it. -/
import Derived.Test.YtkieacidpiffpaaDsmE
import Derived.Test.YtkieacidpiffpaaDskU
namespace Go.Proofs.Ytkieacidpiffpaa
open Go Go.RowKit Go.Shelf
set_option linter.unusedVariables false
set_option linter.unusedSimpArgs false

abbrev opV (x : OpG) (C : Option Addr) (c : Nat) : Array Value := #[.int .u8 x.kind, .string x.name, .slice C x.bs.length c, .int .i64 x.n]
abbrev opW (w : World) (x : OpG) (C : Option Addr) (c : Nat) : World := w.alloc (.cells (opV x C c) 42)
structure OpFit (x : OpG) : Prop where
  byte : Byte x.bs
  len : x.bs.length ≤ 9223372036854775807
  n : -9223372036854775808 ≤ x.n ∧ x.n ≤ 9223372036854775807
  name : x.name.size ≤ maxLen
def DoesOut (own own2 : Nat → Prop) (w : World) (B B2 : Nat) (m' : Md) (m2' : Rm) (ag : Prop) (e : Ending) (w' : World) : Prop :=
  ∃ b o o2, e = .returned (.bool b) ∧ (b = true ↔ ag) ∧ Pair own own2 w B B2 o o2 m' m2' w'
theorem Pair.base {own own2 o1 o2 : Nat → Prop} {w w0 w1 : World} {B B2 : Nat} {m : Md} {m2 : Rm} (hb : Below w.heap.size w w0) (h : Pair own own2 w0 B B2 o1 o2 m m2 w1) : Pair own own2 w B B2 o1 o2 m m2 w1 :=
  ⟨h.two, (Kp.of_below (own := fun i => own i ∨ own2 i) hb).trans h.kp fun i hi => .inl hi, fun i hi => (h.new1 i hi).imp id fun h2 => Nat.le_trans hb.size h2, fun i hi => (h.new2 i hi).imp id fun h2 => Nat.le_trans hb.size h2⟩
theorem opW_cells {own own2 : Nat → Prop} {w : World} {B B2 : Nat} {m : Md} {m2 : Rm} (h : Two own own2 w B B2 m m2) (x : OpG) (C : Option Addr) (c : Nat) : ∀ W, Kp (fun i => own i ∨ own2 i) (opW w x C c) W →
    W.cell? ⟨w.heap.size, 0, none⟩ = some (.int .u8 x.kind) ∧ W.cell? ⟨w.heap.size, 1, none⟩ = some (.string x.name) ∧ W.cell? ⟨w.heap.size, 2, none⟩ = some (.slice C x.bs.length c) ∧ W.cell? ⟨w.heap.size, 3, none⟩ = some (.int .i64 x.n) := by
  intro W k
  have hW : Whole (opW w x C c) w.heap.size _ (opV x C c) := Whole.new w 42 (opV x C c)
  have h2 : Whole W w.heap.size 42 (opV x C c) := hW.of_eq (k.block _ hW.lt fun e => by
    rcases e with e | e
    · have := h.l.lt e; omega
    · have := h.r.lt e; omega)
  exact ⟨h2.cell 0, h2.cell 1, h2.cell 2, h2.cell 3⟩
theorem codeM (m : Md) (s : ByteArray) (n : Int) (bs : List Int) : (0 ≤ (m.sync s).2 ∧ (m.sync s).2 ≤ 200) ∧ (0 ≤ (m.cut s n).2 ∧ (m.cut s n).2 ≤ 200) ∧ (0 ≤ (m.drop s).2 ∧ (m.drop s).2 ≤ 200) ∧ (0 ≤ (m.append s bs).2 ∧ (m.append s bs).2 ≤ 200) := by
  have hc : ∀ (g : Md → Md × Int), (∀ m', 0 ≤ (g m').2 ∧ (g m').2 ≤ 200) → 0 ≤ (m.call g).2 ∧ (m.call g).2 ≤ 200 := fun g hg => by
    unfold Md.call
    split
    · exact ⟨by simp, by simp⟩
    · exact hg _
  have hg : ∀ (g : Vw → Vw) (no : Vw → Bool) (c : Int), 0 ≤ c → c ≤ 200 → ∀ m' : Md, 0 ≤ (m'.chg s g no c).2 ∧ (m'.chg s g no c).2 ≤ 200 := fun g no c h0 h1 m' => by
    unfold Md.chg
    split
    · exact ⟨by simp, by simp⟩
    · split
      · exact ⟨h0, h1⟩
      · exact ⟨by simp, by simp⟩
  refine ⟨hc _ (hg _ _ _ (by decide) (by decide)), hc _ (hg _ _ _ (by decide) (by decide)), hc _ fun m' => ?_, hc _ fun m' => ?_⟩
  · unfold Md.drp
    split
    · exact ⟨by simp, by simp⟩
    · exact ⟨by simp, by simp⟩
  · unfold Md.app
    split
    · exact ⟨by simp, by simp⟩
    · split
      · exact ⟨by simp, by simp⟩
      · split
        · exact ⟨by simp, by simp⟩
        · exact ⟨by simp, by simp⟩
theorem srcL {own own2 o1 o2 : Nat → Prop} {w w0 W : World} {B B2 : Nat} {m : Md} {m2 : Rm} {A : Option Addr} {bs : List Int} (h1 : Src own w A bs) (h2 : Src own2 w A bs) (hb : Below w.heap.size w w0) (h : Pair own own2 w0 B B2 o1 o2 m m2 W) : Src o1 W A bs := fun hne => by
  obtain ⟨b, o, rfl, hn, hlt, hc⟩ := h1 hne
  obtain ⟨b', o', e, hn2, _, _⟩ := h2 hne
  cases e
  have hlt0 : b < w0.heap.size := Nat.lt_of_lt_of_le hlt hb.size
  refine ⟨b, o, rfl, fun hi => ?_, Nat.lt_of_lt_of_le hlt0 h.kp.size, fun i x hi => ?_⟩
  · rcases h.new1 b hi with h3 | h3
    · exact hn h3
    · omega
  · exact ((World.cell?_of_block (a := ⟨b, o + i, none⟩) (h.kp.block b hlt0 fun e => e.elim hn hn2)).trans (hb.cell (p := ⟨b, o + i, none⟩) hlt)).trans (hc i x hi)
theorem srcR {own own2 o1 o2 : Nat → Prop} {w w0 W : World} {B B2 : Nat} {m : Md} {m2 : Rm} {A : Option Addr} {bs : List Int} (h1 : Src own w A bs) (h2 : Src own2 w A bs) (hb : Below w.heap.size w w0) (h : Pair own own2 w0 B B2 o1 o2 m m2 W) : Src o2 W A bs := fun hne => by
  obtain ⟨b, o, rfl, hn, hlt, hc⟩ := h1 hne
  obtain ⟨b', o', e, hn2, _, _⟩ := h2 hne
  cases e
  have hlt0 : b < w0.heap.size := Nat.lt_of_lt_of_le hlt hb.size
  refine ⟨b, o, rfl, fun hi => ?_, Nat.lt_of_lt_of_le hlt0 h.kp.size, fun i x hi => ?_⟩
  · rcases h.new2 b hi with h3 | h3
    · exact hn2 h3
    · omega
  · exact ((World.cell?_of_block (a := ⟨b, o + i, none⟩) (h.kp.block b hlt0 fun e => e.elim hn hn2)).trans (hb.cell (p := ⟨b, o + i, none⟩) hlt)).trans (hc i x hi)
theorem ownB_bytes {w W : World} {A : Option Addr} {n c : Nat} {bs : List Int} (h : OwnB w.heap.size W (.slice A n c) bs) : Bytes W.heap.size W A bs := by
  obtain ⟨B', d, e, _, hb⟩ := own_bytes h rfl
  cases e
  rcases hb with hb | ⟨g, rfl, hb⟩
  · rw [hb]; exact Bytes.nil _ _ _
  · exact hb.bytes.up hb.lt
section
variable {own own2 : Nat → Prop} {w : World} {B B2 : Nat} {m : Md} {m2 : Rm}

set_option maxHeartbeats 2000000 in
theorem does_0 (h : Two own own2 w B B2 m m2) (x : OpG) (C : Option Addr) (c : Nat) (hC1 : Src own w C x.bs) (hC2 : Src own2 w C x.bs) (hx : OpFit x) (hk : x.kind.tmod 12 = 0) :
    Calls Try.prog 19 #[.pointer (some ⟨B, 0, none⟩), .pointer (some ⟨B2, 0, none⟩), .agg (opV x C c)] w (DoesOut own own2 w B B2 (m.append x.name x.bs).1 (m2.append x.name x.bs).1 ((m.append x.name x.bs).2 = (m2.append x.name x.bs).2)) := by
  have hb0 : Below w.heap.size w (opW w x C c) := (Below.refl _ _).alloc (Nat.le_refl _) _
  have HB0 := Lib.hid hb0
  have h1 := h.below hb0
  have P0 := Lib.hid (Pair.below (Pair.start h1) (Below.refl (opW w x C c).heap.size (opW w x C c)).drew)
  have KC := Lib.hid (opW_cells h x C c)
  have hz : 0 ≤ (m.append x.name x.bs).2 ∧ (m.append x.name x.bs).2 ≤ 200 := (codeM m x.name x.n x.bs).2.2.2
  obtain ⟨m', hm'⟩ : ∃ m', m' = (m.append x.name x.bs).1 := ⟨_, rfl⟩
  obtain ⟨z1, hz1⟩ : ∃ z1, z1 = (m.append x.name x.bs).2 := ⟨_, rfl⟩
  obtain ⟨m2', hm2'⟩ : ∃ m2', m2' = (m2.append x.name x.bs).1 := ⟨_, rfl⟩
  obtain ⟨z2, hz2⟩ : ∃ z2, z2 = (m2.append x.name x.bs).2 := ⟨_, rfl⟩
  rw [← hm', ← hz1, ← hm2', ← hz2]
  rw [← hz1] at hz
  have hme : m.append x.name x.bs = (m', z1) := by rw [hm', hz1]
  have hre : m2.append x.name x.bs = (m2', z2) := by rw [hm2', hz2]
  have HS1 := Lib.hid (fun W (hP : Pair own own2 (opW w x C c) B B2 own own2 m m2 W) => m_append hP.two.l C c x.bs.length x.name x.bs (srcL hC1 hC2 hb0 hP) hx.name hx.byte hx.len rfl hme)
  have HS2 := Lib.hid (fun (o : Nat → Prop) W (hP : Pair own own2 (opW w x C c) B B2 o own2 m' m2 W) => n_append hP.two.r C c x.bs.length x.name x.bs (srcR hC1 hC2 hb0 hP) hx.byte hx.len rfl hre)
  have hwz : IntKind.i64.wrap z1 = z1 := by rw [IntKind.wrap_i64]; omega
  have k0 := KC.out _ (Kp.refl _ _)
  obtain ⟨x0, x1, x2, x3⟩ := k0
  have K0 := Lib.hid (KC.out _ (Kp.drew (fun i => own i ∨ own2 i) (opW w x C c)))
  clear h h1 hC1 hC2 hx hm' hz1 hm2' hz2 hme hre hb0
  go_enter Try.func19, Try.ntmps19
  go_upto_region 25 with fail
  go_region_held3 (fun W => W.cell? ⟨w.heap.size, 1, none⟩ = some (.string x.name) ∧ W.cell? ⟨w.heap.size, 2, none⟩ = some (.slice C x.bs.length c))
    (first | exact ⟨K6.out.2.1, K6.out.2.2.1⟩ | exact ⟨K5.out.2.1, K5.out.2.2.1⟩ | exact ⟨K0.out.2.1, K0.out.2.2.1⟩)
    (first
      | (go_at_call 11; ((with_reducible refine (HS1.out _ P0.out).mono ?_); rintro e w5 ⟨rfl, o5, hL, hN⟩; have P5 := Lib.hid (P0.out.left hL hN); have K5 := Lib.hid (KC.out _ P5.out.kp); clear hL hN))
      | (go_at_call 45; ((with_reducible refine (HS2.out _ _ P5.out).mono ?_); rintro e w6 ⟨rfl, o6, hL, hN⟩; have P6 := Lib.hid (P5.out.right hL hN); have K6 := Lib.hid (KC.out _ P6.out.kp); clear hL hN)))
  all_goals go_wp2
  all_goals go_ret
  all_goals exact ⟨_, _, _, rfl, by simp, P6.out.base HB0.out⟩

set_option maxHeartbeats 2000000 in
theorem does_1 (h : Two own own2 w B B2 m m2) (x : OpG) (C : Option Addr) (c : Nat) (hC1 : Src own w C x.bs) (hC2 : Src own2 w C x.bs) (hx : OpFit x) (hk : x.kind.tmod 12 = 1) :
    Calls Try.prog 19 #[.pointer (some ⟨B, 0, none⟩), .pointer (some ⟨B2, 0, none⟩), .agg (opV x C c)] w (DoesOut own own2 w B B2 (m.append x.name x.bs).1 (m2.append x.name x.bs).1 ((m.append x.name x.bs).2 = (m2.append x.name x.bs).2)) := by
  have hb0 : Below w.heap.size w (opW w x C c) := (Below.refl _ _).alloc (Nat.le_refl _) _
  have HB0 := Lib.hid hb0
  have h1 := h.below hb0
  have P0 := Lib.hid (Pair.below (Pair.start h1) (Below.refl (opW w x C c).heap.size (opW w x C c)).drew)
  have KC := Lib.hid (opW_cells h x C c)
  have hz : 0 ≤ (m.append x.name x.bs).2 ∧ (m.append x.name x.bs).2 ≤ 200 := (codeM m x.name x.n x.bs).2.2.2
  obtain ⟨m', hm'⟩ : ∃ m', m' = (m.append x.name x.bs).1 := ⟨_, rfl⟩
  obtain ⟨z1, hz1⟩ : ∃ z1, z1 = (m.append x.name x.bs).2 := ⟨_, rfl⟩
  obtain ⟨m2', hm2'⟩ : ∃ m2', m2' = (m2.append x.name x.bs).1 := ⟨_, rfl⟩
  obtain ⟨z2, hz2⟩ : ∃ z2, z2 = (m2.append x.name x.bs).2 := ⟨_, rfl⟩
  rw [← hm', ← hz1, ← hm2', ← hz2]
  rw [← hz1] at hz
  have hme : m.append x.name x.bs = (m', z1) := by rw [hm', hz1]
  have hre : m2.append x.name x.bs = (m2', z2) := by rw [hm2', hz2]
  have HS1 := Lib.hid (fun W (hP : Pair own own2 (opW w x C c) B B2 own own2 m m2 W) => m_append hP.two.l C c x.bs.length x.name x.bs (srcL hC1 hC2 hb0 hP) hx.name hx.byte hx.len rfl hme)
  have HS2 := Lib.hid (fun (o : Nat → Prop) W (hP : Pair own own2 (opW w x C c) B B2 o own2 m' m2 W) => n_append hP.two.r C c x.bs.length x.name x.bs (srcR hC1 hC2 hb0 hP) hx.byte hx.len rfl hre)
  have hwz : IntKind.i64.wrap z1 = z1 := by rw [IntKind.wrap_i64]; omega
  have k0 := KC.out _ (Kp.refl _ _)
  obtain ⟨x0, x1, x2, x3⟩ := k0
  have K0 := Lib.hid (KC.out _ (Kp.drew (fun i => own i ∨ own2 i) (opW w x C c)))
  clear h h1 hC1 hC2 hx hm' hz1 hm2' hz2 hme hre hb0
  go_enter Try.func19, Try.ntmps19
  go_upto_region 25 with fail
  go_region_held3 (fun W => W.cell? ⟨w.heap.size, 1, none⟩ = some (.string x.name) ∧ W.cell? ⟨w.heap.size, 2, none⟩ = some (.slice C x.bs.length c))
    (first | exact ⟨K6.out.2.1, K6.out.2.2.1⟩ | exact ⟨K5.out.2.1, K5.out.2.2.1⟩ | exact ⟨K0.out.2.1, K0.out.2.2.1⟩)
    (first
      | (go_at_call 11; ((with_reducible refine (HS1.out _ P0.out).mono ?_); rintro e w5 ⟨rfl, o5, hL, hN⟩; have P5 := Lib.hid (P0.out.left hL hN); have K5 := Lib.hid (KC.out _ P5.out.kp); clear hL hN))
      | (go_at_call 45; ((with_reducible refine (HS2.out _ _ P5.out).mono ?_); rintro e w6 ⟨rfl, o6, hL, hN⟩; have P6 := Lib.hid (P5.out.right hL hN); have K6 := Lib.hid (KC.out _ P6.out.kp); clear hL hN)))
  all_goals go_wp2
  all_goals go_ret
  all_goals exact ⟨_, _, _, rfl, by simp, P6.out.base HB0.out⟩

set_option maxHeartbeats 2000000 in
theorem does_2 (h : Two own own2 w B B2 m m2) (x : OpG) (C : Option Addr) (c : Nat) (hC1 : Src own w C x.bs) (hC2 : Src own2 w C x.bs) (hx : OpFit x) (hk : x.kind.tmod 12 = 2) :
    Calls Try.prog 19 #[.pointer (some ⟨B, 0, none⟩), .pointer (some ⟨B2, 0, none⟩), .agg (opV x C c)] w (DoesOut own own2 w B B2 (m.append x.name x.bs).1 (m2.append x.name x.bs).1 ((m.append x.name x.bs).2 = (m2.append x.name x.bs).2)) := by
  have hb0 : Below w.heap.size w (opW w x C c) := (Below.refl _ _).alloc (Nat.le_refl _) _
  have HB0 := Lib.hid hb0
  have h1 := h.below hb0
  have P0 := Lib.hid (Pair.below (Pair.start h1) (Below.refl (opW w x C c).heap.size (opW w x C c)).drew)
  have KC := Lib.hid (opW_cells h x C c)
  have hz : 0 ≤ (m.append x.name x.bs).2 ∧ (m.append x.name x.bs).2 ≤ 200 := (codeM m x.name x.n x.bs).2.2.2
  obtain ⟨m', hm'⟩ : ∃ m', m' = (m.append x.name x.bs).1 := ⟨_, rfl⟩
  obtain ⟨z1, hz1⟩ : ∃ z1, z1 = (m.append x.name x.bs).2 := ⟨_, rfl⟩
  obtain ⟨m2', hm2'⟩ : ∃ m2', m2' = (m2.append x.name x.bs).1 := ⟨_, rfl⟩
  obtain ⟨z2, hz2⟩ : ∃ z2, z2 = (m2.append x.name x.bs).2 := ⟨_, rfl⟩
  rw [← hm', ← hz1, ← hm2', ← hz2]
  rw [← hz1] at hz
  have hme : m.append x.name x.bs = (m', z1) := by rw [hm', hz1]
  have hre : m2.append x.name x.bs = (m2', z2) := by rw [hm2', hz2]
  have HS1 := Lib.hid (fun W (hP : Pair own own2 (opW w x C c) B B2 own own2 m m2 W) => m_append hP.two.l C c x.bs.length x.name x.bs (srcL hC1 hC2 hb0 hP) hx.name hx.byte hx.len rfl hme)
  have HS2 := Lib.hid (fun (o : Nat → Prop) W (hP : Pair own own2 (opW w x C c) B B2 o own2 m' m2 W) => n_append hP.two.r C c x.bs.length x.name x.bs (srcR hC1 hC2 hb0 hP) hx.byte hx.len rfl hre)
  have hwz : IntKind.i64.wrap z1 = z1 := by rw [IntKind.wrap_i64]; omega
  have k0 := KC.out _ (Kp.refl _ _)
  obtain ⟨x0, x1, x2, x3⟩ := k0
  have K0 := Lib.hid (KC.out _ (Kp.drew (fun i => own i ∨ own2 i) (opW w x C c)))
  clear h h1 hC1 hC2 hx hm' hz1 hm2' hz2 hme hre hb0
  go_enter Try.func19, Try.ntmps19
  go_upto_region 25 with fail
  go_region_held3 (fun W => W.cell? ⟨w.heap.size, 1, none⟩ = some (.string x.name) ∧ W.cell? ⟨w.heap.size, 2, none⟩ = some (.slice C x.bs.length c))
    (first | exact ⟨K6.out.2.1, K6.out.2.2.1⟩ | exact ⟨K5.out.2.1, K5.out.2.2.1⟩ | exact ⟨K0.out.2.1, K0.out.2.2.1⟩)
    (first
      | (go_at_call 11; ((with_reducible refine (HS1.out _ P0.out).mono ?_); rintro e w5 ⟨rfl, o5, hL, hN⟩; have P5 := Lib.hid (P0.out.left hL hN); have K5 := Lib.hid (KC.out _ P5.out.kp); clear hL hN))
      | (go_at_call 45; ((with_reducible refine (HS2.out _ _ P5.out).mono ?_); rintro e w6 ⟨rfl, o6, hL, hN⟩; have P6 := Lib.hid (P5.out.right hL hN); have K6 := Lib.hid (KC.out _ P6.out.kp); clear hL hN)))
  all_goals go_wp2
  all_goals go_ret
  all_goals exact ⟨_, _, _, rfl, by simp, P6.out.base HB0.out⟩

set_option maxHeartbeats 2000000 in
theorem does_3 (h : Two own own2 w B B2 m m2) (x : OpG) (C : Option Addr) (c : Nat) (hC1 : Src own w C x.bs) (hC2 : Src own2 w C x.bs) (hx : OpFit x) (hk : x.kind.tmod 12 = 3) :
    Calls Try.prog 19 #[.pointer (some ⟨B, 0, none⟩), .pointer (some ⟨B2, 0, none⟩), .agg (opV x C c)] w (DoesOut own own2 w B B2 (m.append x.name x.bs).1 (m2.append x.name x.bs).1 ((m.append x.name x.bs).2 = (m2.append x.name x.bs).2)) := by
  have hb0 : Below w.heap.size w (opW w x C c) := (Below.refl _ _).alloc (Nat.le_refl _) _
  have HB0 := Lib.hid hb0
  have h1 := h.below hb0
  have P0 := Lib.hid (Pair.below (Pair.start h1) (Below.refl (opW w x C c).heap.size (opW w x C c)).drew)
  have KC := Lib.hid (opW_cells h x C c)
  have hz : 0 ≤ (m.append x.name x.bs).2 ∧ (m.append x.name x.bs).2 ≤ 200 := (codeM m x.name x.n x.bs).2.2.2
  obtain ⟨m', hm'⟩ : ∃ m', m' = (m.append x.name x.bs).1 := ⟨_, rfl⟩
  obtain ⟨z1, hz1⟩ : ∃ z1, z1 = (m.append x.name x.bs).2 := ⟨_, rfl⟩
  obtain ⟨m2', hm2'⟩ : ∃ m2', m2' = (m2.append x.name x.bs).1 := ⟨_, rfl⟩
  obtain ⟨z2, hz2⟩ : ∃ z2, z2 = (m2.append x.name x.bs).2 := ⟨_, rfl⟩
  rw [← hm', ← hz1, ← hm2', ← hz2]
  rw [← hz1] at hz
  have hme : m.append x.name x.bs = (m', z1) := by rw [hm', hz1]
  have hre : m2.append x.name x.bs = (m2', z2) := by rw [hm2', hz2]
  have HS1 := Lib.hid (fun W (hP : Pair own own2 (opW w x C c) B B2 own own2 m m2 W) => m_append hP.two.l C c x.bs.length x.name x.bs (srcL hC1 hC2 hb0 hP) hx.name hx.byte hx.len rfl hme)
  have HS2 := Lib.hid (fun (o : Nat → Prop) W (hP : Pair own own2 (opW w x C c) B B2 o own2 m' m2 W) => n_append hP.two.r C c x.bs.length x.name x.bs (srcR hC1 hC2 hb0 hP) hx.byte hx.len rfl hre)
  have hwz : IntKind.i64.wrap z1 = z1 := by rw [IntKind.wrap_i64]; omega
  have k0 := KC.out _ (Kp.refl _ _)
  obtain ⟨x0, x1, x2, x3⟩ := k0
  have K0 := Lib.hid (KC.out _ (Kp.drew (fun i => own i ∨ own2 i) (opW w x C c)))
  clear h h1 hC1 hC2 hx hm' hz1 hm2' hz2 hme hre hb0
  go_enter Try.func19, Try.ntmps19
  go_upto_region 25 with fail
  go_region_held3 (fun W => W.cell? ⟨w.heap.size, 1, none⟩ = some (.string x.name) ∧ W.cell? ⟨w.heap.size, 2, none⟩ = some (.slice C x.bs.length c))
    (first | exact ⟨K6.out.2.1, K6.out.2.2.1⟩ | exact ⟨K5.out.2.1, K5.out.2.2.1⟩ | exact ⟨K0.out.2.1, K0.out.2.2.1⟩)
    (first
      | (go_at_call 11; ((with_reducible refine (HS1.out _ P0.out).mono ?_); rintro e w5 ⟨rfl, o5, hL, hN⟩; have P5 := Lib.hid (P0.out.left hL hN); have K5 := Lib.hid (KC.out _ P5.out.kp); clear hL hN))
      | (go_at_call 45; ((with_reducible refine (HS2.out _ _ P5.out).mono ?_); rintro e w6 ⟨rfl, o6, hL, hN⟩; have P6 := Lib.hid (P5.out.right hL hN); have K6 := Lib.hid (KC.out _ P6.out.kp); clear hL hN)))
  all_goals go_wp2
  all_goals go_ret
  all_goals exact ⟨_, _, _, rfl, by simp, P6.out.base HB0.out⟩

set_option maxHeartbeats 2000000 in
theorem does_4 (h : Two own own2 w B B2 m m2) (x : OpG) (C : Option Addr) (c : Nat) (hC1 : Src own w C x.bs) (hC2 : Src own2 w C x.bs) (hx : OpFit x) (hk : x.kind.tmod 12 = 4) :
    Calls Try.prog 19 #[.pointer (some ⟨B, 0, none⟩), .pointer (some ⟨B2, 0, none⟩), .agg (opV x C c)] w (DoesOut own own2 w B B2 (m.sync x.name).1 (m2.sync x.name).1 ((m.sync x.name).2 = (m2.sync x.name).2)) := by
  have hb0 : Below w.heap.size w (opW w x C c) := (Below.refl _ _).alloc (Nat.le_refl _) _
  have HB0 := Lib.hid hb0
  have h1 := h.below hb0
  have P0 := Lib.hid (Pair.below (Pair.start h1) (Below.refl (opW w x C c).heap.size (opW w x C c)).drew)
  have KC := Lib.hid (opW_cells h x C c)
  have hz : 0 ≤ (m.sync x.name).2 ∧ (m.sync x.name).2 ≤ 200 := (codeM m x.name x.n x.bs).1
  obtain ⟨m', hm'⟩ : ∃ m', m' = (m.sync x.name).1 := ⟨_, rfl⟩
  obtain ⟨z1, hz1⟩ : ∃ z1, z1 = (m.sync x.name).2 := ⟨_, rfl⟩
  obtain ⟨m2', hm2'⟩ : ∃ m2', m2' = (m2.sync x.name).1 := ⟨_, rfl⟩
  obtain ⟨z2, hz2⟩ : ∃ z2, z2 = (m2.sync x.name).2 := ⟨_, rfl⟩
  rw [← hm', ← hz1, ← hm2', ← hz2]
  rw [← hz1] at hz
  have hme : m.sync x.name = (m', z1) := by rw [hm', hz1]
  have hre : m2.sync x.name = (m2', z2) := by rw [hm2', hz2]
  have HS1 := Lib.hid (fun W (hP : Pair own own2 (opW w x C c) B B2 own own2 m m2 W) => m_sync hP.two.l x.name hx.name hme)
  have HS2 := Lib.hid (fun (o : Nat → Prop) W (hP : Pair own own2 (opW w x C c) B B2 o own2 m' m2 W) => n_sync hP.two.r x.name hre)
  have hwz : IntKind.i64.wrap z1 = z1 := by rw [IntKind.wrap_i64]; omega
  have k0 := KC.out _ (Kp.refl _ _)
  obtain ⟨x0, x1, x2, x3⟩ := k0
  have K0 := Lib.hid (KC.out _ (Kp.drew (fun i => own i ∨ own2 i) (opW w x C c)))
  clear h h1 hC1 hC2 hx hm' hz1 hm2' hz2 hme hre hb0
  go_enter Try.func19, Try.ntmps19
  go_upto_region 4 with fail
  go_region_held3 (fun W => W.cell? ⟨w.heap.size, 1, none⟩ = some (.string x.name))
    (first | exact K6.out.2.1 | exact K5.out.2.1 | exact K0.out.2.1)
    (first
      | (go_at_call 12; ((with_reducible refine (HS1.out _ P0.out).mono ?_); rintro e w5 ⟨rfl, o5, hL, hN⟩; have P5 := Lib.hid (P0.out.left hL hN); have K5 := Lib.hid (KC.out _ P5.out.kp); clear hL hN))
      | (go_at_call 38; ((with_reducible refine (HS2.out _ _ P5.out).mono ?_); rintro e w6 ⟨rfl, o6, hL, hN⟩; have P6 := Lib.hid (P5.out.right hL hN); have K6 := Lib.hid (KC.out _ P6.out.kp); clear hL hN)))
  all_goals go_wp2
  all_goals go_ret
  all_goals exact ⟨_, _, _, rfl, by simp, P6.out.base HB0.out⟩

set_option maxHeartbeats 2000000 in
theorem does_5 (h : Two own own2 w B B2 m m2) (x : OpG) (C : Option Addr) (c : Nat) (hC1 : Src own w C x.bs) (hC2 : Src own2 w C x.bs) (hx : OpFit x) (hk : x.kind.tmod 12 = 5) :
    Calls Try.prog 19 #[.pointer (some ⟨B, 0, none⟩), .pointer (some ⟨B2, 0, none⟩), .agg (opV x C c)] w (DoesOut own own2 w B B2 (m.sync x.name).1 (m2.sync x.name).1 ((m.sync x.name).2 = (m2.sync x.name).2)) := by
  have hb0 : Below w.heap.size w (opW w x C c) := (Below.refl _ _).alloc (Nat.le_refl _) _
  have HB0 := Lib.hid hb0
  have h1 := h.below hb0
  have P0 := Lib.hid (Pair.below (Pair.start h1) (Below.refl (opW w x C c).heap.size (opW w x C c)).drew)
  have KC := Lib.hid (opW_cells h x C c)
  have hz : 0 ≤ (m.sync x.name).2 ∧ (m.sync x.name).2 ≤ 200 := (codeM m x.name x.n x.bs).1
  obtain ⟨m', hm'⟩ : ∃ m', m' = (m.sync x.name).1 := ⟨_, rfl⟩
  obtain ⟨z1, hz1⟩ : ∃ z1, z1 = (m.sync x.name).2 := ⟨_, rfl⟩
  obtain ⟨m2', hm2'⟩ : ∃ m2', m2' = (m2.sync x.name).1 := ⟨_, rfl⟩
  obtain ⟨z2, hz2⟩ : ∃ z2, z2 = (m2.sync x.name).2 := ⟨_, rfl⟩
  rw [← hm', ← hz1, ← hm2', ← hz2]
  rw [← hz1] at hz
  have hme : m.sync x.name = (m', z1) := by rw [hm', hz1]
  have hre : m2.sync x.name = (m2', z2) := by rw [hm2', hz2]
  have HS1 := Lib.hid (fun W (hP : Pair own own2 (opW w x C c) B B2 own own2 m m2 W) => m_sync hP.two.l x.name hx.name hme)
  have HS2 := Lib.hid (fun (o : Nat → Prop) W (hP : Pair own own2 (opW w x C c) B B2 o own2 m' m2 W) => n_sync hP.two.r x.name hre)
  have hwz : IntKind.i64.wrap z1 = z1 := by rw [IntKind.wrap_i64]; omega
  have k0 := KC.out _ (Kp.refl _ _)
  obtain ⟨x0, x1, x2, x3⟩ := k0
  have K0 := Lib.hid (KC.out _ (Kp.drew (fun i => own i ∨ own2 i) (opW w x C c)))
  clear h h1 hC1 hC2 hx hm' hz1 hm2' hz2 hme hre hb0
  go_enter Try.func19, Try.ntmps19
  go_upto_region 4 with fail
  go_region_held3 (fun W => W.cell? ⟨w.heap.size, 1, none⟩ = some (.string x.name))
    (first | exact K6.out.2.1 | exact K5.out.2.1 | exact K0.out.2.1)
    (first
      | (go_at_call 12; ((with_reducible refine (HS1.out _ P0.out).mono ?_); rintro e w5 ⟨rfl, o5, hL, hN⟩; have P5 := Lib.hid (P0.out.left hL hN); have K5 := Lib.hid (KC.out _ P5.out.kp); clear hL hN))
      | (go_at_call 38; ((with_reducible refine (HS2.out _ _ P5.out).mono ?_); rintro e w6 ⟨rfl, o6, hL, hN⟩; have P6 := Lib.hid (P5.out.right hL hN); have K6 := Lib.hid (KC.out _ P6.out.kp); clear hL hN)))
  all_goals go_wp2
  all_goals go_ret
  all_goals exact ⟨_, _, _, rfl, by simp, P6.out.base HB0.out⟩

set_option maxHeartbeats 2000000 in
theorem does_6 (h : Two own own2 w B B2 m m2) (x : OpG) (C : Option Addr) (c : Nat) (hC1 : Src own w C x.bs) (hC2 : Src own2 w C x.bs) (hx : OpFit x) (hk : x.kind.tmod 12 = 6) :
    Calls Try.prog 19 #[.pointer (some ⟨B, 0, none⟩), .pointer (some ⟨B2, 0, none⟩), .agg (opV x C c)] w (DoesOut own own2 w B B2 (m.cut x.name x.n).1 (m2.cut x.name x.n).1 ((m.cut x.name x.n).2 = (m2.cut x.name x.n).2)) := by
  have hb0 : Below w.heap.size w (opW w x C c) := (Below.refl _ _).alloc (Nat.le_refl _) _
  have HB0 := Lib.hid hb0
  have h1 := h.below hb0
  have P0 := Lib.hid (Pair.below (Pair.start h1) (Below.refl (opW w x C c).heap.size (opW w x C c)).drew)
  have KC := Lib.hid (opW_cells h x C c)
  have hz : 0 ≤ (m.cut x.name x.n).2 ∧ (m.cut x.name x.n).2 ≤ 200 := (codeM m x.name x.n x.bs).2.1
  obtain ⟨m', hm'⟩ : ∃ m', m' = (m.cut x.name x.n).1 := ⟨_, rfl⟩
  obtain ⟨z1, hz1⟩ : ∃ z1, z1 = (m.cut x.name x.n).2 := ⟨_, rfl⟩
  obtain ⟨m2', hm2'⟩ : ∃ m2', m2' = (m2.cut x.name x.n).1 := ⟨_, rfl⟩
  obtain ⟨z2, hz2⟩ : ∃ z2, z2 = (m2.cut x.name x.n).2 := ⟨_, rfl⟩
  rw [← hm', ← hz1, ← hm2', ← hz2]
  rw [← hz1] at hz
  have hme : m.cut x.name x.n = (m', z1) := by rw [hm', hz1]
  have hre : m2.cut x.name x.n = (m2', z2) := by rw [hm2', hz2]
  have HS1 := Lib.hid (fun W (hP : Pair own own2 (opW w x C c) B B2 own own2 m m2 W) => m_cut hP.two.l x.name hx.name x.n hx.n hme)
  have HS2 := Lib.hid (fun (o : Nat → Prop) W (hP : Pair own own2 (opW w x C c) B B2 o own2 m' m2 W) => n_cut hP.two.r x.name x.n hx.n hre)
  have hwz : IntKind.i64.wrap z1 = z1 := by rw [IntKind.wrap_i64]; omega
  have k0 := KC.out _ (Kp.refl _ _)
  obtain ⟨x0, x1, x2, x3⟩ := k0
  have K0 := Lib.hid (KC.out _ (Kp.drew (fun i => own i ∨ own2 i) (opW w x C c)))
  clear h h1 hC1 hC2 hx hm' hz1 hm2' hz2 hme hre hb0
  go_enter Try.func19, Try.ntmps19
  go_upto_region 6 with fail
  go_region_held3 (fun W => W.cell? ⟨w.heap.size, 1, none⟩ = some (.string x.name) ∧ W.cell? ⟨w.heap.size, 3, none⟩ = some (.int .i64 x.n))
    (first | exact ⟨K6.out.2.1, K6.out.2.2.2⟩ | exact ⟨K5.out.2.1, K5.out.2.2.2⟩ | exact ⟨K0.out.2.1, K0.out.2.2.2⟩)
    (first
      | (go_at_call 13; ((with_reducible refine (HS1.out _ P0.out).mono ?_); rintro e w5 ⟨rfl, o5, hL, hN⟩; have P5 := Lib.hid (P0.out.left hL hN); have K5 := Lib.hid (KC.out _ P5.out.kp); clear hL hN))
      | (go_at_call 39; ((with_reducible refine (HS2.out _ _ P5.out).mono ?_); rintro e w6 ⟨rfl, o6, hL, hN⟩; have P6 := Lib.hid (P5.out.right hL hN); have K6 := Lib.hid (KC.out _ P6.out.kp); clear hL hN)))
  all_goals go_wp2
  all_goals go_ret
  all_goals exact ⟨_, _, _, rfl, by simp, P6.out.base HB0.out⟩

set_option maxHeartbeats 2000000 in
theorem does_7 (h : Two own own2 w B B2 m m2) (x : OpG) (C : Option Addr) (c : Nat) (hC1 : Src own w C x.bs) (hC2 : Src own2 w C x.bs) (hx : OpFit x) (hk : x.kind.tmod 12 = 7) :
    Calls Try.prog 19 #[.pointer (some ⟨B, 0, none⟩), .pointer (some ⟨B2, 0, none⟩), .agg (opV x C c)] w (DoesOut own own2 w B B2 (m.drop x.name).1 (m2.drop x.name).1 ((m.drop x.name).2 = (m2.drop x.name).2)) := by
  have hb0 : Below w.heap.size w (opW w x C c) := (Below.refl _ _).alloc (Nat.le_refl _) _
  have HB0 := Lib.hid hb0
  have h1 := h.below hb0
  have P0 := Lib.hid (Pair.below (Pair.start h1) (Below.refl (opW w x C c).heap.size (opW w x C c)).drew)
  have KC := Lib.hid (opW_cells h x C c)
  have hz : 0 ≤ (m.drop x.name).2 ∧ (m.drop x.name).2 ≤ 200 := (codeM m x.name x.n x.bs).2.2.1
  obtain ⟨m', hm'⟩ : ∃ m', m' = (m.drop x.name).1 := ⟨_, rfl⟩
  obtain ⟨z1, hz1⟩ : ∃ z1, z1 = (m.drop x.name).2 := ⟨_, rfl⟩
  obtain ⟨m2', hm2'⟩ : ∃ m2', m2' = (m2.drop x.name).1 := ⟨_, rfl⟩
  obtain ⟨z2, hz2⟩ : ∃ z2, z2 = (m2.drop x.name).2 := ⟨_, rfl⟩
  rw [← hm', ← hz1, ← hm2', ← hz2]
  rw [← hz1] at hz
  have hme : m.drop x.name = (m', z1) := by rw [hm', hz1]
  have hre : m2.drop x.name = (m2', z2) := by rw [hm2', hz2]
  have HS1 := Lib.hid (fun W (hP : Pair own own2 (opW w x C c) B B2 own own2 m m2 W) => m_drop hP.two.l x.name hx.name hme)
  have HS2 := Lib.hid (fun (o : Nat → Prop) W (hP : Pair own own2 (opW w x C c) B B2 o own2 m' m2 W) => n_drop hP.two.r x.name hre)
  have hwz : IntKind.i64.wrap z1 = z1 := by rw [IntKind.wrap_i64]; omega
  have k0 := KC.out _ (Kp.refl _ _)
  obtain ⟨x0, x1, x2, x3⟩ := k0
  have K0 := Lib.hid (KC.out _ (Kp.drew (fun i => own i ∨ own2 i) (opW w x C c)))
  clear h h1 hC1 hC2 hx hm' hz1 hm2' hz2 hme hre hb0
  go_enter Try.func19, Try.ntmps19
  go_upto_region 8 with fail
  go_region_held3 (fun W => W.cell? ⟨w.heap.size, 1, none⟩ = some (.string x.name))
    (first | exact K6.out.2.1 | exact K5.out.2.1 | exact K0.out.2.1)
    (first
      | (go_at_call 23; ((with_reducible refine (HS1.out _ P0.out).mono ?_); rintro e w5 ⟨rfl, o5, hL, hN⟩; have P5 := Lib.hid (P0.out.left hL hN); have K5 := Lib.hid (KC.out _ P5.out.kp); clear hL hN))
      | (go_at_call 40; ((with_reducible refine (HS2.out _ _ P5.out).mono ?_); rintro e w6 ⟨rfl, o6, hL, hN⟩; have P6 := Lib.hid (P5.out.right hL hN); have K6 := Lib.hid (KC.out _ P6.out.kp); clear hL hN)))
  all_goals go_wp2
  all_goals go_ret
  all_goals exact ⟨_, _, _, rfl, by simp, P6.out.base HB0.out⟩

set_option maxHeartbeats 2000000 in
theorem does_8 (h : Two own own2 w B B2 m m2) (x : OpG) (C : Option Addr) (c : Nat) (hx : OpFit x) (hk : x.kind.tmod 12 = 8) :
    Calls Try.prog 19 #[.pointer (some ⟨B, 0, none⟩), .pointer (some ⟨B2, 0, none⟩), .agg (opV x C c)] w (DoesOut own own2 w B B2 m m2 (strOfNums (readB m x.name) = strOfNums (rreadB m2 x.name) ∧ readC m x.name = rreadC m2 x.name)) := by
  have hb0 : Below w.heap.size w (opW w x C c) := (Below.refl _ _).alloc (Nat.le_refl _) _
  have HB0 := Lib.hid hb0
  have P0 := Lib.hid (Pair.start (h.below hb0))
  have KC := Lib.hid (opW_cells h x C c)
  have HX := Lib.hid hx
  obtain ⟨x0, x1, x2, x3⟩ := KC.out _ (Kp.refl _ _)
  obtain ⟨ba, hba⟩ : ∃ ba, readB m x.name = ba := ⟨_, rfl⟩
  obtain ⟨z1, hz1⟩ : ∃ z1, readC m x.name = z1 := ⟨_, rfl⟩
  obtain ⟨bb, hbb⟩ : ∃ bb, rreadB m2 x.name = bb := ⟨_, rfl⟩
  obtain ⟨z2, hz2⟩ : ∃ z2, rreadC m2 x.name = z2 := ⟨_, rfl⟩
  have hz : 0 ≤ z1 ∧ z1 ≤ 200 := by rw [← hz1]; unfold readC; split <;> simp
  rw [hba, hz1, hbb, hz2]
  have HQ := Lib.hid (And.intro hba (And.intro hz1 (And.intro hbb hz2)))
  have hwz : IntKind.i64.wrap z1 = z1 := by rw [IntKind.wrap_i64]; omega
  clear h hx hb0 hba hz1 hbb hz2
  by_cases he : strOfNums ba = strOfNums bb
  · have hd : ((strOfNums ba).toList == (strOfNums bb).toList) = true := by rw [name_beq]; exact decide_eq_true he
    have HE := Lib.hid he
    clear he
    go_enter Try.func19, Try.ntmps19
    go_wp2_with (first
      | (go_at_call 14; ((with_reducible refine (m_read P0.out.two.l x.name HX.out.name HQ.out.1 HQ.out.2.1).mono ?_); rintro e w5 ⟨R1, q1, rfl, ho1, hb1⟩; have P5 := Lib.hid (P0.out.below hb1); obtain ⟨y0, y1, y2, y3⟩ := KC.out _ P5.out.kp; have S5 := Lib.hid (Src.fresh P0.out.two.l ho1); clear ho1 hb1))
      | (go_at_call 41; ((with_reducible refine (n_read P5.out.two.r x.name HQ.out.2.2.1 HQ.out.2.2.2).mono ?_); rintro e w6 ⟨R2, q2, rfl, ho2, hb2⟩; have P6 := Lib.hid (P5.out.below hb2); have c1 := conv_str (W := w6) (Src.below S5.out hb2).bytes q1 ba.length rfl; have c2 := conv_str (W := w6) (ownB_bytes ho2) q2 bb.length rfl; clear ho2 hb2)))
    go_ret
    refine ⟨_, _, _, rfl, ?_, P6.out.base HB0.out⟩
    have := HE.out
    simp [this]
  · have hd : ((strOfNums ba).toList == (strOfNums bb).toList) = false := by rw [name_beq]; exact decide_eq_false he
    have HE := Lib.hid he
    clear he
    go_enter Try.func19, Try.ntmps19
    go_wp2_with (first
      | (go_at_call 14; ((with_reducible refine (m_read P0.out.two.l x.name HX.out.name HQ.out.1 HQ.out.2.1).mono ?_); rintro e w5 ⟨R1, q1, rfl, ho1, hb1⟩; have P5 := Lib.hid (P0.out.below hb1); obtain ⟨y0, y1, y2, y3⟩ := KC.out _ P5.out.kp; have S5 := Lib.hid (Src.fresh P0.out.two.l ho1); clear ho1 hb1))
      | (go_at_call 41; ((with_reducible refine (n_read P5.out.two.r x.name HQ.out.2.2.1 HQ.out.2.2.2).mono ?_); rintro e w6 ⟨R2, q2, rfl, ho2, hb2⟩; have P6 := Lib.hid (P5.out.below hb2); have c1 := conv_str (W := w6) (Src.below S5.out hb2).bytes q1 ba.length rfl; have c2 := conv_str (W := w6) (ownB_bytes ho2) q2 bb.length rfl; clear ho2 hb2)))
    go_ret
    refine ⟨_, _, _, rfl, ?_, P6.out.base HB0.out⟩
    have := HE.out
    simp [this]

set_option maxHeartbeats 2000000 in
theorem does_9 (h : Two own own2 w B B2 m m2) (x : OpG) (C : Option Addr) (c : Nat) (hx : OpFit x) (hk : x.kind.tmod 12 = 9) :
    Calls Try.prog 19 #[.pointer (some ⟨B, 0, none⟩), .pointer (some ⟨B2, 0, none⟩), .agg (opV x C c)] w (DoesOut own own2 w B B2 (m.crash x.n) (m2.crash x.n) True) := by
  have hb0 : Below w.heap.size w (opW w x C c) := (Below.refl _ _).alloc (Nat.le_refl _) _
  have HB0 := Lib.hid hb0
  have P0 := Lib.hid (Pair.start (h.below hb0))
  have KC := Lib.hid (opW_cells h x C c)
  have HX := Lib.hid hx
  obtain ⟨x0, x1, x2, x3⟩ := KC.out _ (Kp.refl _ _)
  obtain ⟨m', hm'⟩ : ∃ m', m' = (m.crash x.n) := ⟨_, rfl⟩
  obtain ⟨m2', hm2'⟩ : ∃ m2', m2' = (m2.crash x.n) := ⟨_, rfl⟩
  rw [← hm', ← hm2']
  have HM := Lib.hid (And.intro hm' hm2')
  clear h hx hb0 hm' hm2'
  go_enter Try.func19, Try.ntmps19
  go_wp2_with (first
    | (go_at_call 15; ((with_reducible refine (l_crash P0.out.two.l x.n HX.out.n rfl).mono ?_); rintro e w5 ⟨rfl, o5, hL, hN⟩; rw [← HM.out.1] at hL; have P5 := Lib.hid (P0.out.left hL hN); obtain ⟨y0, y1, y2, y3⟩ := KC.out _ P5.out.kp; clear hL hN))
    | (go_at_call 42; ((with_reducible refine (n_crash P5.out.two.r x.n HX.out.n).mono ?_); rintro e w6 ⟨rfl, o6, hL, hN⟩; rw [← HM.out.2] at hL; have P6 := Lib.hid (P5.out.right hL hN); clear hL hN)))
  go_ret
  exact ⟨_, _, _, rfl, by simp, P6.out.base HB0.out⟩

set_option maxHeartbeats 2000000 in
theorem does_10 (h : Two own own2 w B B2 m m2) (x : OpG) (C : Option Addr) (c : Nat) (hx : OpFit x) (hk : x.kind.tmod 12 = 10) :
    Calls Try.prog 19 #[.pointer (some ⟨B, 0, none⟩), .pointer (some ⟨B2, 0, none⟩), .agg (opV x C c)] w (DoesOut own own2 w B B2 ({ m with full := (x.n.tmod 2 != 0) }) ({ m2 with on := (x.n.tmod 2 != 0) }) True) := by
  have hb0 : Below w.heap.size w (opW w x C c) := (Below.refl _ _).alloc (Nat.le_refl _) _
  have HB0 := Lib.hid hb0
  have P0 := Lib.hid (Pair.start (h.below hb0))
  have KC := Lib.hid (opW_cells h x C c)
  have HX := Lib.hid hx
  obtain ⟨x0, x1, x2, x3⟩ := KC.out _ (Kp.refl _ _)
  obtain ⟨m', hm'⟩ : ∃ m', m' = ({ m with full := (x.n.tmod 2 != 0) }) := ⟨_, rfl⟩
  obtain ⟨m2', hm2'⟩ : ∃ m2', m2' = ({ m2 with on := (x.n.tmod 2 != 0) }) := ⟨_, rfl⟩
  rw [← hm', ← hm2']
  have HM := Lib.hid (And.intro hm' hm2')
  clear h hx hb0 hm' hm2'
  go_enter Try.func19, Try.ntmps19
  go_wp2_with (first
    | (go_at_call 37; ((with_reducible refine (m_full P0.out.two.l (x.n.tmod 2 != 0)).mono ?_); rintro e w5 ⟨rfl, o5, hL, hN⟩; rw [← HM.out.1] at hL; have P5 := Lib.hid (P0.out.left hL hN); obtain ⟨y0, y1, y2, y3⟩ := KC.out _ P5.out.kp; clear hL hN))
    | (go_at_call 43; ((with_reducible refine (n_full P5.out.two.r (x.n.tmod 2 != 0)).mono ?_); rintro e w6 ⟨rfl, o6, hL, hN⟩; rw [← HM.out.2] at hL; have P6 := Lib.hid (P5.out.right hL hN); clear hL hN)))
  go_ret
  exact ⟨_, _, _, rfl, by simp, P6.out.base HB0.out⟩

set_option maxHeartbeats 2000000 in
theorem does_11 (h : Two own own2 w B B2 m m2) (x : OpG) (C : Option Addr) (c : Nat) (hx : OpFit x) (hk : x.kind.tmod 12 = 11) :
    Calls Try.prog 19 #[.pointer (some ⟨B, 0, none⟩), .pointer (some ⟨B2, 0, none⟩), .agg (opV x C c)] w (DoesOut own own2 w B B2 (m.halt x.n) (m2.halt x.n) True) := by
  have hb0 : Below w.heap.size w (opW w x C c) := (Below.refl _ _).alloc (Nat.le_refl _) _
  have HB0 := Lib.hid hb0
  have P0 := Lib.hid (Pair.start (h.below hb0))
  have KC := Lib.hid (opW_cells h x C c)
  have HX := Lib.hid hx
  obtain ⟨x0, x1, x2, x3⟩ := KC.out _ (Kp.refl _ _)
  obtain ⟨m', hm'⟩ : ∃ m', m' = (m.halt x.n) := ⟨_, rfl⟩
  obtain ⟨m2', hm2'⟩ : ∃ m2', m2' = (m2.halt x.n) := ⟨_, rfl⟩
  rw [← hm', ← hm2']
  have HM := Lib.hid (And.intro hm' hm2')
  clear h hx hb0 hm' hm2'
  go_enter Try.func19, Try.ntmps19
  go_wp2_with (first
    | (go_at_call 21; ((with_reducible refine (m_halt P0.out.two.l x.n HX.out.n.2).mono ?_); rintro e w5 ⟨rfl, o5, hL, hN⟩; rw [← HM.out.1] at hL; have P5 := Lib.hid (P0.out.left hL hN); obtain ⟨y0, y1, y2, y3⟩ := KC.out _ P5.out.kp; clear hL hN))
    | (go_at_call 44; ((with_reducible refine (n_halt P5.out.two.r x.n HX.out.n.2).mono ?_); rintro e w6 ⟨rfl, o6, hL, hN⟩; rw [← HM.out.2] at hL; have P6 := Lib.hid (P5.out.right hL hN); clear hL hN)))
  go_ret
  exact ⟨_, _, _, rfl, by simp, P6.out.base HB0.out⟩

def doM (m : Md) (x : OpG) : Md :=
  if x.kind.tmod 12 = 4 ∨ x.kind.tmod 12 = 5 then (m.sync x.name).1 else if x.kind.tmod 12 = 6 then (m.cut x.name x.n).1 else if x.kind.tmod 12 = 7 then (m.drop x.name).1 else if x.kind.tmod 12 = 8 then m else
  if x.kind.tmod 12 = 9 then m.crash x.n else if x.kind.tmod 12 = 10 then { m with full := (x.n.tmod 2 != 0) } else if x.kind.tmod 12 = 11 then m.halt x.n else (m.append x.name x.bs).1
def doR (m : Rm) (x : OpG) : Rm :=
  if x.kind.tmod 12 = 4 ∨ x.kind.tmod 12 = 5 then (m.sync x.name).1 else if x.kind.tmod 12 = 6 then (m.cut x.name x.n).1 else if x.kind.tmod 12 = 7 then (m.drop x.name).1 else if x.kind.tmod 12 = 8 then m else
  if x.kind.tmod 12 = 9 then m.crash x.n else if x.kind.tmod 12 = 10 then { m with on := (x.n.tmod 2 != 0) } else if x.kind.tmod 12 = 11 then m.halt x.n else (m.append x.name x.bs).1
def doAg (m : Md) (m2 : Rm) (x : OpG) : Prop :=
  if x.kind.tmod 12 = 4 ∨ x.kind.tmod 12 = 5 then (m.sync x.name).2 = (m2.sync x.name).2 else if x.kind.tmod 12 = 6 then (m.cut x.name x.n).2 = (m2.cut x.name x.n).2 else if x.kind.tmod 12 = 7 then (m.drop x.name).2 = (m2.drop x.name).2 else
  if x.kind.tmod 12 = 8 then strOfNums (readB m x.name) = strOfNums (rreadB m2 x.name) ∧ readC m x.name = rreadC m2 x.name else if x.kind.tmod 12 = 9 then True else if x.kind.tmod 12 = 10 then True else if x.kind.tmod 12 = 11 then True else
  (m.append x.name x.bs).2 = (m2.append x.name x.bs).2
theorem does_any (h : Two own own2 w B B2 m m2) (x : OpG) (C : Option Addr) (c : Nat) (hC1 : Src own w C x.bs) (hC2 : Src own2 w C x.bs) (hx : OpFit x) (h0 : 0 ≤ x.kind) :
    Calls Try.prog 19 #[.pointer (some ⟨B, 0, none⟩), .pointer (some ⟨B2, 0, none⟩), .agg (opV x C c)] w (DoesOut own own2 w B B2 (doM m x) (doR m2 x) (doAg m m2 x)) := by
  have hk : x.kind.tmod 12 = 0 ∨ x.kind.tmod 12 = 1 ∨ x.kind.tmod 12 = 2 ∨ x.kind.tmod 12 = 3 ∨ x.kind.tmod 12 = 4 ∨ x.kind.tmod 12 = 5 ∨ x.kind.tmod 12 = 6 ∨ x.kind.tmod 12 = 7 ∨ x.kind.tmod 12 = 8 ∨ x.kind.tmod 12 = 9 ∨ x.kind.tmod 12 = 10 ∨ x.kind.tmod 12 = 11 := by
    rw [Int.tmod_eq_emod_of_nonneg h0]; omega
  unfold doM doR doAg
  rcases hk with hk | hk | hk | hk | hk | hk | hk | hk | hk | hk | hk | hk
  · have h1 := does_0 h x C c hC1 hC2 hx hk
    simp only [hk]
    exact h1
  · have h1 := does_1 h x C c hC1 hC2 hx hk
    simp only [hk]
    exact h1
  · have h1 := does_2 h x C c hC1 hC2 hx hk
    simp only [hk]
    exact h1
  · have h1 := does_3 h x C c hC1 hC2 hx hk
    simp only [hk]
    exact h1
  · have h1 := does_4 h x C c hC1 hC2 hx hk
    simp only [hk]
    exact h1
  · have h1 := does_5 h x C c hC1 hC2 hx hk
    simp only [hk]
    exact h1
  · have h1 := does_6 h x C c hC1 hC2 hx hk
    simp only [hk]
    exact h1
  · have h1 := does_7 h x C c hC1 hC2 hx hk
    simp only [hk]
    exact h1
  · have h1 := does_8 h x C c hx hk
    simp only [hk]
    exact h1
  · have h1 := does_9 h x C c hx hk
    simp only [hk]
    exact h1
  · have h1 := does_10 h x C c hx hk
    simp only [hk]
    exact h1
  · have h1 := does_11 h x C c hx hk
    simp only [hk]
    exact h1
end
end Go.Proofs.Ytkieacidpiffpaa
