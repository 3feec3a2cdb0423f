/- text: what it makes of an act. -/
import Derived.Test.YthnljaheplhbkaaOneA
namespace Go.Proofs.Ythnljaheplhbkaa
open Go Go.RowKit
set_option linter.unusedVariables false
set_option linter.unusedSimpArgs false

set_option maxRecDepth 100000 in
set_option maxHeartbeats 1000000 in
theorem text_none (x : GAct) (AP : Option Addr) (ap : Nat) (AD : Option Addr) (ad : Nat) (P : Option Addr) (np pc n : Nat) (w : World) (hk : 0 ≤ x.kind ∧ x.kind ≤ 255) (hs : x.s.size ≤ 140737488351232) (hn : n ≤ 1000000) (hno : ¬ 0 < n) :
    Calls Try.prog 15 #[.agg #[.int .u8 0, .slice P np pc, .string ⟨#[]⟩, .int .i64 0, .int .i64 0, .int .i64 0, .int .u8 0, .int .i64 0, .string ⟨#[]⟩, .slice none 0 0, .slice none 0 0, .string ⟨#[]⟩], .agg #[.slice AP x.path.length ap, .int .u8 x.kind, .int .i64 x.i, .int .i64 x.j, .int .i64 x.n, .string x.s, .slice AD x.v.length ad], .int .i64 n] w (TextIs x P np pc n w) := by
  obtain ⟨a, ha, ha1⟩ := mod_nat' x.i (n + 1) (by omega)
  have ha2 : max x.i 0 % ((n : Int) + 1) = (a : Int) := ha
  have HPL := Lib.hid (fun W => plain6_any x.s W (by omega))
  have hpz := plain_size x.s
  have hadd := fun W => run_string_add_sum (P := Try.prog) W ⟨#[120]⟩ (plainB x.s) (by show 1 + _ ≤ _; omega)
  have H0 := Lib.hid (TB3.new w #[.int .u8 8, .slice P np pc, .string ⟨#[]⟩, .int .i64 a, .int .i64 0, .int .i64 0, .int .u8 0, .int .i64 0, .string ⟨#[]⟩, .slice none 0 0, .slice none 0 0, .string ⟨#[]⟩] #[.slice AP x.path.length ap, .int .u8 x.kind, .int .i64 x.i, .int .i64 x.j, .int .i64 x.n, .string x.s, .slice AD x.v.length ad] #[.int .u8 0, .slice none 0 0, .string ⟨#[]⟩, .int .i64 0, .int .i64 0, .int .i64 0, .int .u8 0, .int .i64 0, .string ⟨#[]⟩, .slice none 0 0, .slice none 0 0, .string ⟨#[]⟩])
  have HA := Lib.hid ha1
  clear ha ha1
  go_enter Try.func15, Try.ntmps15
  go_wp2_with (go_at_call 28; refine (HPL.out _).mono ?_; rintro e w1 ⟨rfl, hb⟩; have H1 := Lib.hid (H0.out.step hb); obtain ⟨c0, c1, c2, c3, c4, c5, c6, c7, c8, c9, c10, c11, y0, y1, y2, y3, y4, y5, y6, y7, y8, y9, y10, y11⟩ := H1.out.c.tw; obtain ⟨a0, a1, a2, a3, a4, a5, a6⟩ := act_cells H1.out.a; obtain ⟨_, _, _, _, _, _, _, _, _, _, _, _, z0, z1, z2, z3, z4, z5, z6, z7, z8, z9, z10, z11⟩ := H1.out.r.tw; clear hb)
  have hR := H1.out.putC 11 (.string (⟨#[120]⟩ ++ plainB x.s))
  have hX := put12 hR.r (.int .u8 8) (.slice P np pc) (.string ⟨#[]⟩) (.int .i64 a) (.int .i64 0) (.int .i64 0) (.int .u8 0) (.int .i64 0) (.string ⟨#[]⟩) (.slice none 0 0) (.slice none 0 0) (.string (⟨#[120]⟩ ++ plainB x.s))
  have hB := ((((((((((((hR.below.setCell (p := ⟨w.heap.size + 1 + 1, 0, none⟩) (by simp; omega) (.int .u8 8)).setCell (p := ⟨w.heap.size + 1 + 1, 1, none⟩) (by simp; omega) (.slice P np pc)).setCell (p := ⟨w.heap.size + 1 + 1, 2, none⟩) (by simp; omega) (.string ⟨#[]⟩)).setCell (p := ⟨w.heap.size + 1 + 1, 3, none⟩) (by simp; omega) (.int .i64 a)).setCell (p := ⟨w.heap.size + 1 + 1, 4, none⟩) (by simp; omega) (.int .i64 0)).setCell (p := ⟨w.heap.size + 1 + 1, 5, none⟩) (by simp; omega) (.int .i64 0)).setCell (p := ⟨w.heap.size + 1 + 1, 6, none⟩) (by simp; omega) (.int .u8 0)).setCell (p := ⟨w.heap.size + 1 + 1, 7, none⟩) (by simp; omega) (.int .i64 0)).setCell (p := ⟨w.heap.size + 1 + 1, 8, none⟩) (by simp; omega) (.string ⟨#[]⟩)).setCell (p := ⟨w.heap.size + 1 + 1, 9, none⟩) (by simp; omega) (.slice none 0 0)).setCell (p := ⟨w.heap.size + 1 + 1, 10, none⟩) (by simp; omega) (.slice none 0 0)).setCell (p := ⟨w.heap.size + 1 + 1, 11, none⟩) (by simp; omega) (.string (⟨#[120]⟩ ++ plainB x.s)))
  obtain ⟨d0, d1, d2, d3, d4, d5, d6, d7, d8, d9, d10, d11, _⟩ := hX.tw
  refine bodyPost_ret (v := .agg #[.int .u8 8, .slice P np pc, .string ⟨#[]⟩, .int .i64 a, .int .i64 0, .int .i64 0, .int .u8 0, .int .i64 0, .string ⟨#[]⟩, .slice none 0 0, .slice none 0 0, .string (⟨#[120]⟩ ++ plainB x.s)]) (by simp [results, Try.results15, go_sem, d0, d1, d2, d3, d4, d5, d6, d7, d8, d9, d10, d11]) rfl ?_
  exact ⟨8, a, 0, (⟨#[120]⟩ ++ plainB x.s), rfl, hB, .inl ⟨rfl, ⟨a, rfl, by have := HA.out; omega⟩, rfl, rfl⟩⟩
set_option maxRecDepth 100000 in
set_option maxHeartbeats 1000000 in
theorem text_odd (x : GAct) (AP : Option Addr) (ap : Nat) (AD : Option Addr) (ad : Nat) (P : Option Addr) (np pc n : Nat) (w : World) (hk : 0 ≤ x.kind ∧ x.kind ≤ 255) (hs : x.s.size ≤ 140737488351232) (hn : n ≤ 1000000) (hno : 0 < n ∧ x.kind % 2 = 1) :
    Calls Try.prog 15 #[.agg #[.int .u8 0, .slice P np pc, .string ⟨#[]⟩, .int .i64 0, .int .i64 0, .int .i64 0, .int .u8 0, .int .i64 0, .string ⟨#[]⟩, .slice none 0 0, .slice none 0 0, .string ⟨#[]⟩], .agg #[.slice AP x.path.length ap, .int .u8 x.kind, .int .i64 x.i, .int .i64 x.j, .int .i64 x.n, .string x.s, .slice AD x.v.length ad], .int .i64 n] w (TextIs x P np pc n w) := by
  obtain ⟨a, ha, ha1⟩ := mod_nat' x.i (n + 1) (by omega)
  have ha2 : max x.i 0 % ((n : Int) + 1) = (a : Int) := ha
  have HPL := Lib.hid (fun W => plain6_any x.s W (by omega))
  have hpz := plain_size x.s
  have hadd := fun W => run_string_add_sum (P := Try.prog) W ⟨#[120]⟩ (plainB x.s) (by show 1 + _ ≤ _; omega)
  have H0 := Lib.hid (TB3.new w #[.int .u8 8, .slice P np pc, .string ⟨#[]⟩, .int .i64 a, .int .i64 0, .int .i64 0, .int .u8 0, .int .i64 0, .string ⟨#[]⟩, .slice none 0 0, .slice none 0 0, .string ⟨#[]⟩] #[.slice AP x.path.length ap, .int .u8 x.kind, .int .i64 x.i, .int .i64 x.j, .int .i64 x.n, .string x.s, .slice AD x.v.length ad] #[.int .u8 0, .slice none 0 0, .string ⟨#[]⟩, .int .i64 0, .int .i64 0, .int .i64 0, .int .u8 0, .int .i64 0, .string ⟨#[]⟩, .slice none 0 0, .slice none 0 0, .string ⟨#[]⟩])
  have HA := Lib.hid ha1
  clear ha ha1
  obtain ⟨hn0, hno⟩ := hno
  go_enter Try.func15, Try.ntmps15
  go_wp2_with (go_at_call 28; refine (HPL.out _).mono ?_; rintro e w1 ⟨rfl, hb⟩; have H1 := Lib.hid (H0.out.step hb); obtain ⟨c0, c1, c2, c3, c4, c5, c6, c7, c8, c9, c10, c11, y0, y1, y2, y3, y4, y5, y6, y7, y8, y9, y10, y11⟩ := H1.out.c.tw; obtain ⟨a0, a1, a2, a3, a4, a5, a6⟩ := act_cells H1.out.a; obtain ⟨_, _, _, _, _, _, _, _, _, _, _, _, z0, z1, z2, z3, z4, z5, z6, z7, z8, z9, z10, z11⟩ := H1.out.r.tw; clear hb)
  have hR := H1.out.putC 11 (.string (⟨#[120]⟩ ++ plainB x.s))
  have hX := put12 hR.r (.int .u8 8) (.slice P np pc) (.string ⟨#[]⟩) (.int .i64 a) (.int .i64 0) (.int .i64 0) (.int .u8 0) (.int .i64 0) (.string ⟨#[]⟩) (.slice none 0 0) (.slice none 0 0) (.string (⟨#[120]⟩ ++ plainB x.s))
  have hB := ((((((((((((hR.below.setCell (p := ⟨w.heap.size + 1 + 1, 0, none⟩) (by simp; omega) (.int .u8 8)).setCell (p := ⟨w.heap.size + 1 + 1, 1, none⟩) (by simp; omega) (.slice P np pc)).setCell (p := ⟨w.heap.size + 1 + 1, 2, none⟩) (by simp; omega) (.string ⟨#[]⟩)).setCell (p := ⟨w.heap.size + 1 + 1, 3, none⟩) (by simp; omega) (.int .i64 a)).setCell (p := ⟨w.heap.size + 1 + 1, 4, none⟩) (by simp; omega) (.int .i64 0)).setCell (p := ⟨w.heap.size + 1 + 1, 5, none⟩) (by simp; omega) (.int .i64 0)).setCell (p := ⟨w.heap.size + 1 + 1, 6, none⟩) (by simp; omega) (.int .u8 0)).setCell (p := ⟨w.heap.size + 1 + 1, 7, none⟩) (by simp; omega) (.int .i64 0)).setCell (p := ⟨w.heap.size + 1 + 1, 8, none⟩) (by simp; omega) (.string ⟨#[]⟩)).setCell (p := ⟨w.heap.size + 1 + 1, 9, none⟩) (by simp; omega) (.slice none 0 0)).setCell (p := ⟨w.heap.size + 1 + 1, 10, none⟩) (by simp; omega) (.slice none 0 0)).setCell (p := ⟨w.heap.size + 1 + 1, 11, none⟩) (by simp; omega) (.string (⟨#[120]⟩ ++ plainB x.s)))
  obtain ⟨d0, d1, d2, d3, d4, d5, d6, d7, d8, d9, d10, d11, _⟩ := hX.tw
  refine bodyPost_ret (v := .agg #[.int .u8 8, .slice P np pc, .string ⟨#[]⟩, .int .i64 a, .int .i64 0, .int .i64 0, .int .u8 0, .int .i64 0, .string ⟨#[]⟩, .slice none 0 0, .slice none 0 0, .string (⟨#[120]⟩ ++ plainB x.s)]) (by simp [results, Try.results15, go_sem, d0, d1, d2, d3, d4, d5, d6, d7, d8, d9, d10, d11]) rfl ?_
  exact ⟨8, a, 0, (⟨#[120]⟩ ++ plainB x.s), rfl, hB, .inl ⟨rfl, ⟨a, rfl, by have := HA.out; omega⟩, rfl, rfl⟩⟩
set_option maxRecDepth 100000 in
set_option maxHeartbeats 1000000 in
theorem text_del (x : GAct) (AP : Option Addr) (ap : Nat) (AD : Option Addr) (ad : Nat) (P : Option Addr) (np pc n : Nat) (w : World) (hk : 0 ≤ x.kind ∧ x.kind ≤ 255) (hs : x.s.size ≤ 140737488351232) (hn : n ≤ 1000000) (hno : 0 < n ∧ x.kind % 2 = 0) :
    Calls Try.prog 15 #[.agg #[.int .u8 0, .slice P np pc, .string ⟨#[]⟩, .int .i64 0, .int .i64 0, .int .i64 0, .int .u8 0, .int .i64 0, .string ⟨#[]⟩, .slice none 0 0, .slice none 0 0, .string ⟨#[]⟩], .agg #[.slice AP x.path.length ap, .int .u8 x.kind, .int .i64 x.i, .int .i64 x.j, .int .i64 x.n, .string x.s, .slice AD x.v.length ad], .int .i64 n] w (TextIs x P np pc n w) := by
  obtain ⟨a, ha, ha1⟩ := mod_nat' x.i (n + 1) (by omega)
  have ha2 : max x.i 0 % ((n : Int) + 1) = (a : Int) := ha
  have HPL := Lib.hid (fun W => plain6_any x.s W (by omega))
  have hpz := plain_size x.s
  have hadd := fun W => run_string_add_sum (P := Try.prog) W ⟨#[120]⟩ (plainB x.s) (by show 1 + _ ≤ _; omega)
  have H0 := Lib.hid (TB3.new w #[.int .u8 8, .slice P np pc, .string ⟨#[]⟩, .int .i64 a, .int .i64 0, .int .i64 0, .int .u8 0, .int .i64 0, .string ⟨#[]⟩, .slice none 0 0, .slice none 0 0, .string ⟨#[]⟩] #[.slice AP x.path.length ap, .int .u8 x.kind, .int .i64 x.i, .int .i64 x.j, .int .i64 x.n, .string x.s, .slice AD x.v.length ad] #[.int .u8 0, .slice none 0 0, .string ⟨#[]⟩, .int .i64 0, .int .i64 0, .int .i64 0, .int .u8 0, .int .i64 0, .string ⟨#[]⟩, .slice none 0 0, .slice none 0 0, .string ⟨#[]⟩])
  have HA := Lib.hid ha1
  clear ha ha1
  obtain ⟨hn0, hno⟩ := hno
  obtain ⟨i, hi, hi1⟩ := mod_nat' x.i n hn0
  obtain ⟨j, hj, hj1⟩ := mod_nat' x.j (n - i) (by omega)
  have hj2 : max x.j 0 % ((n : Int) - (i : Int)) = (j : Int) := by rw [← hj]; congr 1; omega
  have HI := Lib.hid (And.intro hi1 hj1)
  have hij : (i : Int) < (n : Int) := by omega
  have hjn : (j : Int) ≤ 1000000 := by omega
  clear hj hj1 hi1
  go_enter Try.func15, Try.ntmps15
  go_wp2_with (go_at_call 28; refine (HPL.out _).mono ?_; rintro e w1 ⟨rfl, hb⟩; have H1 := Lib.hid (H0.out.step hb); obtain ⟨c0, c1, c2, c3, c4, c5, c6, c7, c8, c9, c10, c11, y0, y1, y2, y3, y4, y5, y6, y7, y8, y9, y10, y11⟩ := H1.out.c.tw; obtain ⟨a0, a1, a2, a3, a4, a5, a6⟩ := act_cells H1.out.a; obtain ⟨_, _, _, _, _, _, _, _, _, _, _, _, z0, z1, z2, z3, z4, z5, z6, z7, z8, z9, z10, z11⟩ := H1.out.r.tw; clear hb)
  have hR := ((((H1.out.putC 11 (.string (⟨#[120]⟩ ++ plainB x.s))).putC 0 (.int .u8 9)).putC 11 (.string ⟨#[]⟩)).putC 3 (.int .i64 i)).putC 5 (.int .i64 (1 + (j : Int)))
  have hX := put12 hR.r (.int .u8 9) (.slice P np pc) (.string ⟨#[]⟩) (.int .i64 i) (.int .i64 0) (.int .i64 ((1 : Int) + (j : Int))) (.int .u8 0) (.int .i64 0) (.string ⟨#[]⟩) (.slice none 0 0) (.slice none 0 0) (.string ⟨#[]⟩)
  have hB := ((((((((((((hR.below.setCell (p := ⟨w.heap.size + 1 + 1, 0, none⟩) (by simp; omega) (.int .u8 9)).setCell (p := ⟨w.heap.size + 1 + 1, 1, none⟩) (by simp; omega) (.slice P np pc)).setCell (p := ⟨w.heap.size + 1 + 1, 2, none⟩) (by simp; omega) (.string ⟨#[]⟩)).setCell (p := ⟨w.heap.size + 1 + 1, 3, none⟩) (by simp; omega) (.int .i64 i)).setCell (p := ⟨w.heap.size + 1 + 1, 4, none⟩) (by simp; omega) (.int .i64 0)).setCell (p := ⟨w.heap.size + 1 + 1, 5, none⟩) (by simp; omega) (.int .i64 ((1 : Int) + (j : Int)))).setCell (p := ⟨w.heap.size + 1 + 1, 6, none⟩) (by simp; omega) (.int .u8 0)).setCell (p := ⟨w.heap.size + 1 + 1, 7, none⟩) (by simp; omega) (.int .i64 0)).setCell (p := ⟨w.heap.size + 1 + 1, 8, none⟩) (by simp; omega) (.string ⟨#[]⟩)).setCell (p := ⟨w.heap.size + 1 + 1, 9, none⟩) (by simp; omega) (.slice none 0 0)).setCell (p := ⟨w.heap.size + 1 + 1, 10, none⟩) (by simp; omega) (.slice none 0 0)).setCell (p := ⟨w.heap.size + 1 + 1, 11, none⟩) (by simp; omega) (.string ⟨#[]⟩))
  obtain ⟨d0, d1, d2, d3, d4, d5, d6, d7, d8, d9, d10, d11, _⟩ := hX.tw
  refine bodyPost_ret (v := .agg #[.int .u8 9, .slice P np pc, .string ⟨#[]⟩, .int .i64 i, .int .i64 0, .int .i64 ((1 : Int) + (j : Int)), .int .u8 0, .int .i64 0, .string ⟨#[]⟩, .slice none 0 0, .slice none 0 0, .string ⟨#[]⟩]) (by simp [results, Try.results15, go_sem, d0, d1, d2, d3, d4, d5, d6, d7, d8, d9, d10, d11]) rfl ?_
  exact ⟨9, i, ((1 : Int) + (j : Int)), ⟨#[]⟩, rfl, hB, .inr ⟨rfl, rfl, i, 1 + j, rfl, by push_cast; rfl, by omega, by have := HI.out; omega⟩⟩
end Go.Proofs.Ythnljaheplhbkaa
