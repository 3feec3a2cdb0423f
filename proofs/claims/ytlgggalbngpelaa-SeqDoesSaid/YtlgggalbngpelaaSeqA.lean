/- alone: a list of one component, in new memory. -/
import Derived.Test.YtlgggalbngpelaaSeqT
import Derived.Test.YtlgggalbngpelaaVl
import Derived.Test.YtlgggalbngpelaaCopy
import Derived.Test.YtlgggalbngpelaaFresh
namespace Go.Proofs.Ytlgggalbngpelaa
open Go Go.RowKit
set_option linter.unusedVariables false
set_option linter.unusedSimpArgs false

structure Tw (W : World) (b : Nat) (a0 a1 a2 a3 a4 a5 a6 a7 a8 a9 a10 a11 : Value) : Prop where
  c0 : W.cell? ⟨b, 0, none⟩ = some a0
  c1 : W.cell? ⟨b, 1, none⟩ = some a1
  c2 : W.cell? ⟨b, 2, none⟩ = some a2
  c3 : W.cell? ⟨b, 3, none⟩ = some a3
  c4 : W.cell? ⟨b, 4, none⟩ = some a4
  c5 : W.cell? ⟨b, 5, none⟩ = some a5
  c6 : W.cell? ⟨b, 6, none⟩ = some a6
  c7 : W.cell? ⟨b, 7, none⟩ = some a7
  c8 : W.cell? ⟨b, 8, none⟩ = some a8
  c9 : W.cell? ⟨b, 9, none⟩ = some a9
  c10 : W.cell? ⟨b, 10, none⟩ = some a10
  c11 : W.cell? ⟨b, 11, none⟩ = some a11
  f0 : W.frozen? ⟨b, 0, none⟩ = false
  f1 : W.frozen? ⟨b, 1, none⟩ = false
  f2 : W.frozen? ⟨b, 2, none⟩ = false
  f3 : W.frozen? ⟨b, 3, none⟩ = false
  f4 : W.frozen? ⟨b, 4, none⟩ = false
  f5 : W.frozen? ⟨b, 5, none⟩ = false
  f6 : W.frozen? ⟨b, 6, none⟩ = false
  f7 : W.frozen? ⟨b, 7, none⟩ = false
  f8 : W.frozen? ⟨b, 8, none⟩ = false
  f9 : W.frozen? ⟨b, 9, none⟩ = false
  f10 : W.frozen? ⟨b, 10, none⟩ = false
  f11 : W.frozen? ⟨b, 11, none⟩ = false
theorem Whole.tw {W : World} {b : Nat} {t : TypeId} {a0 a1 a2 a3 a4 a5 a6 a7 a8 a9 a10 a11 : Value} (h : Whole W b t #[a0, a1, a2, a3, a4, a5, a6, a7, a8, a9, a10, a11]) : Tw W b a0 a1 a2 a3 a4 a5 a6 a7 a8 a9 a10 a11 :=
  ⟨h.cell 0, h.cell 1, h.cell 2, h.cell 3, h.cell 4, h.cell 5, h.cell 6, h.cell 7, h.cell 8, h.cell 9, h.cell 10, h.cell 11, h.frozen 0, h.frozen 1, h.frozen 2, h.frozen 3, h.frozen 4, h.frozen 5, h.frozen 6, h.frozen 7, h.frozen 8, h.frozen 9, h.frozen 10, h.frozen 11⟩

theorem freshPath_none (w : World) : Calls Try.prog 36 #[.slice none 0 0] w fun e w' => e = .returned (.slice none 0 0) ∧ w = w' := by
  have hnil := fun (w : World) => Go.Lib.run_eql_slice_nil (P := Try.prog) w 23 81 none 0 0 0 0 Try.underlying23
  go_enter Try.func36, Try.ntmps36
  go_wp2
  go_ret
  exact ⟨rfl, rfl⟩

/-- A list of one component, in a block of its own, all of it new. -/
def OneC (c : Cm GV) (s t : ByteArray) (m : Int) (w : World) (e : Ending) (w' : World) : Prop :=
  ∃ b AL AO cL cO, e = .returned (.slice (some ⟨b, 0, none⟩) 1 1) ∧ w.heap.size ≤ b ∧ Whole w' b 29 #[.int .u8 c.k, .slice none 0 0, .string s, .int .i64 c.i, .int .i64 c.j, .int .i64 m, .int .u8 c.v.kind, .int .i64 c.v.num, .string c.v.str, .slice AL c.v.items.length cL, .slice AO c.v.vals.length cO, .string t] ∧ (LstV (fun k => w.heap.size ≤ k) w' (.slice AL c.v.items.length cL) c.v.items ∧ ObjV (fun k => w.heap.size ≤ k) w' (.slice AO c.v.vals.length cO) c.v.keys c.v.vals) ∧ Below w.heap.size w w'
set_option maxRecDepth 100000 in
set_option maxHeartbeats 4000000 in
theorem alone_any (k i j : Nat) (v : GV) (s t : ByteArray) (m : Int) (AL AO : Option Addr) (cL cO : Nat) (w : World) (hv : Vl w v AL AO cL cO) (hg : v.weight ≤ 1000000000) (hs : s.size ≤ 281474976710656) (ht : t.size ≤ 281474976710656) :
    Calls Try.prog 24 #[.agg #[.int .u8 k, .slice none 0 0, .string s, .int .i64 i, .int .i64 j, .int .i64 m, .int .u8 v.kind, .int .i64 v.num, .string v.str, .slice AL v.items.length cL, .slice AO v.vals.length cO, .string t]] w (OneC ⟨k, i, j, v⟩ s t m w) := by
  have H0 := Lib.hid (Whole.new w 29 #[.int .u8 k, .slice none 0 0, .string s, .int .i64 i, .int .i64 j, .int .i64 m, .int .u8 v.kind, .int .i64 v.num, .string v.str, .slice AL v.items.length cL, .slice AO v.vals.length cO, .string t])
  have HV := Lib.hid hv
  have HG := Lib.hid hg
  clear hv hg
  go_enter Try.func24, Try.ntmps24
  go_wp2_with (first
    | (go_at_call 36; refine (freshPath_none _).mono ?_; rintro e w1 ⟨rfl, rfl⟩)
    | (go_at_call 37; ((with_reducible refine (call_clone s _ hs).mono ?_); rintro e w1 ⟨rfl, hb⟩; have H1 := Lib.hid (H0.out.below hb H0.out.lt); have B1 := Lib.hid ((below_alloc w _).trans (hb.mono (by simp))); obtain ⟨a0, a1, a2, a3, a4, a5, a6, a7, a8, a9, a10, a11, f0, f1, f2, f3, f4, f5, f6, f7, f8, f9, f10, f11⟩ := H1.out.tw; clear hb))
    | (go_at_call 37; ((with_reducible refine (call_clone t _ ht).mono ?_); rintro e w2 ⟨rfl, hb⟩; have H2 := Lib.hid (show Whole w2 w.heap.size 29 #[.int .u8 k, .slice none 0 0, .string s, .int .i64 i, .int .i64 j, .int .i64 m, .int .u8 v.kind, .int .i64 v.num, .string v.str, .slice AL v.items.length cL, .slice AO v.vals.length cO, .string t] from (H1.out.put 2 (.string s)).below hb (H1.out.put 2 (.string s)).lt); have B2 := Lib.hid ((B1.out.setCell (p := ⟨w.heap.size, 2, none⟩) (Nat.le_refl _) (.string s)).trans (hb.mono (by rw [size_set]; exact B1.out.size))); clear a0 a1 a2 a3 a4 a5 a6 a7 a8 a9 a10 a11 f0 f1 f2 f3 f4 f5 f6 f7 f8 f9 f10 f11; obtain ⟨a0, a1, a2, a3, a4, a5, a6, a7, a8, a9, a10, a11, f0, f1, f2, f3, f4, f5, f6, f7, f8, f9, f10, f11⟩ := H2.out.tw; clear hb))
    | (go_at_call 28; refine (val_Copy _ _ v _ (HV.out.later (B2.out.setCell (p := ⟨w.heap.size, 11, none⟩) (Nat.le_refl _) (.string t))).val HG.out).mono ?_; rintro e w3 ⟨v', rfl, ⟨L', O', rfl, hL, hO⟩, hb⟩; obtain ⟨BL, dL, rfl⟩ := lst_form hL; obtain ⟨BO, dO, rfl⟩ := obj_form hO; have H3 := Lib.hid (show Whole w3 w.heap.size 29 #[.int .u8 k, .slice none 0 0, .string s, .int .i64 i, .int .i64 j, .int .i64 m, .int .u8 v.kind, .int .i64 v.num, .string v.str, .slice AL v.items.length cL, .slice AO v.vals.length cO, .string t] from (H2.out.put 11 (.string t)).below hb (H2.out.put 11 (.string t)).lt); have B3 := Lib.hid ((B2.out.setCell (p := ⟨w.heap.size, 11, none⟩) (Nat.le_refl _) (.string t)).trans (hb.mono (by rw [size_set]; exact B2.out.size))); have N3 := Lib.hid (And.intro hL hO); have S2 := Lib.hid (show w.heap.size < (w2.setCell ⟨w.heap.size, 11, none⟩ (.string t)).heap.size from (H2.out.put 11 (.string t)).lt); clear a0 a1 a2 a3 a4 a5 a6 a7 a8 a9 a10 a11 f0 f1 f2 f3 f4 f5 f6 f7 f8 f9 f10 f11; obtain ⟨a0, a1, a2, a3, a4, a5, a6, a7, a8, a9, a10, a11, f0, f1, f2, f3, f4, f5, f6, f7, f8, f9, f10, f11⟩ := H3.out.tw; clear hb hL hO))
  go_ret
  have hfar : ∀ (o : Obj) (b : Nat), (w2.setCell ⟨w.heap.size, 11, none⟩ (.string t)).heap.size ≤ b → b < w3.heap.size → ((((((w3.setCell ⟨w.heap.size, 6, none⟩ (.int .u8 v.kind)).setCell ⟨w.heap.size, 7, none⟩ (.int .i64 v.num)).setCell ⟨w.heap.size, 8, none⟩ (.string v.str)).setCell ⟨w.heap.size, 9, none⟩ (.slice BL v.items.length dL)).setCell ⟨w.heap.size, 10, none⟩ (.slice BO v.vals.length dO)).alloc o).heap[b]? = w3.heap[b]? := fun o b hk hl => by
    have hne : b ≠ w.heap.size := by have := S2.out; omega
    rw [Below.heap_alloc _ _ _ (by simpa [World.setCell] using hl), Below.heap_setCell _ _ _ _ hne, Below.heap_setCell _ _ _ _ hne, Below.heap_setCell _ _ _ _ hne, Below.heap_setCell _ _ _ _ hne, Below.heap_setCell _ _ _ _ hne]
  have hsz : w.heap.size ≤ w3.heap.size := B3.out.size
  refine ⟨_, BL, BO, dL, dO, rfl, hsz, ?_, ⟨N3.out.1.keep (fun b hk hl => hfar _ b hk hl) (fun b hk _ => by have := S2.out; omega), N3.out.2.keep (fun b hk hl => hfar _ b hk hl) (fun b hk _ => by have := S2.out; omega)⟩, ?_⟩
  · have h := Whole.new (((((w3.setCell ⟨w.heap.size, 6, none⟩ (.int .u8 v.kind)).setCell ⟨w.heap.size, 7, none⟩ (.int .i64 v.num)).setCell ⟨w.heap.size, 8, none⟩ (.string v.str)).setCell ⟨w.heap.size, 9, none⟩ (.slice BL v.items.length dL)).setCell ⟨w.heap.size, 10, none⟩ (.slice BO v.vals.length dO)) 29 #[.int .u8 k, .slice none 0 0, .string s, .int .i64 i, .int .i64 j, .int .i64 m, .int .u8 v.kind, .int .i64 v.num, .string v.str, .slice BL v.items.length dL, .slice BO v.vals.length dO, .string t]
    rw [size_set, size_set, size_set, size_set, size_set] at h
    exact h
  · exact (((((B3.out.setCell (p := ⟨w.heap.size, 6, none⟩) (Nat.le_refl _) _).setCell (p := ⟨w.heap.size, 7, none⟩) (Nat.le_refl _) _).setCell (p := ⟨w.heap.size, 8, none⟩) (Nat.le_refl _) _).setCell (p := ⟨w.heap.size, 9, none⟩) (Nat.le_refl _) _).setCell (p := ⟨w.heap.size, 10, none⟩) (Nat.le_refl _) _).alloc (by simpa [World.setCell] using hsz) _
end Go.Proofs.Ytlgggalbngpelaa
