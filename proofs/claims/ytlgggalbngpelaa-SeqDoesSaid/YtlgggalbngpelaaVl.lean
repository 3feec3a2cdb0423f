/- A value by its two slices; the document's own Same and Copy, in one form each. -/
import Derived.Test.YtlgggalbngpelaaSameRefl
import Derived.Test.YtlgggalbngpelaaRefC
namespace Go.Proofs.Ytlgggalbngpelaa
open Go Go.RowKit

/-- The two slices of a value. -/
structure Vl (W : World) (g : GV) (AL AO : Option Addr) (cL cO : Nat) : Prop where
  lst : LstV (fun _ => True) W (.slice AL g.items.length cL) g.items
  obj : ObjV (fun _ => True) W (.slice AO g.vals.length cO) g.keys g.vals
theorem Vl.later {W W' : World} {g : GV} {AL AO : Option Addr} {cL cO : Nat} (h : Vl W g AL AO cL cO) (hb : Below W.heap.size W W') : Vl W' g AL AO cL cO :=
  ⟨h.lst.keep (From.of_below hb) (fun _ h _ => h), h.obj.keep (From.of_below hb) (fun _ h _ => h)⟩
theorem Vl.val {W : World} {g : GV} {AL AO : Option Addr} {cL cO : Nat} (h : Vl W g AL AO cL cO) : g.val (fun _ => True) W (.agg #[.int .u8 g.kind, .int .i64 g.num, .string g.str, .slice AL g.items.length cL, .slice AO g.vals.length cO]) := ⟨_, _, rfl, h.lst, h.obj⟩
theorem vl_of {ok : Nat → Prop} {W : World} {v : Value} {g : GV} (h : g.val ok W v) : ∃ AL AO cL cO, v = .agg #[.int .u8 g.kind, .int .i64 g.num, .string g.str, .slice AL g.items.length cL, .slice AO g.vals.length cO] ∧ Vl W g AL AO cL cO := by
  obtain ⟨L, O, rfl, hL, hO⟩ := h
  obtain ⟨AL, cL, rfl⟩ := lst_form hL
  obtain ⟨AO, cO, rfl⟩ := obj_form hO
  exact ⟨AL, AO, cL, cO, rfl, hL.keep (From.refl _ _) (fun _ _ _ => trivial), hO.keep (From.refl _ _) (fun _ _ _ => trivial)⟩
/-- A value in a block of its own. -/
structure Bx (W : World) (b : Nat) (g : GV) (AL AO : Option Addr) (cL cO : Nat) : Prop where
  whole : Whole W b 27 #[.int .u8 g.kind, .int .i64 g.num, .string g.str, .slice AL g.items.length cL, .slice AO g.vals.length cO]
  vl : Vl W g AL AO cL cO
theorem Bx.later {W W' : World} {b : Nat} {g : GV} {AL AO : Option Addr} {cL cO : Nat} (h : Bx W b g AL AO cL cO) (hb : Below W.heap.size W W') : Bx W' b g AL AO cL cO := ⟨h.whole.below hb h.whole.lt, h.vl.later hb⟩
theorem below_alloc (W : World) (o : Obj) : Below W.heap.size W (W.alloc o) := (Below.refl _ W).alloc (Nat.le_refl _) o
theorem Bx.new {W : World} {g : GV} {AL AO : Option Addr} {cL cO : Nat} (h : Vl W g AL AO cL cO) : Bx (W.alloc (.cells #[.int .u8 g.kind, .int .i64 g.num, .string g.str, .slice AL g.items.length cL, .slice AO g.vals.length cO] 27)) W.heap.size g AL AO cL cO :=
  ⟨Whole.new W _ _, h.later (below_alloc W _)⟩
theorem Bx.cells {W : World} {b : Nat} {g : GV} {AL AO : Option Addr} {cL cO : Nat} (h : Bx W b g AL AO cL cO) : W.cell? ⟨b, 0, none⟩ = some (.int .u8 g.kind) ∧ W.cell? ⟨b, 1, none⟩ = some (.int .i64 g.num) ∧ W.cell? ⟨b, 2, none⟩ = some (.string g.str) ∧
    W.cell? ⟨b, 3, none⟩ = some (.slice AL g.items.length cL) ∧ W.cell? ⟨b, 4, none⟩ = some (.slice AO g.vals.length cO) := by
  obtain ⟨c0, c1, c2, c3, c4, _⟩ := h.whole.five
  exact ⟨c0, c1, c2, c3, c4⟩
theorem Bx.cellsA {W : World} {b : Nat} {g : GV} {AL AO : Option Addr} {cL cO : Nat} (h : Bx W b g AL AO cL cO) : (∀ o, (W.alloc o).cell? ⟨b, 0, none⟩ = some (.int .u8 g.kind)) ∧ (∀ o, (W.alloc o).cell? ⟨b, 1, none⟩ = some (.int .i64 g.num)) ∧ (∀ o, (W.alloc o).cell? ⟨b, 2, none⟩ = some (.string g.str)) ∧
    (∀ o, (W.alloc o).cell? ⟨b, 3, none⟩ = some (.slice AL g.items.length cL)) ∧ ∀ o, (W.alloc o).cell? ⟨b, 4, none⟩ = some (.slice AO g.vals.length cO) :=
  ⟨fun o => cell_alloc o h.cells.1, fun o => cell_alloc o h.cells.2.1, fun o => cell_alloc o h.cells.2.2.1, fun o => cell_alloc o h.cells.2.2.2.1, fun o => cell_alloc o h.cells.2.2.2.2⟩

def ValOut (g : GV) (W : World) (e : Ending) (w' : World) : Prop :=
  ∃ BL BO dL dO, e = .returned (.agg #[.int .u8 g.kind, .int .i64 g.num, .string g.str, .slice BL g.items.length dL, .slice BO g.vals.length dO]) ∧ Vl w' g BL BO dL dO ∧ Below W.heap.size W w'
theorem same_is {W : World} {g : GV} {AL AO CL CO : Option Addr} {cL cO eL eO : Nat} (hv : Vl W g AL AO cL cO) (hx : Vl W g CL CO eL eO) (hw : g.weight ≤ 1000000000) :
    Calls Try.prog 33 #[.agg #[.int .u8 g.kind, .int .i64 g.num, .string g.str, .slice AL g.items.length cL, .slice AO g.vals.length cO], .agg #[.int .u8 g.kind, .int .i64 g.num, .string g.str, .slice CL g.items.length eL, .slice CO g.vals.length eO]] W fun e w' => e = .returned (.bool true) ∧ Below W.heap.size W w' :=
  (ref_Same g.size _ _ _ g g W (Nat.le_refl _) hv.val hx.val (Nat.le_trans (size_le_weight g) hw) (Nat.le_trans (size_le_weight g) hw)).mono fun e w' ⟨b, he, hb, hw'⟩ => ⟨by rw [he, hb.2 (same_refl g)], hw'⟩
theorem copy_is {W : World} {g : GV} {AL AO : Option Addr} {cL cO : Nat} (hv : Vl W g AL AO cL cO) (hw : g.weight ≤ 1000000000) :
    Calls Try.prog 30 #[.agg #[.int .u8 g.kind, .int .i64 g.num, .string g.str, .slice AL g.items.length cL, .slice AO g.vals.length cO]] W (ValOut g W) :=
  (ref_Copy g.size _ _ g W (Nat.le_refl _) hv.val (Nat.le_trans (size_le_weight g) hw)).mono fun e w' ⟨v', he, hv', hb⟩ => by
    obtain ⟨BL, BO, dL, dO, rfl, hv2⟩ := vl_of hv'
    exact ⟨BL, BO, dL, dO, he, hv2, hb⟩
end Go.Proofs.Ytlgggalbngpelaa
