/- What json's calls answer, as the laws of layer 2 use it. -/
import Derived.Test.YtmmjkhkcffgeiaaDoorDec
namespace Go.Proofs.YtmmjkhkcffgeiaaDoor
open Go Go.RowKit Go.Shelf
set_option linter.unusedVariables false
set_option linter.unusedSimpArgs false

/-- The tables and errors that json reads are laid. -/
structure JT (w : World) : Prop where
  tabs : Tabs w
  errs : ErrsB w.heap.size w
  ten : TenT w
theorem JT.below {w w' : World} (h : JT w) (hb : Below w.heap.size w w') : JT w' := ⟨h.tabs.below hb (Nat.le_refl _), fun_errs h.errs hb, h.ten.below hb⟩
/-- A text that is a value's. -/
def DecYes (g : GV) (w : World) (e : Ending) (w' : World) : Prop :=
  ∃ BL dL BO dO, e = .returned (.tuple #[.agg #[.int .u8 g.kind, .int .i64 g.num, .string g.str, .slice BL g.items.length dL, .slice BO g.vals.length dO], .int .u16 0]) ∧ LstV (fun k => w.heap.size ≤ k) w' (.slice BL g.items.length dL) g.items ∧ ObjV (fun k => w.heap.size ≤ k) w' (.slice BO g.vals.length dO) g.keys g.vals ∧ Below w.heap.size w w'
theorem dec_is (s : ByteArray) (g : GV) (w : World) (h : JT w) (hs : s.size ≤ 60000) (hg : Is s g) : Calls Tryd.prog 12 #[.string s] w (DecYes g w) := by
  refine (j_Decode s w h.tabs h.errs h.ten.tenB).mono fun e w' hh => ?_
  rcases hh with ⟨hb, ⟨h1, _⟩ | ⟨_, hn, _⟩ | ⟨_, g', v, hg', he, L, O, hv, hL, hO⟩⟩
  · omega
  · exact absurd ⟨g, hg⟩ hn
  · have := hg'.one hg
    subst this
    obtain ⟨BL, dL, rfl⟩ := lst_form hL
    obtain ⟨BO, dO, rfl⟩ := obj_form hO
    exact ⟨BL, dL, BO, dO, by rw [he, hv], hL, hO, hb⟩
/-- A text that is none. -/
def DecNo (w : World) (e : Ending) (w' : World) : Prop :=
  e = .returned (.tuple #[.agg #[.int .u8 0, .int .i64 0, .string ⟨#[]⟩, .slice none 0 0, .slice none 0 0], .int .u16 20]) ∧ Below w.heap.size w w'
theorem dec_isnot (s : ByteArray) (w : World) (h : JT w) (hs : s.size ≤ 60000) (hg : ¬ ∃ g, Is s g) : Calls Tryd.prog 12 #[.string s] w (DecNo w) := by
  refine (j_Decode s w h.tabs h.errs h.ten.tenB).mono fun e w' hh => ?_
  rcases hh with ⟨hb, ⟨h1, _⟩ | ⟨_, hn, he⟩ | ⟨_, g', v, hg', _⟩⟩
  · omega
  · exact ⟨he, hb⟩
  · exact absurd ⟨g', hg'⟩ hg
/-- A value that has a text. -/
def EncYes (g : GV) (w : World) (e : Ending) (w' : World) : Prop := e = .returned (.tuple #[.string ⟨g.enc.toArray⟩, .int .u16 0]) ∧ Below w.heap.size w w'
theorem enc_is (ok : Nat → Prop) (v : Value) (g : GV) (w : World) (h : JT w) (hv : g.val ok w v) (hp : g.PosN) (hs : g.Sound) (hf : Fits g) : Calls Tryd.prog 11 #[v] w (EncYes g w) := by
  refine (j_Encode ok v g w hv (by have := hf.2; omega) hp h.tabs h.ten).mono fun e w' hh => ?_
  rcases hh with ⟨hb, ⟨h1, _⟩ | ⟨_, h2, _⟩ | ⟨_, _, he⟩⟩
  · exact absurd hs h1
  · exact absurd hf h2
  · exact ⟨he, hb⟩
/-- The text of a value is the value's. -/
theorem is_enc {g : GV} (hr : g.RS) (hs : g.Sound) (hf : Fits g) : Is ⟨g.enc.toArray⟩ g :=
  ⟨⟨hr, hf.1, by simp, fun _ c h => by cases h⟩, hs, hf⟩
theorem is_text {s : ByteArray} {g : GV} (h : Is s g) : s = ⟨g.enc.toArray⟩ := ba_ext (by rw [h.1.2.2.1]; simp)
theorem enc_small {g : GV} (hr : g.RS) (hw : g.weight ≤ 1875) : (⟨g.enc.toArray⟩ : ByteArray).size ≤ 60000 := by
  have := enc_len g hr
  show g.enc.toArray.size ≤ 60000
  simp; omega
/-- A value stored into a new block is the value still. -/
theorem val_here {ok : Nat → Prop} {W : World} {o : Obj} {g : GV} {L O : Value} (hL : LstV ok W L g.items) (hO : ObjV ok W O g.keys g.vals) : g.val (fun _ => True) (W.alloc o) (.agg #[.int .u8 g.kind, .int .i64 g.num, .string g.str, L, O]) :=
  ⟨L, O, rfl, hL.keep (from_alloc _ _ _) (fun _ _ _ => trivial), hO.keep (from_alloc _ _ _) (fun _ _ _ => trivial)⟩
theorem below_new {w w1 : World} (h : Below w.heap.size w w1) (o : Obj) : Below w.heap.size w (w1.alloc o) := h.alloc h.size _
theorem below_then {w w1 w2 : World} {o : Obj} (h : Below w.heap.size w w1) (h2 : Below (w1.alloc o).heap.size (w1.alloc o) w2) : Below w.heap.size w w2 := (below_new h o).trans (h2.mono (below_new h o).size)
theorem below_next {w w1 w2 : World} (h : Below w.heap.size w w1) (h2 : Below w1.heap.size w1 w2) : Below w.heap.size w w2 := h.trans (h2.mono h.size)
theorem val_later {W W' : World} {g : GV} {v : Value} (h : g.val (fun _ => True) W v) (hb : Below W.heap.size W W') : g.val (fun _ => True) W' v := GV.val_keep (From.of_below hb) (fun _ h _ => h) h
end Go.Proofs.YtmmjkhkcffgeiaaDoor
