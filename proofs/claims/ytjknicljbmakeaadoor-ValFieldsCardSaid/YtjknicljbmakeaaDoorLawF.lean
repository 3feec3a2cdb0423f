/- ValFields, the Go function: it comes out true. -/
import Derived.Test.YtjknicljbmakeaaDoorKnown
import Derived.Test.YtjknicljbmakeaaDoorHeavy
import Derived.Test.YtjknicljbmakeaaDoorRawTop
namespace Go.Proofs.YtjknicljbmakeaaDoor
open Go Go.RowKit

/-- A value that is laid into a box of its own. -/
theorem law_box {ok : Nat → Prop} {W : World} {g : GV} {L O : Value} (h : LstV ok W L g.items ∧ ObjV ok W O g.keys g.vals) (o : Obj) : g.val ok (W.alloc o) (.agg #[.int .u8 g.kind, .int .i64 g.num, .string g.str, L, O]) :=
  ⟨L, O, rfl, h.1.keep (fun _ _ hk => Below.heap_alloc _ _ _ hk) (fun _ h _ => h), h.2.keep (fun _ _ hk => Below.heap_alloc _ _ _ hk) (fun _ h _ => h)⟩

set_option maxRecDepth 100000 in
set_option maxHeartbeats 8000000 in
theorem fields_true (hi : Nat) (A : Option Addr) (cap : Nat) (ts : List GTok) (key : ByteArray) (w : World) (hcap : ts.length ≤ cap) (hm : cap ≤ maxLen) (hhi : hi ≤ w.heap.size) (hT : Toks hi w A ts)
    (hr : ∀ t ∈ ts, 0 ≤ t.k ∧ t.k ≤ 255 ∧ 0 ≤ t.m ∧ t.m ≤ 255) (hss : ∀ t ∈ ts, t.s.size ≤ 140737488351232) (hk : key.size ≤ 281474976710656) (hU : Tabs w) :
    Calls Tryd.prog 6 #[.slice A ts.length cap, .string key] w (TrueBelow w) := by
  have hheavy := heavy_any hi A cap ts w hT (by omega) (hss)
  have hraw : ts.length ≤ 200 → ∀ W, Below w.heap.size w W → Calls Tryd.prog 18 #[.slice A ts.length cap] W (RawOut ts W) := fun h W hb => Raw_any hi A cap ts W hcap hm h (by have := hb.size; omega) (hT.keep (hb.mono hhi) (Nat.le_refl _)) hr
  have HRAW := Lib.hid hraw
  have HHEAVY := Lib.hid hheavy
  have HU := Lib.hid hU
  clear hraw hheavy hU hT hr hss
  generalize hn : ts.length = n at *
  have HN := Lib.hid hn
  clear hn
  go_enter Tryd.func6, Tryd.ntmps6
  go_wp2_with (first | (go_at_call 16; refine HHEAVY.out.mono ?_; rintro e w' ⟨b, rfl, rfl, hb⟩; have HB := Lib.hid hb; clear hb) | (go_at_call 17; refine (known_true _ HU.out).mono ?_; rintro e W1 ⟨rfl, hb1⟩; have HB1 := Lib.hid hb1; clear hb1) | (go_at_call 18; refine (HRAW.out (by have := (HB.out (by simpa using ‹¬ b = true›)).1; have := HN.out; omega) _ HB1.out).mono ?_; rintro e W2 ⟨g, v, rfl, hv, hw, hb2⟩; obtain ⟨L, O, rfl, hL, hO⟩ := hv; obtain ⟨BL, dL, rfl⟩ := lst_form hL; obtain ⟨BO, dO, rfl⟩ := obj_form hO; have HV := Lib.hid (And.intro hL hO); have HB2 := Lib.hid (HB1.out.trans (hb2.mono (HB1.out.size))); clear hL hO hw hb2) | (go_at_call 29; refine (val_Field (fun k => W1.heap.size ≤ k) _ g key _ (law_box HV.out _)).mono ?_; rintro e W3 ⟨rfl, hb3⟩; have HB3 := Lib.hid hb3; have c3 := ((Whole.new W2 28 #[.int .u8 g.kind, .int .i64 g.num, .string g.str, .slice BL g.items.length dL, .slice BO g.vals.length dO]).below hb3 (by simp)).five; obtain ⟨q0, q1, q2, q3, q4, _⟩ := c3; clear hb3) | (go_at_call 30; refine (ref_Field (fun k => W1.heap.size ≤ k) _ g key _ (GV.val_keep (From.of_below HB3.out) (fun _ h _ => h) (law_box HV.out _))).mono ?_; rintro e W4 ⟨rfl, hb4⟩; have HB4 := Lib.hid hb4; clear hb4))
  · refine bodyPost_ret (v := .bool true) (by simp [results, Tryd.results6, go_sem]) rfl ?_
    exact ⟨rfl, HB1.out⟩
  · refine bodyPost_ret (v := .bool true) (by simp [results, Tryd.results6, go_sem]) rfl ?_
    exact ⟨rfl, ((HB2.out.alloc (by have := HB2.out.size; omega) _).trans (HB3.out.mono (by have := HB2.out.size; simp; omega))).trans (HB4.out.mono (by have h1 := HB2.out.size; have h2 := HB3.out.size; simp at h2; omega))⟩
  · refine bodyPost_ret (v := .bool true) (by simp [results, Tryd.results6, go_sem]) rfl ?_
    exact ⟨rfl, HB1.out⟩
end Go.Proofs.YtjknicljbmakeaaDoor
