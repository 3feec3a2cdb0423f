/- JsonOnly returns true. -/
import Derived.Test.YtmmjkhkcffgeiaaDoorJKn
import Derived.Test.YtmmjkhkcffgeiaaDoorRefS
import Derived.Test.YtmmjkhkcffgeiaaDoorRefO
import Derived.Test.YtmmjkhkcffgeiaaDoorSameRefl
namespace Go.Proofs.YtmmjkhkcffgeiaaDoor
open Go Go.RowKit Go.Shelf
set_option linter.unusedVariables false
set_option linter.unusedSimpArgs false

mutual
theorem rs_posN : ∀ (g : GV), g.RS → g.PosN
  | .mk k n s l ks ov, h => by
    simp only [GV.RS] at h
    obtain ⟨⟨h1, h2, _⟩, hl, ho⟩ := h
    simp only [GV.PosN]
    exact ⟨⟨by omega, by omega, by omega⟩, rss_posNs l hl, rss_posNs ov ho⟩
theorem rss_posNs : ∀ (l : List GV), GV.RSs l → GV.PosNs l
  | [], _ => by simp [GV.PosNs]
  | g :: r, h => by
    simp only [GV.RSs] at h
    simp only [GV.PosNs]
    exact ⟨rs_posN g h.1, rss_posNs r h.2⟩
end
def noJ : GV := .mk 0 0 ⟨#[]⟩ [] [] []
theorem noJ_val (W : World) : noJ.val (fun _ => True) W (.agg #[.int .u8 0, .int .i64 0, .string ⟨#[]⟩, .slice none 0 0, .slice none 0 0]) := ⟨_, _, rfl, .inl ⟨rfl, rfl⟩, rfl, .inl ⟨rfl, rfl⟩⟩
/-- Same of one value with itself. -/
def TrueOut (w : World) (e : Ending) (w' : World) : Prop := e = .returned (.bool true) ∧ Below w.heap.size w w'
theorem same_is (ok : Nat → Prop) (v v' : Value) (g : GV) (w : World) (hv : g.val ok w v) (hv' : g.val ok w v') (hg : g.size ≤ 1000000000) : Calls Tryd.prog 17 #[v, v'] w (TrueOut w) :=
  (ref_Same g.size ok v v' g g w (Nat.le_refl _) hv hv' hg hg).mono fun e w' hh => by
    obtain ⟨b, he, hb, hw⟩ := hh
    exact ⟨by rw [he, hb.2 (same_refl g)], hw⟩
theorem sound_is (ok : Nat → Prop) (v : Value) (g : GV) (w : World) (hv : g.val ok w v) (hw : g.weight ≤ 1000000000) (hp : g.Pos) (hT : Tabs w) (hs : g.Sound) : Calls Tryd.prog 18 #[v] w (TrueOut w) :=
  (ref_Sound g.size ok v g w (Nat.le_refl _) hv hw hp hT).mono fun e w' hh => by
    obtain ⟨b, he, hb, hb2⟩ := hh
    exact ⟨by rw [he, hb.2 hs], hb2⟩

set_option maxHeartbeats 4000000 in
set_option maxRecDepth 100000 in
theorem jonly_great (s : ByteArray) (w : World) (h : JT w) (hs : 3000 < s.size) : Calls Tryd.prog 6 #[.string s] w (TrueOut w) := by
  have h1 : decide ((3000 : Int) < (s.size : Int)) = true := by simp; omega
  have HK := Lib.hid (jknown_true w h)
  clear h hs
  go_enter Tryd.func6, Tryd.ntmps6
  go_wp2_with (go_at_call 10; refine HK.out.mono ?_; rintro e w1 ⟨rfl, hb⟩)
  go_ret
  exact ⟨rfl, hb⟩
set_option maxHeartbeats 4000000 in
set_option maxRecDepth 100000 in
theorem jonly_no (s : ByteArray) (w : World) (h : JT w) (hs : s.size ≤ 3000) (hn : ¬ ∃ g, Is s g) : Calls Tryd.prog 6 #[.string s] w (TrueOut w) := by
  have h1 : decide ((3000 : Int) < (s.size : Int)) = false := by simp; omega
  have HK := Lib.hid (jknown_true w h)
  have HJ := Lib.hid h
  have HD := Lib.hid (fun w1 (h1 : JT w1) => dec_isnot s w1 h1 (by omega) hn)
  clear h hs hn
  go_enter Tryd.func6, Tryd.ntmps6
  go_wp2_with (first
    | (go_at_call 10; (with_reducible refine HK.out.mono ?_); rintro e w1 ⟨rfl, hb⟩; have H1 := Lib.hid hb; clear hb)
    | (go_at_call 12; (with_reducible refine (HD.out _ (HJ.out.below H1.out)).mono ?_); rintro e w2 ⟨rfl, hb⟩; have H2 := Lib.hid (below_next H1.out hb); clear hb)
    | (go_at_call 17; (with_reducible refine (same_is _ _ _ noJ _ (noJ_val _) (noJ_val _) (by decide)).mono ?_); rintro e w3 ⟨rfl, hb⟩; have H3 := Lib.hid (below_then H2.out hb); clear hb))
  go_ret
  exact ⟨rfl, H3.out⟩
set_option maxHeartbeats 4000000 in
set_option maxRecDepth 100000 in
theorem jonly_yes (s : ByteArray) (w : World) (h : JT w) (hs : s.size ≤ 3000) (g : GV) (hg : Is s g) : Calls Tryd.prog 6 #[.string s] w (TrueOut w) := by
  have h1 : decide ((3000 : Int) < (s.size : Int)) = false := by simp; omega
  have hst := is_text hg
  have HK := Lib.hid (jknown_true w h)
  have HJ := Lib.hid h
  have HD := Lib.hid (fun w1 (h1 : JT w1) => dec_is s g w1 h1 (by omega) hg)
  have hp := rs_posN g hg.1.1
  have HG := Lib.hid (And.intro hp (And.intro hg.2.1 (And.intro hg.2.2 (And.intro (posN_pos g hp) (show g.weight ≤ 1000000000 by have := hg.2.2.2; omega)))))
  have HST := Lib.hid hst
  clear h hs hg hp hst
  go_enter Tryd.func6, Tryd.ntmps6
  go_wp2_with (first
    | (go_at_call 10; (with_reducible refine HK.out.mono ?_); rintro e w1 ⟨rfl, hb⟩; have H1 := Lib.hid hb; clear hb)
    | (go_at_call 12; (with_reducible refine (HD.out _ (HJ.out.below H1.out)).mono ?_); rintro e w2 ⟨BL, dL, BO, dO, rfl, hL, hO, hb⟩; have H2 := Lib.hid (And.intro (below_next H1.out hb) (And.intro hL hO)); clear hb hL hO)
    | (go_at_call 11; go_loud ((with_reducible refine (enc_is (fun _ => True) _ g _ (HJ.out.below (below_new H2.out.1 _)) (val_here H2.out.2.1 H2.out.2.2) HG.out.1 HG.out.2.1 HG.out.2.2.1).mono ?_); rintro e w3 ⟨he, hb⟩; rw [← HST.out] at he; subst he; have hx := (Whole.new w2 31 #[.int .u8 g.kind, .int .i64 g.num, .string g.str, .slice BL g.items.length dL, .slice BO g.vals.length dO]).below hb (by simp); obtain ⟨b0, b1, b2, b3, b4, _⟩ := hx.five; have H3 := Lib.hid (And.intro (below_then H2.out.1 hb) hb); clear hb hx))
    | (go_at_call 18; go_loud ((with_reducible refine (sound_is (fun _ => True) _ g _ (val_later (val_here H2.out.2.1 H2.out.2.2) H3.out.2) HG.out.2.2.2.2 HG.out.2.2.2.1 (HJ.out.below H3.out.1).tabs HG.out.2.1).mono ?_); rintro e w4 ⟨rfl, hb⟩; have H4 := Lib.hid (below_next H3.out.1 hb); clear hb)))
  go_ret
  exact ⟨rfl, H4.out⟩
theorem jonly_true (s : ByteArray) (w : World) (h : JT w) : Calls Tryd.prog 6 #[.string s] w (TrueOut w) := by
  by_cases hs : s.size ≤ 3000
  · rcases Classical.em (∃ g, Is s g) with ⟨g, hg⟩ | hn
    · exact jonly_yes s w h hs g hg
    · exact jonly_no s w h hs hn
  · exact jonly_great s w h (by omega)
theorem jonly_row (hi : Nat) (s : ByteArray) (w : World) (_ : hi ≤ w.heap.size) (_ : s.size ≤ 140737488351232) (h : JT w) : Calls Tryd.prog 6 #[.string s] w (TrueOut w) := jonly_true s w h
end Go.Proofs.YtmmjkhkcffgeiaaDoor
