/- Texts in one: JLaw, JKn, SameRefl, LawJO, HeavyJ, JBld. -/
import Derived.Test.YtmmjkhkcffgeiaaDoorDecX
import Derived.Test.YtmmjkhkcffgeiaaDoorRefS
import Derived.Test.YtmmjkhkcffgeiaaDoorRefO
import Derived.Test.YtmmjkhkcffgeiaaDoorBaseA
import Derived.WalkKit
import Derived.WalkSpells
import Derived.WalkLawsBesides
import Derived.Lib.Hide
import Derived.Test.YtmmjkhkcffgeiaaDoorBuild
/- What json's calls answer, as the laws of layer 2 use it. -/
namespace Go.Proofs.YtmmjkhkcffgeiaaDoor
open Go Go.RowKit Go.Shelf
set_option linter.unusedVariables false
set_option linter.unusedSimpArgs false

/-- The tables and errors that json reads are laid. -/
structure JT (w : World) : Prop where
  tabs : Tabs w
  errs : ErrsB w.heap.size w
  ten : TenT w
theorem JT.below {w w' : World} (h : JT w) (hb : Below w.heap.size w w') : JT w' := ⟨h.tabs.below hb (Nat.le_refl _), fun_errs h.errs hb, h.ten.below hb⟩
/-- A text that is a value's. -/
def DecYes (g : GV) (w : World) (e : Ending) (w' : World) : Prop :=
  ∃ BL dL BO dO, e = .returned (.tuple #[.agg #[.int .u8 g.kind, .int .i64 g.num, .string g.str, .slice BL g.items.length dL, .slice BO g.vals.length dO], .int .u16 0]) ∧ LstV (fun k => w.heap.size ≤ k) w' (.slice BL g.items.length dL) g.items ∧ ObjV (fun k => w.heap.size ≤ k) w' (.slice BO g.vals.length dO) g.keys g.vals ∧ Below w.heap.size w w'
theorem dec_is (s : ByteArray) (g : GV) (w : World) (h : JT w) (hs : s.size ≤ 60000) (hg : Is s g) : Calls Tryd.prog 12 #[.string s] w (DecYes g w) := by
  refine (j_Decode s w h.tabs h.errs h.ten.tenB).mono fun e w' hh => ?_
  rcases hh with ⟨hb, ⟨h1, _⟩ | ⟨_, hn, _⟩ | ⟨_, g', v, hg', he, L, O, hv, hL, hO⟩⟩
  · omega
  · exact absurd ⟨g, hg⟩ hn
  · have := hg'.one hg
    subst this
    obtain ⟨BL, dL, rfl⟩ := lst_form hL
    obtain ⟨BO, dO, rfl⟩ := obj_form hO
    exact ⟨BL, dL, BO, dO, by rw [he, hv], hL, hO, hb⟩
/-- A text that is none. -/
def DecNo (w : World) (e : Ending) (w' : World) : Prop :=
  e = .returned (.tuple #[.agg #[.int .u8 0, .int .i64 0, .string ⟨#[]⟩, .slice none 0 0, .slice none 0 0], .int .u16 20]) ∧ Below w.heap.size w w'
theorem dec_isnot (s : ByteArray) (w : World) (h : JT w) (hs : s.size ≤ 60000) (hg : ¬ ∃ g, Is s g) : Calls Tryd.prog 12 #[.string s] w (DecNo w) := by
  refine (j_Decode s w h.tabs h.errs h.ten.tenB).mono fun e w' hh => ?_
  rcases hh with ⟨hb, ⟨h1, _⟩ | ⟨_, hn, he⟩ | ⟨_, g', v, hg', _⟩⟩
  · omega
  · exact ⟨he, hb⟩
  · exact absurd ⟨g', hg'⟩ hg
/-- A value that has a text. -/
def EncYes (g : GV) (w : World) (e : Ending) (w' : World) : Prop := e = .returned (.tuple #[.string ⟨g.enc.toArray⟩, .int .u16 0]) ∧ Below w.heap.size w w'
theorem enc_is (ok : Nat → Prop) (v : Value) (g : GV) (w : World) (h : JT w) (hv : g.val ok w v) (hp : g.PosN) (hs : g.Sound) (hf : Fits g) : Calls Tryd.prog 11 #[v] w (EncYes g w) := by
  refine (j_Encode ok v g w hv (by have := hf.2; omega) hp h.tabs h.ten).mono fun e w' hh => ?_
  rcases hh with ⟨hb, ⟨h1, _⟩ | ⟨_, h2, _⟩ | ⟨_, _, he⟩⟩
  · exact absurd hs h1
  · exact absurd hf h2
  · exact ⟨he, hb⟩
/-- The text of a value is the value's. -/
theorem is_enc {g : GV} (hr : g.RS) (hs : g.Sound) (hf : Fits g) : Is ⟨g.enc.toArray⟩ g :=
  ⟨⟨hr, hf.1, by simp, fun _ c h => by cases h⟩, hs, hf⟩
theorem is_text {s : ByteArray} {g : GV} (h : Is s g) : s = ⟨g.enc.toArray⟩ := ba_ext (by rw [h.1.2.2.1]; simp)
theorem enc_small {g : GV} (hr : g.RS) (hw : g.weight ≤ 1875) : (⟨g.enc.toArray⟩ : ByteArray).size ≤ 60000 := by
  have := enc_len g hr
  show g.enc.toArray.size ≤ 60000
  simp; omega
/-- A value stored into a new block is the value still. -/
theorem val_here {ok : Nat → Prop} {W : World} {o : Obj} {g : GV} {L O : Value} (hL : LstV ok W L g.items) (hO : ObjV ok W O g.keys g.vals) : g.val (fun _ => True) (W.alloc o) (.agg #[.int .u8 g.kind, .int .i64 g.num, .string g.str, L, O]) :=
  ⟨L, O, rfl, hL.keep (from_alloc _ _ _) (fun _ _ _ => trivial), hO.keep (from_alloc _ _ _) (fun _ _ _ => trivial)⟩
theorem below_new {w w1 : World} (h : Below w.heap.size w w1) (o : Obj) : Below w.heap.size w (w1.alloc o) := h.alloc h.size _
theorem below_then {w w1 w2 : World} {o : Obj} (h : Below w.heap.size w w1) (h2 : Below (w1.alloc o).heap.size (w1.alloc o) w2) : Below w.heap.size w w2 := (below_new h o).trans (h2.mono (below_new h o).size)
theorem below_next {w w1 w2 : World} (h : Below w.heap.size w w1) (h2 : Below w1.heap.size w1 w2) : Below w.heap.size w w2 := h.trans (h2.mono h.size)
theorem val_later {W W' : World} {g : GV} {v : Value} (h : g.val (fun _ => True) W v) (hb : Below W.heap.size W W') : g.val (fun _ => True) W' v := GV.val_keep (From.of_below hb) (fun _ h _ => h) h
end Go.Proofs.YtmmjkhkcffgeiaaDoor

/- The statements' own example of layer 2. -/
namespace Go.Proofs.YtmmjkhkcffgeiaaDoor
open Go Go.RowKit Go.Shelf
set_option linter.unusedVariables false
set_option linter.unusedSimpArgs false

def jk : GV := .mk 5 0 ⟨#[]⟩ [] [⟨#[97]⟩, ⟨#[98]⟩] [.mk 4 0 ⟨#[]⟩ [.mk 2 1 ⟨#[]⟩ [] [] [], .mk 0 0 ⟨#[]⟩ [] [] []] [] [], .mk 3 0 ⟨#[120, 92, 121]⟩ [] [] []]
def jbad : GV := .mk 5 0 ⟨#[]⟩ [] [⟨#[98]⟩, ⟨#[97]⟩] [.mk 2 1 ⟨#[]⟩ [] [] [], .mk 2 1 ⟨#[]⟩ [] [] []]
theorem itoa1 : Lib.itoa 1 = [49] := by decide +kernel
theorem encAB : encText [97] = [34, 97, 34] ∧ encText [98] = [34, 98, 34] ∧ encText [120, 92, 121] = [34, 120, 92, 92, 121, 34] := by decide
theorem jk_enc : jk.enc = [123, 34, 97, 34, 58, 91, 49, 44, 110, 117, 108, 108, 93, 44, 34, 98, 34, 58, 34, 120, 92, 92, 121, 34, 125] := by
  simp only [jk, enc_5, encFs_cons, encFs_nil, enc_4, encs_cons, encs_nil, enc_2, enc_0, enc_3, itoa1, encAB]
  decide
theorem jbad_enc : jbad.enc = [123, 34, 98, 34, 58, 49, 44, 34, 97, 34, 58, 49, 125] := by
  simp only [jbad, enc_5, encFs_cons, encFs_nil, enc_2, itoa1, encAB]
  decide
theorem jk_rs : jk.RS := by simp [jk, GV.RS, GV.RSs, RSelf]
theorem jbad_rs : jbad.RS := by simp [jbad, GV.RS, GV.RSs, RSelf]
theorem jk_posN : jk.PosN := by simp [jk, GV.PosN, GV.PosNs]
theorem jk_fits : Fits jk := by
  unfold Fits
  simp [jk, GV.deep, GV.deeps, GV.weight, GV.weights]
  decide
theorem keysAB : KeysOk [⟨#[97]⟩, ⟨#[98]⟩] := by
  have h0 : valid ⟨#[97]⟩ = true := by decide +kernel
  have h1 : valid ⟨#[98]⟩ = true := by decide +kernel
  have h2 : less' ⟨#[97]⟩ ⟨#[98]⟩ = true := by decide +kernel
  intro i k hi hk
  match i, hi with
  | 0, _ => simp at hk; subst hk; exact ⟨h0, fun j p hj => by omega⟩
  | 1, _ => simp at hk; subst hk; exact ⟨h1, fun j p hj hp => by have : j = 0 := by omega
                                                                 subst this; simp at hp; subst hp; exact h2⟩
theorem keysBA : ¬ KeysOk [⟨#[98]⟩, ⟨#[97]⟩] := fun h => by
  have h2 : less' ⟨#[98]⟩ ⟨#[97]⟩ = false := by decide +kernel
  have := (h 1 ⟨#[97]⟩ (by decide) rfl).2 0 ⟨#[98]⟩ rfl rfl
  rw [h2] at this
  cases this
theorem jk_sound : jk.Sound := by
  have h0 : (⟨#[]⟩ : ByteArray).toList = [] := by decide +kernel
  have h1 : valid ⟨#[120, 92, 121]⟩ = true := by decide +kernel
  simp [jk, GV.Sound, GV.Sounds, SelfP, h0, h1, keysAB]
theorem jbad_not : ¬ jbad.Sound := by
  simp [jbad, GV.Sound, GV.Sounds, SelfP, keysBA]
theorem jk_is : Is ⟨#[123, 34, 97, 34, 58, 91, 49, 44, 110, 117, 108, 108, 93, 44, 34, 98, 34, 58, 34, 120, 92, 92, 121, 34, 125]⟩ jk := by
  have := is_enc jk_rs jk_sound jk_fits
  rwa [jk_enc] at this
theorem jbad_isnot : ¬ ∃ g, Is ⟨#[123, 34, 98, 34, 58, 49, 44, 34, 97, 34, 58, 49, 125]⟩ g := fun ⟨g, h, hs, _⟩ => by
  have h2 : VAt 16 (⟨#[123, 34, 98, 34, 58, 49, 44, 34, 97, 34, 58, 49, 125]⟩ : ByteArray).data.toList jbad [] := ⟨jbad_rs, by decide, by rw [jbad_enc]; rfl, fun _ c h => by cases h⟩
  exact jbad_not (by rw [← (vat_one h h2).1]; exact hs)
/-- The cells of the example that is read. -/
theorem jk_cells {ok : Nat → Prop} {W : World} {O : Value} (h : ObjV ok W O jk.keys jk.vals) : ∃ b o c, O = .slice (some ⟨b, o, none⟩) 2 c ∧ 2 ≤ c ∧ W.cell? ⟨b, o + 6 + 1 + 2, none⟩ = some (.string ⟨#[120, 92, 121]⟩) ∧ b < W.heap.size := by
  rcases h.2 with ⟨h1, _⟩ | ⟨b, o, c, rfl, h1, h2, hK, _, hE⟩
  · cases h1
  · refine ⟨b, o, c, rfl, h1, ?_, hK.lt⟩
    obtain ⟨L, O, _, _, hc, _⟩ := GV.at_iff.1 (GV.els_get (i := 1) hE rfl)
    rw [show o + 6 + 1 + 2 = o + 1 + 1 * 6 + 2 by omega]
    exact hc
set_option maxHeartbeats 4000000 in
set_option maxRecDepth 100000 in
theorem jknown_true (w : World) (h : JT w) : Calls Tryd.prog 10 #[] w fun e w' => e = .returned (.bool true) ∧ Below w.heap.size w w' := by
  have HJ := Lib.hid h
  have HD := Lib.hid (dec_is ⟨#[123, 34, 97, 34, 58, 91, 49, 44, 110, 117, 108, 108, 93, 44, 34, 98, 34, 58, 34, 120, 92, 92, 121, 34, 125]⟩ jk w h (by decide) jk_is)
  clear h
  go_enter Tryd.func10, Tryd.ntmps10
  go_wp2_with (first
    | (go_at_call 12; (with_reducible refine HD.out.mono ?_); rintro e w1 ⟨BL, dL, BO, dO, rfl, hL, hO, hb⟩; obtain ⟨b, o, c, eO, hc, hx, hbl⟩ := jk_cells hO; rw [eO] at hO ⊢; have H1 := Lib.hid (And.intro hb (And.intro hL (And.intro hO hbl))); clear hb hL hO eO)
    | (go_at_call 11; ((with_reducible refine (enc_is (fun _ => True) _ jk _ (HJ.out.below (below_new H1.out.1 _)) (val_here H1.out.2.1 H1.out.2.2.1) jk_posN jk_sound jk_fits).mono ?_); rintro e w2 ⟨he, hb⟩; rw [jk_enc] at he; subst he; have H2 := Lib.hid (And.intro (below_then H1.out.1 hb) (And.intro ((Whole.new w1 31 #[.int .u8 jk.kind, .int .i64 jk.num, .string jk.str, .slice BL jk.items.length dL, .slice (some ⟨b, o, none⟩) 2 c]).below hb (by simp)) ((hb.cell (p := ⟨b, o + 6 + 1 + 2, none⟩) (by have := H1.out.2.2.2; simp; omega)).trans (cell_alloc _ hx)))); clear hb))
    | (go_at_call 12; (with_reducible refine (dec_isnot _ _ (HJ.out.below H2.out.1) (by decide) jbad_isnot).mono ?_); rintro e w3 ⟨rfl, hb⟩; have hw := H2.out.2.1.below hb H2.out.2.1.lt; have hc4 := fun o => cell_alloc o ((hw.cell 4).trans rfl); have hx3 := fun o' => cell_alloc o' ((hb.cell (p := ⟨b, o + 6 + 1 + 2, none⟩) (World.block_lt_of_cell? _ _ H2.out.2.2)).trans H2.out.2.2); have H3 := Lib.hid (below_next H2.out.1 hb); clear hb hw))
  go_ret
  exact ⟨rfl, below_new H3.out _⟩
end Go.Proofs.YtmmjkhkcffgeiaaDoor

/- Each value is the same as itself. -/
namespace Go.Proofs.YtmmjkhkcffgeiaaDoor
open Go Go.RowKit

mutual
theorem same_refl : ∀ (g : GV), g.Same g
  | .mk k n s l ks ov => by
    simp only [GV.Same, GV.items, GV.vals]
    exact ⟨⟨rfl, rfl, rfl, rfl, rfl⟩, sames_refl l, sames_refl ov⟩
theorem sames_refl : ∀ (l : List GV), GV.Sames l l
  | [] => by simp [GV.Sames]
  | x :: r => by simp only [GV.Sames]; exact ⟨same_refl x, sames_refl r⟩
end
end Go.Proofs.YtmmjkhkcffgeiaaDoor

/- JsonOnly returns true. -/
namespace Go.Proofs.YtmmjkhkcffgeiaaDoor
open Go Go.RowKit Go.Shelf
set_option linter.unusedVariables false
set_option linter.unusedSimpArgs false

mutual
theorem rs_posN : ∀ (g : GV), g.RS → g.PosN
  | .mk k n s l ks ov, h => by
    simp only [GV.RS] at h
    obtain ⟨⟨h1, h2, _⟩, hl, ho⟩ := h
    simp only [GV.PosN]
    exact ⟨⟨by omega, by omega, by omega⟩, rss_posNs l hl, rss_posNs ov ho⟩
theorem rss_posNs : ∀ (l : List GV), GV.RSs l → GV.PosNs l
  | [], _ => by simp [GV.PosNs]
  | g :: r, h => by
    simp only [GV.RSs] at h
    simp only [GV.PosNs]
    exact ⟨rs_posN g h.1, rss_posNs r h.2⟩
end
def noJ : GV := .mk 0 0 ⟨#[]⟩ [] [] []
theorem noJ_val (W : World) : noJ.val (fun _ => True) W (.agg #[.int .u8 0, .int .i64 0, .string ⟨#[]⟩, .slice none 0 0, .slice none 0 0]) := ⟨_, _, rfl, .inl ⟨rfl, rfl⟩, rfl, .inl ⟨rfl, rfl⟩⟩
/-- Same of one value with itself. -/
def TrueOut (w : World) (e : Ending) (w' : World) : Prop := e = .returned (.bool true) ∧ Below w.heap.size w w'
theorem same_is (ok : Nat → Prop) (v v' : Value) (g : GV) (w : World) (hv : g.val ok w v) (hv' : g.val ok w v') (hg : g.size ≤ 1000000000) : Calls Tryd.prog 17 #[v, v'] w (TrueOut w) :=
  (ref_Same g.size ok v v' g g w (Nat.le_refl _) hv hv' hg hg).mono fun e w' hh => by
    obtain ⟨b, he, hb, hw⟩ := hh
    exact ⟨by rw [he, hb.2 (same_refl g)], hw⟩
theorem sound_is (ok : Nat → Prop) (v : Value) (g : GV) (w : World) (hv : g.val ok w v) (hw : g.weight ≤ 1000000000) (hp : g.Pos) (hT : Tabs w) (hs : g.Sound) : Calls Tryd.prog 18 #[v] w (TrueOut w) :=
  (ref_Sound g.size ok v g w (Nat.le_refl _) hv hw hp hT).mono fun e w' hh => by
    obtain ⟨b, he, hb, hb2⟩ := hh
    exact ⟨by rw [he, hb.2 hs], hb2⟩

set_option maxHeartbeats 4000000 in
set_option maxRecDepth 100000 in
theorem jonly_great (s : ByteArray) (w : World) (h : JT w) (hs : 3000 < s.size) : Calls Tryd.prog 6 #[.string s] w (TrueOut w) := by
  have h1 : decide ((3000 : Int) < (s.size : Int)) = true := by simp; omega
  have HK := Lib.hid (jknown_true w h)
  clear h hs
  go_enter Tryd.func6, Tryd.ntmps6
  go_wp2_with (go_at_call 10; refine HK.out.mono ?_; rintro e w1 ⟨rfl, hb⟩)
  go_ret
  exact ⟨rfl, hb⟩
set_option maxHeartbeats 4000000 in
set_option maxRecDepth 100000 in
theorem jonly_no (s : ByteArray) (w : World) (h : JT w) (hs : s.size ≤ 3000) (hn : ¬ ∃ g, Is s g) : Calls Tryd.prog 6 #[.string s] w (TrueOut w) := by
  have h1 : decide ((3000 : Int) < (s.size : Int)) = false := by simp; omega
  have HK := Lib.hid (jknown_true w h)
  have HJ := Lib.hid h
  have HD := Lib.hid (fun w1 (h1 : JT w1) => dec_isnot s w1 h1 (by omega) hn)
  clear h hs hn
  go_enter Tryd.func6, Tryd.ntmps6
  go_wp2_with (first
    | (go_at_call 10; (with_reducible refine HK.out.mono ?_); rintro e w1 ⟨rfl, hb⟩; have H1 := Lib.hid hb; clear hb)
    | (go_at_call 12; (with_reducible refine (HD.out _ (HJ.out.below H1.out)).mono ?_); rintro e w2 ⟨rfl, hb⟩; have H2 := Lib.hid (below_next H1.out hb); clear hb)
    | (go_at_call 17; (with_reducible refine (same_is _ _ _ noJ _ (noJ_val _) (noJ_val _) (by decide)).mono ?_); rintro e w3 ⟨rfl, hb⟩; have H3 := Lib.hid (below_then H2.out hb); clear hb))
  go_ret
  exact ⟨rfl, H3.out⟩
set_option maxHeartbeats 4000000 in
set_option maxRecDepth 100000 in
theorem jonly_yes (s : ByteArray) (w : World) (h : JT w) (hs : s.size ≤ 3000) (g : GV) (hg : Is s g) : Calls Tryd.prog 6 #[.string s] w (TrueOut w) := by
  have h1 : decide ((3000 : Int) < (s.size : Int)) = false := by simp; omega
  have hst := is_text hg
  have HK := Lib.hid (jknown_true w h)
  have HJ := Lib.hid h
  have HD := Lib.hid (fun w1 (h1 : JT w1) => dec_is s g w1 h1 (by omega) hg)
  have hp := rs_posN g hg.1.1
  have HG := Lib.hid (And.intro hp (And.intro hg.2.1 (And.intro hg.2.2 (And.intro (posN_pos g hp) (show g.weight ≤ 1000000000 by have := hg.2.2.2; omega)))))
  have HST := Lib.hid hst
  clear h hs hg hp hst
  go_enter Tryd.func6, Tryd.ntmps6
  go_wp2_with (first
    | (go_at_call 10; (with_reducible refine HK.out.mono ?_); rintro e w1 ⟨rfl, hb⟩; have H1 := Lib.hid hb; clear hb)
    | (go_at_call 12; (with_reducible refine (HD.out _ (HJ.out.below H1.out)).mono ?_); rintro e w2 ⟨BL, dL, BO, dO, rfl, hL, hO, hb⟩; have H2 := Lib.hid (And.intro (below_next H1.out hb) (And.intro hL hO)); clear hb hL hO)
    | (go_at_call 11; go_loud ((with_reducible refine (enc_is (fun _ => True) _ g _ (HJ.out.below (below_new H2.out.1 _)) (val_here H2.out.2.1 H2.out.2.2) HG.out.1 HG.out.2.1 HG.out.2.2.1).mono ?_); rintro e w3 ⟨he, hb⟩; rw [← HST.out] at he; subst he; have hx := (Whole.new w2 31 #[.int .u8 g.kind, .int .i64 g.num, .string g.str, .slice BL g.items.length dL, .slice BO g.vals.length dO]).below hb (by simp); obtain ⟨b0, b1, b2, b3, b4, _⟩ := hx.five; have H3 := Lib.hid (And.intro (below_then H2.out.1 hb) hb); clear hb hx))
    | (go_at_call 18; go_loud ((with_reducible refine (sound_is (fun _ => True) _ g _ (val_later (val_here H2.out.2.1 H2.out.2.2) H3.out.2) HG.out.2.2.2.2 HG.out.2.2.2.1 (HJ.out.below H3.out.1).tabs HG.out.2.1).mono ?_); rintro e w4 ⟨rfl, hb⟩; have H4 := Lib.hid (below_next H3.out.1 hb); clear hb)))
  go_ret
  exact ⟨rfl, H4.out⟩
theorem jonly_true (s : ByteArray) (w : World) (h : JT w) : Calls Tryd.prog 6 #[.string s] w (TrueOut w) := by
  by_cases hs : s.size ≤ 3000
  · rcases Classical.em (∃ g, Is s g) with ⟨g, hg⟩ | hn
    · exact jonly_yes s w h hs g hg
    · exact jonly_no s w h hs hn
  · exact jonly_great s w h (by omega)
theorem jonly_row (hi : Nat) (s : ByteArray) (w : World) (_ : hi ≤ w.heap.size) (_ : s.size ≤ 140737488351232) (h : JT w) : Calls Tryd.prog 6 #[.string s] w (TrueOut w) := jonly_true s w h
end Go.Proofs.YtmmjkhkcffgeiaaDoor

/- heavy, of layer 2: what is looked at. -/
namespace Go.Proofs.YtmmjkhkcffgeiaaDoor
open Go Go.RowKit

set_option maxHeartbeats 1000000 in
theorem heavyj_small (hi : Nat) (A : Option Addr) (cap : Nat) (ts : List GTok) (w : World) (hT : Toks hi w A ts) (h2 : ts.length ≤ 200) (hs : ∀ t ∈ ts, t.s.size ≤ 140737488351232) :
    Calls Tryd.prog 13 #[.slice A ts.length cap] w (HeavyPost ts w) := by
  go_enter Tryd.func13, Tryd.ntmps13
  go_wp2
  go_loop [3, 4] (HeavyRel ts) (fun _ i => ts.length - (intOf i).toNat)
  case atStart => exact ⟨0, 0, Nat.zero_le _, rfl, rfl, fun _ => by simp [tot]⟩
  case round =>
    obtain ⟨k, z, hk, rfl, rfl, hz⟩ := hrel
    have hz' := hz h2
    clear hz
    by_cases hlt : k < ts.length
    · obtain ⟨⟨ab, ao, _⟩, rfl, rfl, hl, hc⟩ := hT (by intro e; simp [e] at hlt)
      have hc2 := (hc k ts[k] (List.getElem?_eq_getElem hlt)).2.2.1
      simp only at hc2
      have hsz := hs ts[k] (List.getElem_mem hlt)
      have HT := Lib.hid (tot_take ts k hlt)
      have hb : tot (ts.take k) ≤ 200 * 140737488351233 := by
        refine Nat.le_trans (tot_bound (ts.take k) 140737488351232 fun t ht => hs t (List.mem_of_mem_take ht)) ?_
        have : (ts.take k).length ≤ 200 := by simp; omega
        exact Nat.mul_le_mul_right _ this
      have HZ := Lib.hid hz'
      have hz1 : 0 ≤ z := by omega
      have hz2 : z ≤ 28147497670246600 := by omega
      clear hz' hs hc hb hl
      generalize ts[k].s = sk at *
      go_wp2
      go_round
      case rel => exact ⟨k + 1, _, by omega, by go_num, rfl, fun _ => by rw [HT.out, HZ.out]; push_cast; omega⟩
      case measure => simp [intOf]; omega
    · have hk' : k = ts.length := by omega
      have ht : tot (ts.take k) = tot ts := by rw [List.take_of_length_le (by omega)]
      have HZ := Lib.hid hz'
      have HT := Lib.hid ht
      clear hz' ht
      have HK := Lib.hid hk'
      clear hk'
      go_wp2
      all_goals go_ret
      all_goals exact ⟨_, rfl, rfl, fun hb => by
        simp only [Bool.or_eq_false_iff, decide_eq_false_iff_not] at hb
        have e1 := HZ.out
        rw [HT.out] at e1
        omega⟩

set_option maxHeartbeats 1000000 in
theorem heavyj_great (hi : Nat) (A : Option Addr) (cap : Nat) (ts : List GTok) (w : World) (hT : Toks hi w A ts) (h2 : 200 < ts.length) (hm : ts.length ≤ maxLen) (hs : ∀ t ∈ ts, t.s.size ≤ 140737488351232) :
    Calls Tryd.prog 13 #[.slice A ts.length cap] w (HeavyPost ts w) := by
  unfold maxLen at hm
  go_enter Tryd.func13, Tryd.ntmps13
  go_wp2
  go_loop [3, 4] (HeavyRel ts) (fun _ i => ts.length - (intOf i).toNat)
  case atStart => exact ⟨0, 0, Nat.zero_le _, rfl, rfl, fun _ => by simp [tot]⟩
  case round =>
    obtain ⟨k, z, hk, rfl, rfl, _⟩ := hrel
    by_cases hlt : k < ts.length
    · obtain ⟨⟨ab, ao, _⟩, rfl, rfl, hl, hc⟩ := hT (by intro e; simp [e] at hlt)
      have hc2 := (hc k ts[k] (List.getElem?_eq_getElem hlt)).2.2.1
      simp only at hc2
      have hsz := hs ts[k] (List.getElem_mem hlt)
      clear hs hc hl
      generalize ts[k].s = sk at *
      go_wp2
      go_round
      case rel => exact ⟨k + 1, _, by omega, by go_num, rfl, fun h => absurd h (by omega)⟩
      case measure => simp [intOf]; omega
    · go_wp2
      all_goals go_ret
      all_goals exact ⟨_, rfl, rfl, fun hb => by simp at hb <;> omega⟩

theorem heavyj_any (hi : Nat) (A : Option Addr) (cap : Nat) (ts : List GTok) (w : World) (hT : Toks hi w A ts) (hm : ts.length ≤ maxLen) (hs : ∀ t ∈ ts, t.s.size ≤ 140737488351232) :
    Calls Tryd.prog 13 #[.slice A ts.length cap] w (HeavyPost ts w) := by
  by_cases h2 : ts.length ≤ 200
  · exact heavyj_small hi A cap ts w hT h2 hs
  · exact heavyj_great hi A cap ts w hT (by omega) hm hs
end Go.Proofs.YtmmjkhkcffgeiaaDoor

/- What Build makes has a text. -/
namespace Go.Proofs.YtmmjkhkcffgeiaaDoor
open Go Go.RowKit Go.Shelf
set_option linter.unusedVariables false
set_option linter.unusedSimpArgs false

theorem encL_six : ∀ (t : List UInt8), (encL t).length ≤ 6 * t.length
  | [] => by simp [encL]
  | c :: t => by
    have := encL_six t
    rw [encL_cons, List.length_append, List.length_cons]
    have hc : (encLetter c).length ≤ 6 := by unfold encLetter; split <;> (try split) <;> simp
    omega
mutual
theorem enc_mass : ∀ (g : GV), g.RS → g.enc.length + 4 ≤ 6 * g.mass
  | .mk k n s l ks ov, hg => by
    simp only [GV.RS] at hg
    obtain ⟨⟨h1, h2, h3, h4, h5, h6⟩, hl, ho⟩ := hg
    have e1 := encs_mass l true hl
    have e2 := encFs_mass ov ks true ho h6
    have e3 := encL_six s.data.toList
    have e4 : s.data.toList.length = s.size := by simp
    rw [GV.mass]
    rcases h1 with rfl | rfl | rfl | rfl | rfl | rfl
    · rw [enc_0]; simp; omega
    · rw [enc_1]
      split <;> (simp; omega)
    · rw [enc_2]
      have : (Lib.itoa n).length ≤ 20 := by
        rcases h2 with h | rfl | h
        · exact itoa_len h.2.1 h.2.2
        · exact itoa_len (by decide) (by decide)
        · omega
      omega
    · rw [enc_3]
      simp only [encText, List.length_cons, List.length_append, List.length_nil]
      omega
    · rw [enc_4]
      simp only [List.length_cons, List.length_append, List.length_nil]
      omega
    · rw [enc_5]
      simp only [List.length_cons, List.length_append, List.length_nil]
      omega
theorem encs_mass : ∀ (l : List GV) (b : Bool), GV.RSs l → (GV.encs b l).length ≤ 6 * GV.masses l
  | [], b, _ => by simp [encs_nil]
  | g :: r, b, h => by
    simp only [GV.RSs] at h
    have h1 := enc_mass g h.1
    have h2 := encs_mass r false h.2
    rw [encs_cons, GV.masses, List.length_append, List.length_append]
    cases b <;> simp <;> omega
theorem encFs_mass : ∀ (l : List GV) (ks : List ByteArray) (b : Bool), GV.RSs l → ks.length = l.length → (GV.encFs b ks l).length ≤ 6 * ((ks.map (·.size)).sum + GV.masses l)
  | [], ks, b, _, _ => by simp [encFs_nil]
  | g :: r, [], b, _, hk => by simp at hk
  | g :: r, k :: ks, b, h, hk => by
    simp only [GV.RSs] at h
    have h1 := enc_mass g h.1
    have h2 := encFs_mass r ks false h.2 (by simpa using hk)
    have h3 := encL_six k.data.toList
    have h4 : k.data.toList.length = k.size := by simp
    rw [encFs_cons, GV.masses]
    simp only [encText, List.length_append, List.length_cons, List.length_nil, List.map_cons, List.sum_cons]
    cases b <;> simp <;> omega
end
/-- A value that has a text, of some length. -/
structure JV (g : GV) : Prop where
  rs : g.RS
  snd : g.Sound
  deep : g.deep ≤ 6
  posN : g.PosN
  mass : g.mass ≤ 6000
theorem JV.fits {g : GV} (h : JV g) : Fits g := ⟨by have := h.deep; omega, by have := h.mass; have := weight_mass g; omega⟩
theorem JV.is {g : GV} (h : JV g) : Is ⟨g.enc.toArray⟩ g := is_enc h.rs h.snd h.fits
theorem JV.long {g : GV} (h : JV g) : g.enc.length ≤ 36000 := by have := enc_mass g h.rs; have := h.mass; omega
theorem JV.small {g : GV} (h : JV g) : (⟨g.enc.toArray⟩ : ByteArray).size ≤ 60000 := by
  have := h.long
  show g.enc.toArray.size ≤ 60000
  simp; omega
theorem JV.sizeG {g : GV} (h : JV g) : g.size ≤ 1000000000 := by have := size_le_weight g; have := weight_mass g; have := h.mass; omega
def JBuild (w : World) (e : Ending) (w' : World) : Prop :=
  ∃ g BL dL BO dO, e = .returned (.agg #[.int .u8 g.kind, .int .i64 g.num, .string g.str, .slice BL g.items.length dL, .slice BO g.vals.length dO]) ∧ LstV (fun k => w.heap.size ≤ k) w' (.slice BL g.items.length dL) g.items ∧ ObjV (fun k => w.heap.size ≤ k) w' (.slice BO g.vals.length dO) g.keys g.vals ∧ JV g ∧ Below w.heap.size w w'
theorem build_j (hi : Nat) (A : Option Addr) (cap : Nat) (ts : List GTok) (w W : World) (hcap : ts.length ≤ cap) (hm : cap ≤ maxLen) (hhi : hi ≤ w.heap.size) (hT : Toks hi w A ts)
    (hr : ∀ t ∈ ts, 0 ≤ t.k ∧ t.k ≤ 255 ∧ 0 ≤ t.m ∧ t.m ≤ 255) (hss : ∀ t ∈ ts, t.s.size ≤ 140737488351232) (hb : Below w.heap.size w W) :
    Calls Tryd.prog 16 #[.slice A ts.length cap] W (JBuild W) := by
  refine (Build_lenM hi A cap ts W hcap hm (Nat.le_trans hhi hb.size) (hT.keep (hb.mono hhi) (Nat.le_refl _)) hr hss).mono fun e w' hh => ?_
  obtain ⟨g, v, he, hv, hg, hw, hb2⟩ := hh
  have hrs := rs_of_val hv hg.1 hg.2.2.1
  obtain ⟨L, O, rfl, hL, hO⟩ := hv
  obtain ⟨BL, dL, rfl⟩ := lst_form hL
  obtain ⟨BO, dO, rfl⟩ := obj_form hO
  exact ⟨g, BL, dL, BO, dO, he, hL, hO, ⟨hrs, hg.1, by have := hg.2.1; omega, hg.2.2.1, hw⟩, hb2⟩
end Go.Proofs.YtmmjkhkcffgeiaaDoor
