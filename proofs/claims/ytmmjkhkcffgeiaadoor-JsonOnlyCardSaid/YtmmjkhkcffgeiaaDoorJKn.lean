/- The statements' own example of layer 2. -/
import Derived.Test.YtmmjkhkcffgeiaaDoorJLaw
namespace Go.Proofs.YtmmjkhkcffgeiaaDoor
open Go Go.RowKit Go.Shelf
set_option linter.unusedVariables false
set_option linter.unusedSimpArgs false

def jk : GV := .mk 5 0 ⟨#[]⟩ [] [⟨#[97]⟩, ⟨#[98]⟩] [.mk 4 0 ⟨#[]⟩ [.mk 2 1 ⟨#[]⟩ [] [] [], .mk 0 0 ⟨#[]⟩ [] [] []] [] [], .mk 3 0 ⟨#[120, 92, 121]⟩ [] [] []]
def jbad : GV := .mk 5 0 ⟨#[]⟩ [] [⟨#[98]⟩, ⟨#[97]⟩] [.mk 2 1 ⟨#[]⟩ [] [] [], .mk 2 1 ⟨#[]⟩ [] [] []]
theorem itoa1 : Lib.itoa 1 = [49] := by decide +kernel
theorem encAB : encText [97] = [34, 97, 34] ∧ encText [98] = [34, 98, 34] ∧ encText [120, 92, 121] = [34, 120, 92, 92, 121, 34] := by decide
theorem jk_enc : jk.enc = [123, 34, 97, 34, 58, 91, 49, 44, 110, 117, 108, 108, 93, 44, 34, 98, 34, 58, 34, 120, 92, 92, 121, 34, 125] := by
  simp only [jk, enc_5, encFs_cons, encFs_nil, enc_4, encs_cons, encs_nil, enc_2, enc_0, enc_3, itoa1, encAB]
  decide
theorem jbad_enc : jbad.enc = [123, 34, 98, 34, 58, 49, 44, 34, 97, 34, 58, 49, 125] := by
  simp only [jbad, enc_5, encFs_cons, encFs_nil, enc_2, itoa1, encAB]
  decide
theorem jk_rs : jk.RS := by simp [jk, GV.RS, GV.RSs, RSelf]
theorem jbad_rs : jbad.RS := by simp [jbad, GV.RS, GV.RSs, RSelf]
theorem jk_posN : jk.PosN := by simp [jk, GV.PosN, GV.PosNs]
theorem jk_fits : Fits jk := by
  unfold Fits
  simp [jk, GV.deep, GV.deeps, GV.weight, GV.weights]
  decide
theorem keysAB : KeysOk [⟨#[97]⟩, ⟨#[98]⟩] := by
  have h0 : valid ⟨#[97]⟩ = true := by decide +kernel
  have h1 : valid ⟨#[98]⟩ = true := by decide +kernel
  have h2 : less' ⟨#[97]⟩ ⟨#[98]⟩ = true := by decide +kernel
  intro i k hi hk
  match i, hi with
  | 0, _ => simp at hk; subst hk; exact ⟨h0, fun j p hj => by omega⟩
  | 1, _ => simp at hk; subst hk; exact ⟨h1, fun j p hj hp => by have : j = 0 := by omega
                                                                 subst this; simp at hp; subst hp; exact h2⟩
theorem keysBA : ¬ KeysOk [⟨#[98]⟩, ⟨#[97]⟩] := fun h => by
  have h2 : less' ⟨#[98]⟩ ⟨#[97]⟩ = false := by decide +kernel
  have := (h 1 ⟨#[97]⟩ (by decide) rfl).2 0 ⟨#[98]⟩ rfl rfl
  rw [h2] at this
  cases this
theorem jk_sound : jk.Sound := by
  have h0 : (⟨#[]⟩ : ByteArray).toList = [] := by decide +kernel
  have h1 : valid ⟨#[120, 92, 121]⟩ = true := by decide +kernel
  simp [jk, GV.Sound, GV.Sounds, SelfP, h0, h1, keysAB]
theorem jbad_not : ¬ jbad.Sound := by
  simp [jbad, GV.Sound, GV.Sounds, SelfP, keysBA]
theorem jk_is : Is ⟨#[123, 34, 97, 34, 58, 91, 49, 44, 110, 117, 108, 108, 93, 44, 34, 98, 34, 58, 34, 120, 92, 92, 121, 34, 125]⟩ jk := by
  have := is_enc jk_rs jk_sound jk_fits
  rwa [jk_enc] at this
theorem jbad_isnot : ¬ ∃ g, Is ⟨#[123, 34, 98, 34, 58, 49, 44, 34, 97, 34, 58, 49, 125]⟩ g := fun ⟨g, h, hs, _⟩ => by
  have h2 : VAt 16 (⟨#[123, 34, 98, 34, 58, 49, 44, 34, 97, 34, 58, 49, 125]⟩ : ByteArray).data.toList jbad [] := ⟨jbad_rs, by decide, by rw [jbad_enc]; rfl, fun _ c h => by cases h⟩
  exact jbad_not (by rw [← (vat_one h h2).1]; exact hs)
/-- The cells of the example that is read. -/
theorem jk_cells {ok : Nat → Prop} {W : World} {O : Value} (h : ObjV ok W O jk.keys jk.vals) : ∃ b o c, O = .slice (some ⟨b, o, none⟩) 2 c ∧ 2 ≤ c ∧ W.cell? ⟨b, o + 6 + 1 + 2, none⟩ = some (.string ⟨#[120, 92, 121]⟩) ∧ b < W.heap.size := by
  rcases h.2 with ⟨h1, _⟩ | ⟨b, o, c, rfl, h1, h2, hK, _, hE⟩
  · cases h1
  · refine ⟨b, o, c, rfl, h1, ?_, hK.lt⟩
    obtain ⟨L, O, _, _, hc, _⟩ := GV.at_iff.1 (GV.els_get (i := 1) hE rfl)
    rw [show o + 6 + 1 + 2 = o + 1 + 1 * 6 + 2 by omega]
    exact hc
set_option maxHeartbeats 4000000 in
set_option maxRecDepth 100000 in
theorem jknown_true (w : World) (h : JT w) : Calls Tryd.prog 10 #[] w fun e w' => e = .returned (.bool true) ∧ Below w.heap.size w w' := by
  have HJ := Lib.hid h
  have HD := Lib.hid (dec_is ⟨#[123, 34, 97, 34, 58, 91, 49, 44, 110, 117, 108, 108, 93, 44, 34, 98, 34, 58, 34, 120, 92, 92, 121, 34, 125]⟩ jk w h (by decide) jk_is)
  clear h
  go_enter Tryd.func10, Tryd.ntmps10
  go_wp2_with (first
    | (go_at_call 12; (with_reducible refine HD.out.mono ?_); rintro e w1 ⟨BL, dL, BO, dO, rfl, hL, hO, hb⟩; obtain ⟨b, o, c, eO, hc, hx, hbl⟩ := jk_cells hO; rw [eO] at hO ⊢; have H1 := Lib.hid (And.intro hb (And.intro hL (And.intro hO hbl))); clear hb hL hO eO)
    | (go_at_call 11; ((with_reducible refine (enc_is (fun _ => True) _ jk _ (HJ.out.below (below_new H1.out.1 _)) (val_here H1.out.2.1 H1.out.2.2.1) jk_posN jk_sound jk_fits).mono ?_); rintro e w2 ⟨he, hb⟩; rw [jk_enc] at he; subst he; have H2 := Lib.hid (And.intro (below_then H1.out.1 hb) (And.intro ((Whole.new w1 31 #[.int .u8 jk.kind, .int .i64 jk.num, .string jk.str, .slice BL jk.items.length dL, .slice (some ⟨b, o, none⟩) 2 c]).below hb (by simp)) ((hb.cell (p := ⟨b, o + 6 + 1 + 2, none⟩) (by have := H1.out.2.2.2; simp; omega)).trans (cell_alloc _ hx)))); clear hb))
    | (go_at_call 12; (with_reducible refine (dec_isnot _ _ (HJ.out.below H2.out.1) (by decide) jbad_isnot).mono ?_); rintro e w3 ⟨rfl, hb⟩; have hw := H2.out.2.1.below hb H2.out.2.1.lt; have hc4 := fun o => cell_alloc o ((hw.cell 4).trans rfl); have hx3 := fun o' => cell_alloc o' ((hb.cell (p := ⟨b, o + 6 + 1 + 2, none⟩) (World.block_lt_of_cell? _ _ H2.out.2.2)).trans H2.out.2.2); have H3 := Lib.hid (below_next H2.out.1 hb); clear hb hw))
  go_ret
  exact ⟨rfl, below_new H3.out _⟩
end Go.Proofs.YtmmjkhkcffgeiaaDoor
