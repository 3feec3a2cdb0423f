/- The statements' example: that it holds. -/
import Derived.Test.YtjknicljbmakeaaDoorCopy
import Derived.Test.YtjknicljbmakeaaDoorSame
import Derived.Test.YtjknicljbmakeaaDoorSound
import Derived.Test.YtjknicljbmakeaaDoorDeep
import Derived.Test.YtjknicljbmakeaaDoorField
namespace Go.Proofs.YtjknicljbmakeaaDoor
open Go Go.RowKit

/-- The example's value. -/
def gk : GV := .mk 4 0 ⟨#[]⟩ [.mk 2 1 ⟨#[]⟩ [] [] [], .mk 3 0 ⟨#[97, 98]⟩ [] [] []] [] []
def gone : GV := .mk 0 1 ⟨#[]⟩ [] [] []
def gfld : GV := .mk 5 0 ⟨#[]⟩ [] [⟨#[98]⟩] [.mk 0 0 ⟨#[]⟩ [] [] []]
def Row10 : Array Value := #[.int .u8 2, .int .i64 1, .string ⟨#[]⟩, .slice none 0 0, .slice none 0 0, .int .u8 3, .int .i64 0, .string ⟨#[97, 98]⟩, .slice none 0 0, .slice none 0 0]
def Row6 : Array Value := #[.string ⟨#[98]⟩, .int .u8 0, .int .i64 0, .string ⟨#[]⟩, .slice none 0 0, .slice none 0 0]

theorem gk_val {W : World} {b : Nat} (h : Whole W b 28 Row10) : gk.val (fun _ => True) W (.agg #[.int .u8 4, .int .i64 0, .string ⟨#[]⟩, .slice (some ⟨b, 0, none⟩) 2 2, .slice none 0 0]) := by
  have hc : ∀ (j : Nat) (u : Value), Row10.toList[j]? = some u → W.cell? ⟨b, 0 + j, none⟩ = some u := fun j u hu => by rw [Nat.zero_add, h.cell]; simpa using hu
  exact ⟨_, _, rfl, .inr ⟨b, 0, 2, rfl, Nat.le_refl _, by decide, h.kind trivial, RowL.els (xs := Row10.toList) ⟨_, _, _, rfl, .inl ⟨rfl, rfl⟩, ⟨rfl, .inl ⟨rfl, rfl⟩⟩, _, _, _, rfl, .inl ⟨rfl, rfl⟩, ⟨rfl, .inl ⟨rfl, rfl⟩⟩, rfl⟩ hc⟩, rfl, .inl ⟨rfl, rfl⟩⟩
theorem gone_val {W : World} : gone.val (fun _ => True) W (.agg #[.int .u8 0, .int .i64 1, .string ⟨#[]⟩, .slice none 0 0, .slice none 0 0]) :=
  ⟨_, _, rfl, .inl ⟨rfl, rfl⟩, rfl, .inl ⟨rfl, rfl⟩⟩
theorem gfld_val {W : World} {b : Nat} (h : Whole W b 36 Row6) : gfld.val (fun _ => True) W (.agg #[.int .u8 5, .int .i64 0, .string ⟨#[]⟩, .slice none 0 0, .slice (some ⟨b, 0, none⟩) 1 1]) := by
  have hc : ∀ (j : Nat) (u : Value), Row6.toList[j]? = some u → W.cell? ⟨b, 0 + j, none⟩ = some u := fun j u hu => by rw [Nat.zero_add, h.cell]; simpa using hu
  have h1 := RowO.els (ok := fun _ => True) (W := W) (b := b) (ks := gfld.keys) (ov := gfld.vals) (xs := Row6.toList) (off := 0) ⟨_, _, _, rfl, .inl ⟨rfl, rfl⟩, ⟨rfl, .inl ⟨rfl, rfl⟩⟩, rfl⟩ hc
  exact ⟨_, _, rfl, .inl ⟨rfl, rfl⟩, rfl, .inr ⟨b, 0, 1, rfl, Nat.le_refl _, by decide, h.kind trivial, h1.1, h1.2⟩⟩
theorem gk_weight : (gk.weight : Int) = 5 := by decide
theorem gk_deep : (gk.deep : Int) = 1 := by decide
theorem gk_sound : gk.Sound := by
  have h0 : (⟨#[]⟩ : ByteArray).toList = [] := by decide +kernel
  have h1 : valid ⟨#[97, 98]⟩ = true := by decide +kernel
  simp [gk, GV.Sound, GV.Sounds, SelfP, h0, h1]
theorem gone_not : ¬ gone.Sound := by
  simp [gone, GV.Sound, GV.Sounds, SelfP]
theorem gk_same : gk.Same gk := by
  simp [gk, GV.Same, GV.Sames, SameSelf, GV.kind, GV.num, GV.str, GV.items, GV.keys]
theorem fld_place : (place ⟨#[98]⟩ gfld.keys : Int) = 0 := by decide +kernel
theorem fld_there : there ⟨#[98]⟩ gfld.keys = true := by decide +kernel

def TrueBelow (w : World) (e : Ending) (w' : World) : Prop := e = .returned (.bool true) ∧ Below w.heap.size w w'

/-- What lies there, once the copy is made. -/
structure KW (w : World) (n0 n2 : Nat) (A : Option Addr) (c : Nat) (A' : Option Addr) (c' : Nat) (W : World) : Prop where
  row : Whole W n0 28 Row10
  box : Whole W (n0 + 1) 28 #[.int .u8 4, .int .i64 0, .string ⟨#[]⟩, .slice (some ⟨n0, 0, none⟩) 2 2, .slice none 0 0]
  copy : Whole W n2 28 #[.int .u8 4, .int .i64 0, .string ⟨#[]⟩, .slice A 2 c, .slice A' 0 c']
  val : gk.val (fun _ => True) W (.agg #[.int .u8 4, .int .i64 0, .string ⟨#[]⟩, .slice A 2 c, .slice A' 0 c'])
  below : Below n0 w W
  tabs : Tabs W
theorem KW.next {w W W' : World} {n0 n2 : Nat} {A : Option Addr} {c : Nat} {A' : Option Addr} {c' : Nat} (h : KW w n0 n2 A c A' c' W) (hb : Below W.heap.size W W') : KW w n0 n2 A c A' c' W' :=
  ⟨h.row.below hb h.row.lt, h.box.below hb h.box.lt, h.copy.below hb h.copy.lt, GV.val_keep (From.of_below hb) (fun _ _ _ => trivial) h.val, h.below.trans (hb.mono (Nat.le_of_lt h.row.lt)), h.tabs.below hb (Nat.le_refl _)⟩


theorem kw_start {w Wa Wb : World} {A : Option Addr} {c : Nat} {A' : Option Addr} {c' : Nat} (hT : Tabs w) (hv : gk.val (fun _ => True) Wa (.agg #[.int .u8 4, .int .i64 0, .string ⟨#[]⟩, .slice A 2 c, .slice A' 0 c']))
    (ha : Below ((w.alloc (.cells Row10 28)).alloc (.cells #[.int .u8 4, .int .i64 0, .string ⟨#[]⟩, .slice (some ⟨w.heap.size, 0, none⟩) 2 2, .slice none 0 0] 28)).heap.size ((w.alloc (.cells Row10 28)).alloc (.cells #[.int .u8 4, .int .i64 0, .string ⟨#[]⟩, .slice (some ⟨w.heap.size, 0, none⟩) 2 2, .slice none 0 0] 28)) Wa)
    (hb : Below ((Wa.alloc (.cells #[.int .u8 4, .int .i64 0, .string ⟨#[]⟩, .slice A 2 c, .slice A' 0 c'] 28)).alloc (.cells Row6 36)).heap.size ((Wa.alloc (.cells #[.int .u8 4, .int .i64 0, .string ⟨#[]⟩, .slice A 2 c, .slice A' 0 c'] 28)).alloc (.cells Row6 36)) Wb) :
    KW w w.heap.size Wa.heap.size A c A' c' Wb := by
  have h0 := (Whole.new w 28 Row10).alloc (.cells #[.int .u8 4, .int .i64 0, .string ⟨#[]⟩, .slice (some ⟨w.heap.size, 0, none⟩) 2 2, .slice none 0 0] 28)
  have h1 := Whole.new (w.alloc (.cells Row10 28)) 28 #[.int .u8 4, .int .i64 0, .string ⟨#[]⟩, .slice (some ⟨w.heap.size, 0, none⟩) 2 2, .slice none 0 0]
  rw [World.size_alloc] at h1
  have h2 := (Whole.new Wa 28 #[.int .u8 4, .int .i64 0, .string ⟨#[]⟩, .slice A 2 c, .slice A' 0 c']).alloc (.cells Row6 36)
  have hsz := ha.size
  simp only [World.size_alloc] at hsz
  have hba : Below w.heap.size w Wa := (((Below.refl _ w).alloc (Nat.le_refl _) _).alloc (by simp) _).trans (ha.mono (by simp; omega))
  have hbb : Below Wa.heap.size Wa Wb := (((Below.refl _ Wa).alloc (Nat.le_refl _) _).alloc (by simp) _).trans (hb.mono (by simp; omega))
  have k0 := h0.below ha h0.lt
  have k1 := h1.below ha h1.lt
  exact ⟨k0.below hbb k0.lt, k1.below hbb k1.lt, h2.below hb h2.lt, GV.val_keep (From.of_below hbb) (fun _ _ _ => trivial) hv, hba.trans (hbb.mono (by omega)), (hT.below hba (Nat.le_refl _)).below hbb (Nat.le_refl _)⟩

set_option maxRecDepth 100000 in
set_option maxHeartbeats 8000000 in
theorem known_true (w : World) (hT : Tabs w) : Calls Tryd.prog 17 #[] w (TrueBelow w) := by
  have hcopy : ∀ (W : World), Whole W w.heap.size 28 Row10 → Calls Tryd.prog 28 #[.agg #[.int .u8 4, .int .i64 0, .string ⟨#[]⟩, .slice (some ⟨w.heap.size, 0, none⟩) 2 2, .slice none 0 0]] W fun e w' => ∃ A c A' c', e = .returned (.agg #[.int .u8 4, .int .i64 0, .string ⟨#[]⟩, .slice A 2 c, .slice A' 0 c']) ∧ gk.val (fun _ => True) w' (.agg #[.int .u8 4, .int .i64 0, .string ⟨#[]⟩, .slice A 2 c, .slice A' 0 c']) ∧ Below W.heap.size W w' := fun W h =>
    (val_Copy _ _ gk W (gk_val h) (by have := gk_weight; omega)).mono fun e w' ⟨v', he, hv, hb⟩ => by
      obtain ⟨L, O, rfl, hL, hO⟩ := hv
      obtain ⟨A, c, rfl⟩ := lst_form hL
      obtain ⟨A', c', rfl⟩ := obj_form hO
      exact ⟨A, c, A', c', he, ⟨_, _, rfl, hL.keep (From.refl _ _) (fun _ _ _ => trivial), hO.keep (From.refl _ _) (fun _ _ _ => trivial)⟩, hb⟩
  have hfield : ∀ (W : World) (b : Nat), Whole W b 36 Row6 → Calls Tryd.prog 29 #[.agg #[.int .u8 5, .int .i64 0, .string ⟨#[]⟩, .slice none 0 0, .slice (some ⟨b, 0, none⟩) 1 1], .string ⟨#[98]⟩] W fun e w' => e = .returned (.tuple #[.int .i64 0, .bool true]) ∧ Below W.heap.size W w' := fun W b h =>
    (val_Field _ _ gfld ⟨#[98]⟩ W (gfld_val h)).mono fun e w' ⟨he, hb⟩ => by
      rw [fld_place, fld_there] at he
      exact ⟨he, hb⟩
  have HCOPY := Lib.hid hcopy
  have HFIELD := Lib.hid hfield
  clear hcopy hfield
  go_enter Tryd.func17, Tryd.ntmps17
  have hend : ∀ (n2 : Nat) (A : Option Addr) (c : Nat) (A' : Option Addr) (c' : Nat) (W : World), KW w w.heap.size n2 A c A' c' W →
      Calls Tryd.prog 22 #[.agg #[.int .u8 4, .int .i64 0, .string ⟨#[]⟩, .slice (some ⟨w.heap.size, 0, none⟩) 2 2, .slice none 0 0]] W (fun e w' => e = .returned (.int .i64 5) ∧ KW w w.heap.size n2 A c A' c' w') ∧
      Calls Tryd.prog 24 #[.agg #[.int .u8 4, .int .i64 0, .string ⟨#[]⟩, .slice (some ⟨w.heap.size, 0, none⟩) 2 2, .slice none 0 0]] W (fun e w' => e = .returned (.int .i64 1) ∧ KW w w.heap.size n2 A c A' c' w') ∧
      Calls Tryd.prog 20 #[.agg #[.int .u8 4, .int .i64 0, .string ⟨#[]⟩, .slice (some ⟨w.heap.size, 0, none⟩) 2 2, .slice none 0 0]] W (fun e w' => e = .returned (.bool true) ∧ KW w w.heap.size n2 A c A' c' w') ∧
      Calls Tryd.prog 20 #[.agg #[.int .u8 0, .int .i64 1, .string ⟨#[]⟩, .slice none 0 0, .slice none 0 0]] W (fun e w' => e = .returned (.bool false) ∧ KW w w.heap.size n2 A c A' c' w') ∧
      Calls Tryd.prog 27 #[.agg #[.int .u8 4, .int .i64 0, .string ⟨#[]⟩, .slice (some ⟨w.heap.size, 0, none⟩) 2 2, .slice none 0 0], .agg #[.int .u8 4, .int .i64 0, .string ⟨#[]⟩, .slice A 2 c, .slice A' 0 c']] W (fun e w' => e = .returned (.bool true) ∧ KW w w.heap.size n2 A c A' c' w') := fun n2 A c A' c' W h => by
    have hv := gk_val h.row
    have hsz : gk.weight ≤ 1000000000 := by have := gk_weight; omega
    have hs2 : gk.size ≤ 1000000000 := Nat.le_trans (size_le_weight gk) hsz
    refine ⟨(val_Weight _ _ gk W hv hsz).mono fun e w' ⟨he, hb⟩ => ⟨by rw [gk_weight] at he; exact he, h.next hb⟩, (val_Deep _ _ gk W hv hs2).mono fun e w' ⟨he, hb⟩ => ⟨by rw [gk_deep] at he; exact he, h.next hb⟩,
      (val_Sound _ _ gk W hv hsz h.tabs).mono fun e w' ⟨b, he, hb, hw⟩ => ⟨by rw [hb.2 gk_sound] at he; exact he, h.next hw⟩, (val_Sound _ _ gone W gone_val (by decide) h.tabs).mono fun e w' ⟨b, he, hb, hw⟩ => ⟨?_, h.next hw⟩,
      (val_Same _ _ _ gk gk W hv h.val hs2 hs2).mono fun e w' ⟨b, he, hb, hw⟩ => ⟨by rw [hb.2 gk_same] at he; exact he, h.next hw⟩⟩
    cases b with
    | false => exact he
    | true => exact absurd (hb.1 rfl) gone_not
  have HEND := Lib.hid hend
  clear hend
  have HT := Lib.hid hT
  clear hT
  go_wp2_with (first | (go_at_call 28; refine (HCOPY.out _ ((Whole.new _ _ _).alloc _)).mono ?_; rintro e Wa ⟨A, c, A', c', rfl, hv, hb⟩; have HA := Lib.hid (And.intro hv hb); clear hv hb) | (go_at_call 29; refine (HFIELD.out _ _ (by have h1 := Whole.new (Wa.alloc (.cells #[.int .u8 4, .int .i64 0, .string ⟨#[]⟩, .slice A 2 c, .slice A' 0 c'] 28)) 36 Row6; rw [World.size_alloc] at h1; exact h1)).mono ?_; rintro e Wb ⟨rfl, hb⟩; have hkw : KW w w.heap.size Wa.heap.size A c A' c' Wb := kw_start HT.out HA.out.1 HA.out.2 hb; have hK := Lib.hid hkw; clear hkw; have c0 := hK.out.box.five.c0; have c1 := hK.out.box.five.c1; have c2 := hK.out.box.five.c2; have c3 := hK.out.box.five.c3; have c4 := hK.out.box.five.c4) | (go_at_call 22; refine (HEND.out _ _ _ _ _ _ hK.out).1.mono ?_; rintro e W1 ⟨rfl, h1⟩; have hK1 := Lib.hid h1; clear h1; have d0 := hK1.out.box.five.c0; have d1 := hK1.out.box.five.c1; have d2 := hK1.out.box.five.c2; have d3 := hK1.out.box.five.c3; have d4 := hK1.out.box.five.c4) | (go_at_call 24; refine (HEND.out _ _ _ _ _ _ hK1.out).2.1.mono ?_; rintro e W2 ⟨rfl, h1⟩; have hK2 := Lib.hid h1; clear h1; have e0 := hK2.out.box.five.c0; have e1 := hK2.out.box.five.c1; have e2 := hK2.out.box.five.c2; have e3 := hK2.out.box.five.c3; have e4 := hK2.out.box.five.c4) | (go_at_call 27; refine (HEND.out _ _ _ _ _ _ hK4.out).2.2.2.2.mono ?_; rintro e W5 ⟨rfl, h1⟩; have hK5 := Lib.hid h1; clear h1; have y0 := hK5.out.copy.five.c0; have y1 := hK5.out.copy.five.c1; have y2 := hK5.out.copy.five.c2; have y3 := hK5.out.copy.five.c3; have y4 := hK5.out.copy.five.c4) | (go_at_call 20; refine (HEND.out _ _ _ _ _ _ hK3.out).2.2.2.1.mono ?_; rintro e W4 ⟨rfl, h1⟩; have hK4 := Lib.hid h1; clear h1; have f0 := hK4.out.box.five.c0; have f1 := hK4.out.box.five.c1; have f2 := hK4.out.box.five.c2; have f3 := hK4.out.box.five.c3; have f4 := hK4.out.box.five.c4; have g0 := hK4.out.copy.five.c0; have g1 := hK4.out.copy.five.c1; have g2 := hK4.out.copy.five.c2; have g3 := hK4.out.copy.five.c3; have g4 := hK4.out.copy.five.c4) | (go_at_call 20; refine (HEND.out _ _ _ _ _ _ hK2.out).2.2.1.mono ?_; rintro e W3 ⟨rfl, h1⟩; have hK3 := Lib.hid h1; clear h1) )
  refine bodyPost_ret (v := .bool true) (by simp [results, Tryd.results17, go_sem]) rfl ?_
  exact ⟨rfl, hK5.out.below⟩
end Go.Proofs.YtjknicljbmakeaaDoor
