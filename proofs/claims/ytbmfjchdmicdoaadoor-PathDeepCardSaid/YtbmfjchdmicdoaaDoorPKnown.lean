/- The example of the statements on paths: that it holds. -/
import Derived.Test.YtbmfjchdmicdoaaDoorGet
import Derived.Test.YtbmfjchdmicdoaaDoorPSound
namespace Go.Proofs.YtbmfjchdmicdoaaDoor
open Go Go.RowKit

def pg2 : GV := .mk 2 2 ⟨#[]⟩ [] [] []
def pgl : GV := .mk 4 0 ⟨#[]⟩ [.mk 2 1 ⟨#[]⟩ [] [] [], pg2] [] []
def pgv : GV := .mk 5 0 ⟨#[]⟩ [] [⟨#[97]⟩] [pgl]
def PRow10 : Array Value := #[.int .u8 2, .int .i64 1, .string ⟨#[]⟩, .slice none 0 0, .slice none 0 0, .int .u8 2, .int .i64 2, .string ⟨#[]⟩, .slice none 0 0, .slice none 0 0]
def PRow6 (n : Nat) : Array Value := #[.string ⟨#[97]⟩, .int .u8 4, .int .i64 0, .string ⟨#[]⟩, .slice (some ⟨n, 0, none⟩) 2 2, .slice none 0 0]
def pV (n : Nat) : Value := .agg #[.int .u8 5, .int .i64 0, .string ⟨#[]⟩, .slice none 0 0, .slice (some ⟨n + 1, 0, none⟩) 1 1]
def pWay (i : Int) : List GStep := [⟨false, 0, ⟨#[97]⟩⟩, ⟨true, i, ⟨#[]⟩⟩]
def PRowS (i : Int) : Array Value := #[.bool false, .int .i64 0, .string ⟨#[97]⟩, .bool true, .int .i64 i, .string ⟨#[]⟩]
def pOdd : List GStep := [⟨true, 0, ⟨#[97]⟩⟩]
def PRowO : Array Value := #[.bool true, .int .i64 0, .string ⟨#[97]⟩]

theorem pgv_val {W : World} {n : Nat} (h : Whole W n 29 PRow10) (h2 : Whole W (n + 1) 52 (PRow6 n)) : pgv.val (fun _ => True) W (pV n) := by
  have hc : ∀ (j : Nat) (u : Value), PRow10.toList[j]? = some u → W.cell? ⟨n, 0 + j, none⟩ = some u := fun j u hu => by rw [Nat.zero_add, h.cell]; simpa using hu
  have hc2 : ∀ (j : Nat) (u : Value), (PRow6 n).toList[j]? = some u → W.cell? ⟨n + 1, 0 + j, none⟩ = some u := fun j u hu => by rw [Nat.zero_add, h2.cell]; simpa using hu
  have hl : LstV (fun _ => True) W (.slice (some ⟨n, 0, none⟩) 2 2) pgl.items := .inr ⟨n, 0, 2, rfl, Nat.le_refl _, by decide, h.kind trivial, RowL.els (xs := PRow10.toList) ⟨_, _, _, rfl, .inl ⟨rfl, rfl⟩, ⟨rfl, .inl ⟨rfl, rfl⟩⟩, _, _, _, rfl, .inl ⟨rfl, rfl⟩, ⟨rfl, .inl ⟨rfl, rfl⟩⟩, rfl⟩ hc⟩
  have h1 := RowO.els (ok := fun _ => True) (W := W) (b := n + 1) (ks := pgv.keys) (ov := pgv.vals) (xs := (PRow6 n).toList) (off := 0) ⟨_, _, _, rfl, hl, ⟨rfl, .inl ⟨rfl, rfl⟩⟩, rfl⟩ hc2
  exact ⟨_, _, rfl, .inl ⟨rfl, rfl⟩, rfl, .inr ⟨n + 1, 0, 1, rfl, Nat.le_refl _, by decide, h2.kind trivial, h1.1, h1.2⟩⟩
theorem pg_get1 : pgv.get (pWay 1) = some pg2 := by
  have h1 : there ⟨#[97]⟩ pgv.keys = true := by decide +kernel
  have h2 : place ⟨#[97]⟩ pgv.keys = 0 := by decide +kernel
  simp only [GV.get, pWay, GV.inside, h1, h2]
  rfl
theorem pg_get5 : pgv.get (pWay 5) = none := by
  have h1 : there ⟨#[97]⟩ pgv.keys = true := by decide +kernel
  have h2 : place ⟨#[97]⟩ pgv.keys = 0 := by decide +kernel
  simp only [GV.get, pWay, GV.inside, h1, h2]
  rfl
theorem steps_row {W : World} {m : Nat} {i : Int} (h : Whole W m 57 (PRowS i)) : Steps W.heap.size W (some ⟨m, 0, none⟩) (pWay i) := fun _ => ⟨_, rfl, rfl, h.lt, fun k s hs => by
  simp only [h.cell, Nat.zero_add]
  match k with
  | 0 => simp [pWay] at hs; subst hs; exact ⟨rfl, rfl, rfl⟩
  | 1 => simp [pWay] at hs; subst hs; exact ⟨rfl, rfl, rfl⟩
  | k + 2 => simp [pWay] at hs⟩
theorem steps_odd {W : World} {m : Nat} (h : Whole W m 57 PRowO) : Steps W.heap.size W (some ⟨m, 0, none⟩) pOdd := fun _ => ⟨_, rfl, rfl, h.lt, fun k s hs => by
  simp only [h.cell, Nat.zero_add]
  match k with
  | 0 => simp [pOdd] at hs; subst hs; exact ⟨rfl, rfl, rfl⟩
  | k + 1 => simp [pOdd] at hs⟩
theorem odd_not : soundP pOdd = false := by decide +kernel
theorem nil_is : soundP [] = true := by decide +kernel

/-- What lies there. -/
structure PK (w W : World) : Prop where
  row : Whole W w.heap.size 29 PRow10
  obj : Whole W (w.heap.size + 1) 52 (PRow6 w.heap.size)
  box : Whole W (w.heap.size + 1 + 1) 29 #[.int .u8 5, .int .i64 0, .string ⟨#[]⟩, .slice none 0 0, .slice (some ⟨w.heap.size + 1, 0, none⟩) 1 1]
  below : Below w.heap.size w W
theorem PK.later {w W W' : World} (h : PK w W) (hb : Below W.heap.size W W') : PK w W' :=
  ⟨h.row.below hb h.row.lt, h.obj.below hb h.obj.lt, h.box.below hb h.box.lt, h.below.trans (hb.mono h.below.size)⟩
theorem pk_start (w : World) : PK w (((w.alloc (.cells PRow10 29)).alloc (.cells (PRow6 w.heap.size) 52)).alloc (.cells #[.int .u8 5, .int .i64 0, .string ⟨#[]⟩, .slice none 0 0, .slice (some ⟨w.heap.size + 1, 0, none⟩) 1 1] 29)) := by
  have h1 := (Whole.new (w.alloc (.cells PRow10 29)) 52 (PRow6 w.heap.size)).alloc (.cells #[.int .u8 5, .int .i64 0, .string ⟨#[]⟩, .slice none 0 0, .slice (some ⟨w.heap.size + 1, 0, none⟩) 1 1] 29)
  have h2 := Whole.new ((w.alloc (.cells PRow10 29)).alloc (.cells (PRow6 w.heap.size) 52)) 29 #[.int .u8 5, .int .i64 0, .string ⟨#[]⟩, .slice none 0 0, .slice (some ⟨w.heap.size + 1, 0, none⟩) 1 1]
  rw [World.size_alloc] at h1
  rw [World.size_alloc, World.size_alloc] at h2
  exact ⟨((Whole.new w _ _).alloc _).alloc _, h1, h2, (((Below.refl _ w).alloc (Nat.le_refl _) _).alloc (by simp) _).alloc (by simp; omega) _⟩

def TrueBelow (w : World) (e : Ending) (w' : World) : Prop := e = .returned (.bool true) ∧ Below w.heap.size w w'

theorem whole_new3 (w : World) (a b c : Obj) (t : TypeId) (cs : Array Value) : Whole ((((w.alloc a).alloc b).alloc c).alloc (.cells cs t)) (w.heap.size + 1 + 1 + 1) t cs := by
  have h := Whole.new (((w.alloc a).alloc b).alloc c) t cs
  rwa [World.size_alloc, World.size_alloc, World.size_alloc] at h
theorem whole_new1 (w : World) (a : Obj) (t : TypeId) (cs : Array Value) : Whole ((w.alloc a).alloc (.cells cs t)) (w.heap.size + 1) t cs := by
  have h := Whole.new (w.alloc a) t cs
  rwa [World.size_alloc] at h
theorem whole_at (w : World) (o : Obj) (t : TypeId) (cs : Array Value) : Whole ((w.alloc (.cells cs t)).alloc o) w.heap.size t cs := (Whole.new w t cs).alloc o
theorem cell_after {W W' : World} {b : Nat} {t : TypeId} {cs : Array Value} (hb : Below W.heap.size W W') (v : Value) (h : Whole W b t cs) (hc : cs[1]? = some v) : W'.cell? ⟨b, 1, none⟩ = some v := ((h.below hb h.lt).cell 1).trans hc

set_option maxRecDepth 100000 in
set_option maxHeartbeats 8000000 in
theorem pknown_true (w : World) (hT : Tabs w) : Calls Tryd.prog 11 #[] w (TrueBelow w) := by
  have hg1 : ∀ (W : World) (m : Nat), PK w W → Whole W m 57 (PRowS 1) → Calls Tryd.prog 14 #[.agg #[.int .u8 5, .int .i64 0, .string ⟨#[]⟩, .slice none 0 0, .slice (some ⟨w.heap.size + 1, 0, none⟩) 1 1], .slice (some ⟨m, 0, none⟩) 2 2] W fun e w' =>
      ∃ A c A' c', e = .returned (.tuple #[.agg #[.int .u8 2, .int .i64 2, .string ⟨#[]⟩, .slice A 0 c, .slice A' 0 c'], .int .u16 0]) ∧ Below W.heap.size W w' := fun W m hK hS =>
    (path_Get _ _ pgv _ _ 2 (pWay 1) W (pgv_val hK.row hK.obj) (steps_row hS) (Nat.le_refl _) (Nat.le_refl _) (by decide) (by decide)).mono fun e w' ⟨hb, hq⟩ => by
      rcases hq with ⟨h1, _⟩ | ⟨h, v', h1, he, L, O, rfl, hL, hO⟩
      · rw [pg_get1] at h1; cases h1
      · rw [pg_get1] at h1; cases h1
        obtain ⟨A, c, rfl⟩ := lst_form hL
        obtain ⟨A', c', rfl⟩ := obj_form hO
        exact ⟨A, c, A', c', he, hb⟩
  have hg5 : ∀ (W : World) (m : Nat), PK w W → Whole W m 57 (PRowS 5) → Calls Tryd.prog 14 #[.agg #[.int .u8 5, .int .i64 0, .string ⟨#[]⟩, .slice none 0 0, .slice (some ⟨w.heap.size + 1, 0, none⟩) 1 1], .slice (some ⟨m, 0, none⟩) 2 2] W fun e w' =>
      e = .returned (.tuple #[.agg #[.int .u8 0, .int .i64 0, .string ⟨#[]⟩, .slice none 0 0, .slice none 0 0], .int .u16 30]) ∧ Below W.heap.size W w' := fun W m hK hS =>
    (path_Get _ _ pgv _ _ 2 (pWay 5) W (pgv_val hK.row hK.obj) (steps_row hS) (Nat.le_refl _) (Nat.le_refl _) (by decide) (by decide)).mono fun e w' ⟨hb, hq⟩ => by
      rcases hq with ⟨_, he⟩ | ⟨h, v', h1, _⟩
      · exact ⟨he, hb⟩
      · rw [pg_get5] at h1; cases h1
  have hs0 : ∀ (W : World), Below w.heap.size w W → Calls Tryd.prog 17 #[.slice none 0 0] W fun e w' => e = .returned (.bool true) ∧ Below W.heap.size W w' := fun W hb => by
    have := path_Sound 0 none 0 [] W (fun h => absurd rfl h) (Nat.zero_le _) (by decide) (fun s hs => by simp at hs) (hT.below hb (Nat.le_refl _))
    rwa [nil_is] at this
  have hs1 : ∀ (W : World) (m : Nat), Below w.heap.size w W → Whole W m 57 PRowO → Calls Tryd.prog 17 #[.slice (some ⟨m, 0, none⟩) 1 1] W fun e w' => e = .returned (.bool false) ∧ Below W.heap.size W w' := fun W m hb hS => by
    have := path_Sound W.heap.size (some ⟨m, 0, none⟩) 1 pOdd W (steps_odd hS) (Nat.le_refl _) (by decide) (fun s hs => by simp [pOdd] at hs; subst hs; decide) (hT.below hb (Nat.le_refl _))
    rwa [odd_not] at this
  have HPK := Lib.hid (pk_start w)
  have HG1 := Lib.hid hg1
  have HG5 := Lib.hid hg5
  have HS0 := Lib.hid hs0
  have HS1 := Lib.hid hs1
  clear hg1 hg5 hs0 hs1 hT
  unfold PRow10 PRow6 at HPK
  unfold PRowS at HG1 HG5
  unfold PRowO at HS1
  go_enter Tryd.func11, Tryd.ntmps11
  go_wp2_with (first
    | (go_at_call 14; refine (HG1.out _ _ (HPK.out.later ((Below.refl _ _).alloc (Nat.le_refl _) _)) (whole_new3 w _ _ _ _ _)).mono ?_; rintro e w1 ⟨A, c, A', c', rfl, hb⟩; have HK1 := Lib.hid ((HPK.out.later ((Below.refl _ _).alloc (Nat.le_refl _) _)).later hb); obtain ⟨k0, k1, k2, k3, k4, _⟩ := HK1.out.box.five; replace k0 := fun o => cell_alloc o k0; replace k1 := fun o => cell_alloc o k1; replace k2 := fun o => cell_alloc o k2; replace k3 := fun o => cell_alloc o k3; replace k4 := fun o => cell_alloc o k4; clear hb HG1)
    | (go_at_call 14; refine (HG5.out _ _ (HK1.out.later (((Below.refl _ w1).alloc (Nat.le_refl _) _).alloc (by simp) _)) (whole_new1 w1 _ _ _)).mono ?_; rintro e w2 ⟨rfl, hb⟩; have HK2 := Lib.hid ((HK1.out.later (((Below.refl _ w1).alloc (Nat.le_refl _) _).alloc (by simp) _)).later hb); have z1 := cell_after hb (.int .i64 2) (whole_at w1 _ _ _) rfl; replace z1 := fun o => cell_alloc o z1; clear hb HG5 k0 k1 k2 k3 k4)
    | (go_at_call 17; refine (HS0.out _ (HK2.out.below.alloc HK2.out.below.size _)).mono ?_; rintro e w3 ⟨rfl, hb⟩; have HB3 := Lib.hid ((HK2.out.below.alloc HK2.out.below.size _).trans (hb.mono (by have := HK2.out.below.size; simp; omega))); clear hb HS0)
    | (go_at_call 17; refine (HS1.out _ _ (HB3.out.alloc HB3.out.size _) (Whole.new w3 _ _)).mono ?_; rintro e w4 ⟨rfl, hb⟩; have HB4 := Lib.hid ((HB3.out.alloc HB3.out.size _).trans (hb.mono (by have := HB3.out.size; simp; omega))); clear hb HS1))
  refine bodyPost_ret (v := .bool true) (by simp [results, Tryd.results11, go_sem]) rfl ?_
  exact ⟨rfl, HB4.out⟩
end Go.Proofs.YtbmfjchdmicdoaaDoor
