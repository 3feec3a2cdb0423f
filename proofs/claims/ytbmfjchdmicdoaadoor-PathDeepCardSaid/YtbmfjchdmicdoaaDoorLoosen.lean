/- loosen: a value's two lists are its own then. -/
import Derived.Test.YtbmfjchdmicdoaaDoorJust
import Derived.Test.YtbmfjchdmicdoaaDoorLaysP
import Derived.Test.YtbmfjchdmicdoaaDoorFresh
namespace Go.Proofs.YtbmfjchdmicdoaaDoor
open Go Go.RowKit

theorem addr_add0 (b o j : Nat) : (⟨b, o, none⟩ : Addr).add j = ⟨b, o + j, none⟩ := by
  by_cases e : j = 0
  · subst e; simp [Addr.add]
  · simp [Addr.add, e]

/-- A row of values that is new. -/
theorem clone_val (ok : Nat → Prop) (A : Option Addr) (n c : Nat) (l : List GV) (w : World) (hL : LstV ok w (.slice A n c) l) (hn : n = l.length) (hsz : n ≤ 1000000000) :
    Calls Tryd.prog 46 #[.slice A n c] w fun e w' => ∃ v' xs, e = .returned v' ∧ RowL ok w l xs ∧ w'.ownsRow w.heap.size 29 5 v' l.length xs ∧ Below w.heap.size w w' := by
  subst hn
  rcases hL with ⟨rfl, he⟩ | ⟨b, o, c', he, h1, h2, hK, hE⟩
  · cases he
    refine Calls.mono (AnyE.slices_Clone_nil Tryd.cloneV 0 0 w) fun e w' ⟨he, hw⟩ => ⟨_, [], he, rfl, ?_, by rw [hw]; exact Below.refl _ _⟩
    exact World.ownsRow_nil _ _ _ _
  · cases he
    obtain ⟨xs, hr, hlen, hcell, h1c⟩ := els_row hE
    obtain ⟨i0, hi, hz0, hz1, hz2⟩ := info_parts infoVal
    refine Calls.mono (AnyE.slices_Clone Tryd.cloneV i0 _ 5 80 hi hz0 hz1 hz2 rfl (by decide) Tryd.sizeOf29 b o l.length c xs w hlen (by unfold maxLen; omega) (by omega) hcell h1c) fun e w' ⟨v', he, ho, _, hb⟩ => ⟨v', xs, he, hr, ho, hb⟩
/-- A row of fields that is new. -/
theorem clone_fld (ok : Nat → Prop) (A : Option Addr) (n c : Nat) (ks : List ByteArray) (l : List GV) (w : World) (hO : ObjV ok w (.slice A n c) ks l) (hn : n = l.length) (hsz : n ≤ 1000000000) :
    Calls Tryd.prog 47 #[.slice A n c] w fun e w' => ∃ v' xs, e = .returned v' ∧ RowO ok w ks l xs ∧ w'.ownsRow w.heap.size 52 6 v' l.length xs ∧ Below w.heap.size w w' := by
  subst hn
  obtain ⟨hl, hO⟩ := hO
  rcases hO with ⟨rfl, he⟩ | ⟨b, o, c', he, h1, h2, hK, hks, hE⟩
  · cases he
    obtain rfl : ks = [] := List.length_eq_zero_iff.1 (by simpa using hl)
    refine Calls.mono (AnyE.slices_Clone_nil Tryd.cloneF 0 0 w) fun e w' ⟨he, hw⟩ => ⟨_, [], he, by simp [RowO], ?_, by rw [hw]; exact Below.refl _ _⟩
    exact World.ownsRow_nil _ _ _ _
  · cases he
    obtain ⟨xs, hr, hlen, hcell, h1c⟩ := els_rowO hl hks hE
    obtain ⟨i0, hi, hz0, hz1, hz2⟩ := info_parts infoField
    refine Calls.mono (AnyE.slices_Clone Tryd.cloneF i0 _ 6 96 hi hz0 hz1 hz2 rfl (by decide) Tryd.sizeOf52 b o l.length c xs w hlen (by unfold maxLen; omega) (by omega) hcell h1c) fun e w' ⟨v', he, ho, _, hb⟩ => ⟨v', xs, he, hr, ho, hb⟩

/-- What lies there behind loosen. -/
structure Loose (R b off : Nat) (h : GV) (W W' : World) (AL AO : Option Addr) (cL cO : Nat) (xs ys : List Value) : Prop where
  just : Just b off 5 W W'
  c0 : W'.cell? ⟨b, off, none⟩ = some (.int .u8 h.kind)
  c1 : W'.cell? ⟨b, off + 1, none⟩ = some (.int .i64 h.num)
  c2 : W'.cell? ⟨b, off + 2, none⟩ = some (.string h.str)
  c3 : W'.cell? ⟨b, off + 3, none⟩ = some (.slice AL h.items.length cL)
  c4 : W'.cell? ⟨b, off + 4, none⟩ = some (.slice AO h.vals.length cO)
  rl : RowL (fun k => k < R) W' h.items xs
  ol : W'.ownsRow W.heap.size 29 5 (.slice AL h.items.length cL) h.items.length xs
  ro : RowO (fun k => k < R) W' h.keys h.vals ys
  oo : W'.ownsRow W.heap.size 52 6 (.slice AO h.vals.length cO) h.vals.length ys

theorem cell_far (w : World) {b i j : Nat} (h : i ≠ j) (u : Value) : (w.setCell ⟨b, i, none⟩ u).cell? ⟨b, j, none⟩ = w.cell? ⟨b, j, none⟩ := by
  rw [World.cell?_setCell_other]
  intro e
  cases e
  exact h rfl
theorem own_base {W : World} {base base' : Nat} {e : TypeId} {size n : Nat} {v : Value} {xs : List Value} (h : W.ownsRow base e size v n xs) (hb : base' ≤ base) : W.ownsRow base' e size v n xs :=
  ⟨h.1, h.2.imp id fun ⟨g, cap, cur, h1, h2, h3⟩ => ⟨g, cap, cur, h1, Nat.le_trans hb h2, h3⟩⟩

set_option maxHeartbeats 4000000 in
theorem loosen_at (R b off : Nat) (h : GV) (W : World) (hat : h.at (fun k => k < R) W b off) (hwh : ∃ t cs, Whole W b t cs) (hR : R ≤ b) (hw : h.weight ≤ 1000000000) :
    Calls Tryd.prog 31 #[.pointer (some ⟨b, off, none⟩)] W fun e w' => e = .returned (.tuple #[]) ∧ ∃ AL AO cL cO xs ys, Loose R b off h W w' AL AO cL cO xs ys := by
  obtain ⟨AL, AO, cL, cO, hsp⟩ := hat.spot
  obtain ⟨t, cs, hwh⟩ := hwh
  have hlt := hwh.lt
  have hn1 : h.items.length ≤ 1000000000 := by have h1 := len_sizes h.items; have h2 := size_eq h; have h3 := size_le_weight h; omega
  have hn2 : h.vals.length ≤ 1000000000 := by have h1 := len_sizes h.vals; have h2 := size_eq h; have h3 := size_le_weight h; omega
  have hv := clone_val _ AL h.items.length cL h.items W hsp.lst rfl hn1
  have ho : ∀ W', Just b off 5 W W' → Calls Tryd.prog 47 #[.slice AO h.vals.length cO] W' fun e w' => ∃ v' xs, e = .returned v' ∧ RowO (fun k => k < R) W' h.keys h.vals xs ∧ w'.ownsRow W'.heap.size 52 6 v' h.vals.length xs ∧ Below W'.heap.size W' w' := fun W' hJ =>
    clone_fld _ AO h.vals.length cO h.keys h.vals W' (hsp.obj.keep (hJ.from (by simp; omega)) (fun _ h _ => h)) rfl hn2
  have HV := Lib.hid hv
  have HO := Lib.hid ho
  have HW := Lib.hid hwh
  have HSP := Lib.hid hsp
  have c3 := hsp.c3
  clear hv ho hwh hsp hat hw
  go_enter Tryd.func31, Tryd.ntmps31
  go_wp2_with (first
    | (go_at_call 46; refine HV.out.mono ?_; rintro e w1 ⟨v1, xs, rfl, hr1, ho1, hb1⟩; obtain ⟨A1, d1, rfl⟩ := own_form ho1; have hw1 := HW.out.below hb1 hlt; have x3 := (hb1.cell (p := ⟨b, off + 3, none⟩) hlt).trans HSP.out.c3; have x4 := (hb1.cell (p := ⟨b, off + 4, none⟩) hlt).trans HSP.out.c4; have f3 := hw1.frozen (off + 3); have H1 := Lib.hid (And.intro hr1 (And.intro ho1 (And.intro hb1 hw1))); clear hr1 ho1 hb1 hw1)
    | (go_at_call 47; refine (HO.out _ ((Just.of_below H1.out.2.2.1 hlt).trans (Just.set w1 (j := off + 3) (by omega) (by omega) _))).mono ?_; rintro e w2 ⟨v2, ys, rfl, hr2, ho2, hb2⟩; obtain ⟨A2, d2, rfl⟩ := own_form ho2; have hw2 := (H1.out.2.2.2.put (off + 3) (.slice A1 h.items.length d1)).below hb2 (by simpa using H1.out.2.2.2.lt); have z3 : w2.cell? ⟨b, off + 3, none⟩ = some (.slice A1 h.items.length d1) := (hb2.cell (p := ⟨b, off + 3, none⟩) (by simpa using H1.out.2.2.2.lt)).trans (World.cell?_setCell_same' _ _ _ (by rw [x3]; rfl)); have z4 : w2.cell? ⟨b, off + 4, none⟩ = some (.slice AO h.vals.length cO) := (hb2.cell (p := ⟨b, off + 4, none⟩) (by simpa using H1.out.2.2.2.lt)).trans ((cell_far w1 (by omega) _).trans x4); have f4 := hw2.frozen (off + 4); have H2 := Lib.hid (And.intro hr2 (And.intro ho2 (And.intro hb2 hw2))); clear hr2 ho2 hb2 hw2))
  go_end0
  have hJ := (((Just.of_below (lo := off) (n := 5) H1.out.2.2.1 hlt).trans (Just.set w1 (j := off + 3) (by omega) (by omega) (.slice A1 h.items.length d1))).trans (Just.of_below (lo := off) (n := 5) H2.out.2.2.1 (by simpa using H1.out.2.2.2.lt))).trans (Just.set w2 (j := off + 4) (by omega) (by omega) (.slice A2 h.vals.length d2))
  have hs1 := H1.out.2.2.1.size
  have hs2 := H2.out.2.2.1.size
  simp only [size_set] at hs2
  have hc : ∀ i, i ≠ off + 3 → i ≠ off + 4 → (w2.setCell ⟨b, off + 4, none⟩ (.slice A2 h.vals.length d2)).cell? ⟨b, i, none⟩ = W.cell? ⟨b, i, none⟩ := fun i h3 h4 => by
    rw [cell_far w2 (Ne.symm h4)]
    refine (H2.out.2.2.1.cell (p := ⟨b, i, none⟩) (by simpa using H1.out.2.2.2.lt)).trans ?_
    rw [cell_far w1 (Ne.symm h3)]
    exact H1.out.2.2.1.cell (p := ⟨b, i, none⟩) hlt
  have hF1 : From (fun k => k < R) W (w2.setCell ⟨b, off + 4, none⟩ (.slice A2 h.vals.length d2)) := hJ.from (by omega)
  have hF2 : From (fun k => k < R) (w1.setCell ⟨b, off + 3, none⟩ (.slice A1 h.items.length d1)) (w2.setCell ⟨b, off + 4, none⟩ (.slice A2 h.vals.length d2)) := fun k hk hlk => by
    rw [Below.heap_setCell w2 ⟨b, off + 4, none⟩ _ k (by simp only; omega)]
    exact H2.out.2.2.1.block k hlk
  have hb1 : ∀ k, (Value.slice A1 h.items.length d1).ownBlock = some k → W.heap.size ≤ k ∧ k < w1.heap.size := fun k hk => H1.out.2.1.lt k hk
  have hb2 : ∀ k, (Value.slice A2 h.vals.length d2).ownBlock = some k → w1.heap.size ≤ k ∧ k < w2.heap.size := fun k hk => by simpa using H2.out.2.1.lt k hk
  refine ⟨rfl, A1, A2, d1, d2, xs, ys, hJ, (hc _ (by omega) (by omega)).trans HSP.out.c0, (hc _ (by omega) (by omega)).trans HSP.out.c1, (hc _ (by omega) (by omega)).trans HSP.out.c2, ?_, World.cell?_setCell_same' _ _ _ (by rw [z4]; rfl), H1.out.1.keep hF1 (fun _ h _ => h), ?_, H2.out.1.keep hF2 (fun _ h _ => h), ?_⟩
  · exact (cell_far w2 (by omega) _).trans z3
  · refine own_set (own_below (own_set H1.out.2.1 ?_ _) H2.out.2.2.1) ?_ _
    · intro e; have := hb1 b e; omega
    · intro e; have := hb1 b e; omega
  · refine own_set (own_base H2.out.2.1 (by simpa using hs1)) ?_ _
    intro e; have := hb2 b e; omega
end Go.Proofs.YtbmfjchdmicdoaaDoor
