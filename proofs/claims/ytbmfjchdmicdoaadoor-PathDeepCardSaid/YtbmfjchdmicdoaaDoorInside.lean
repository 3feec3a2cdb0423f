/- One step into a value: item, field, inside. -/
import Derived.Test.YtbmfjchdmicdoaaDoorPathG
import Derived.Test.YtbmfjchdmicdoaaDoorBaseA
namespace Go.Proofs.YtbmfjchdmicdoaaDoor
open Go Go.RowKit

/-- What a step comes to, at a value whose two slices are known. -/
def InsidePost (g : GV) (s : GStep) (AL AO : Option Addr) (w : World) (e : Ending) (w' : World) : Prop :=
  Below w.heap.size w w' ∧ ((g.inside s = none ∧ e = .returned (.pointer none)) ∨
    (s.list = true ∧ ∃ (k : Nat) (b o : Nat) (h : GV), s.i = k ∧ g.items[k]? = some h ∧ g.inside s = some h ∧ AL = some ⟨b, o, none⟩ ∧ e = .returned (.pointer (some ⟨b, o + k * 5, none⟩))) ∨
    (s.list = false ∧ ∃ (b o : Nat) (h : GV), g.vals[place s.key g.keys]? = some h ∧ g.inside s = some h ∧ AO = some ⟨b, o, none⟩ ∧ e = .returned (.pointer (some ⟨b, o + place s.key g.keys * 6 + 1, none⟩))))

set_option maxHeartbeats 2000000 in
theorem pitem_at (ok : Nat → Prop) (b off : Nat) (g : GV) (AL : Option Addr) (cL : Nat) (i : Int) (w : World) (h0 : w.cell? ⟨b, off, none⟩ = some (.int .u8 g.kind)) (h3 : w.cell? ⟨b, off + 3, none⟩ = some (.slice AL g.items.length cL))
    (hL : LstV ok w (.slice AL g.items.length cL) g.items) (s : GStep) (hs : s.list = true) (hi : s.i = i) (AO : Option Addr) :
    Calls Tryd.prog 51 #[.pointer (some ⟨b, off, none⟩), .int .i64 i] w (InsidePost g s AL AO w) := by
  obtain ⟨_, _, he, hl1, hl2, hlf⟩ := hL.form
  cases he
  unfold maxLen at hl2
  have hn : g.kind ≠ 4 ∨ i < 0 ∨ (g.items.length : Int) ≤ i → g.inside s = none := fun h => by
    subst hi
    unfold GV.inside
    rw [if_pos hs]
    split
    · rename_i hc
      exact List.getElem?_eq_none (by omega)
    · rfl
  have hy : ∀ k : Nat, i = k → k < g.items.length → g.kind = 4 → ∃ b o h, AL = some ⟨b, o, none⟩ ∧ g.items[k]? = some h ∧ g.inside s = some h := fun k hk hl h4 => by
    obtain ⟨b, o, rfl, _⟩ := hlf (by intro e; rw [e] at hl; simp at hl)
    exact ⟨b, o, _, rfl, List.getElem?_eq_getElem hl, inside_list hs h4 (hi.trans hk) hl⟩
  have HN := Lib.hid hn
  have HY := Lib.hid hy
  clear hn hy hlf hL
  generalize hlen : g.items.length = n at *
  by_cases hk : g.kind = 4
  · rw [hk] at h0
    have HK := Lib.hid hk
    clear hk
    by_cases hneg : i < 0
    · go_enter Tryd.func51, Tryd.ntmps51
      go_wp2
      go_ret
      exact ⟨Below.refl _ _, .inl ⟨HN.out (.inr (.inl hneg)), rfl⟩⟩
    · obtain ⟨k, rfl⟩ : ∃ k : Nat, i = k := ⟨i.toNat, by omega⟩
      by_cases hlt : k < n
      · obtain ⟨lb, lo, h, rfl, e1, e2⟩ := HY.out k rfl hlt HK.out
        have HE := Lib.hid (And.intro e1 e2)
        clear e1 e2
        go_enter Tryd.func51, Tryd.ntmps51
        go_wp2
        go_ret
        exact ⟨Below.refl _ _, .inr (.inl ⟨hs, k, lb, lo, h, hi, HE.out.1, HE.out.2, rfl, by simp⟩)⟩
      · go_enter Tryd.func51, Tryd.ntmps51
        go_wp2
        go_ret
        exact ⟨Below.refl _ _, .inl ⟨HN.out (.inr (.inr (by omega))), rfl⟩⟩
  · have hk' : (g.kind == 4) = false := by simpa using hk
    have hk2 : (g.kind != 4) = true := by simpa using hk
    have HK := Lib.hid hk
    clear hk
    go_enter Tryd.func51, Tryd.ntmps51
    go_wp2
    go_ret
    exact ⟨Below.refl _ _, .inl ⟨HN.out (.inl HK.out), rfl⟩⟩

set_option maxHeartbeats 2000000 in
theorem pfield_at (ok : Nat → Prop) (b off : Nat) (g : GV) (AL AO : Option Addr) (cL cO : Nat) (w : World) (h0 : w.cell? ⟨b, off, none⟩ = some (.int .u8 g.kind)) (h1 : w.cell? ⟨b, off + 1, none⟩ = some (.int .i64 g.num)) (h2 : w.cell? ⟨b, off + 2, none⟩ = some (.string g.str))
    (h3 : w.cell? ⟨b, off + 3, none⟩ = some (.slice AL g.items.length cL)) (h4 : w.cell? ⟨b, off + 4, none⟩ = some (.slice AO g.vals.length cO))
    (hL : LstV ok w (.slice AL g.items.length cL) g.items) (hO : ObjV ok w (.slice AO g.vals.length cO) g.keys g.vals) (s : GStep) (hs : s.list = false) :
    Calls Tryd.prog 52 #[.pointer (some ⟨b, off, none⟩), .string s.key] w (InsidePost g s AL AO w) := by
  have hcall := val_Field ok (.agg #[.int .u8 g.kind, .int .i64 g.num, .string g.str, .slice AL g.items.length cL, .slice AO g.vals.length cO]) g s.key w ⟨_, _, rfl, hL, hO⟩
  obtain ⟨_, _, he, ho1, ho2, hof⟩ := hO.form
  cases he
  unfold maxLen at ho2
  have hlen := hO.1
  have hb : b < w.heap.size := World.block_lt_of_cell? w _ h0
  have hn : g.kind ≠ 5 ∨ there s.key g.keys = false → g.inside s = none := fun h => by
    unfold GV.inside
    rw [if_neg (by simp [hs])]
    split
    · rename_i hc
      rcases h with h | h
      · exact absurd hc.1 h
      · rw [h] at hc; simp at hc
    · rfl
  have hy : there s.key g.keys = true → g.kind = 5 → ∃ b o h, AO = some ⟨b, o, none⟩ ∧ place s.key g.keys < g.vals.length ∧ g.vals[place s.key g.keys]? = some h ∧ g.inside s = some h := fun ht h5 => by
    have hl := there_lt ht
    rw [hlen] at hl
    obtain ⟨b, o, rfl, _⟩ := hof (by intro e; rw [e] at hl; simp at hl)
    exact ⟨b, o, _, rfl, hl, List.getElem?_eq_getElem hl, inside_key hs h5 ht hl⟩
  have HN := Lib.hid hn
  have HY := Lib.hid hy
  have HC := Lib.hid hcall
  clear hn hy hof hL hO hcall hlen
  unfold FieldPost at HC
  generalize hpl : place s.key g.keys = pl at *
  generalize hth : there s.key g.keys = th at *
  generalize hlen : g.vals.length = n at *
  have hs' := Lib.hid hs
  have HPL := Lib.hid hpl
  clear hs hpl hth
  by_cases hk : g.kind = 5
  · rw [hk] at h0 HC
    have HK := Lib.hid hk
    clear hk
    cases th with
    | true =>
      obtain ⟨ob, oo, h, rfl, hlt, e1, e2⟩ := HY.out rfl HK.out
      have HE := Lib.hid (And.intro e1 e2)
      clear e1 e2
      go_enter Tryd.func52, Tryd.ntmps52
      go_wp2_with (go_at_call 55; refine HC.out.mono ?_; rintro e w1 ⟨rfl, hb1⟩; have z0 := (hb1.cell (p := ⟨b, off, none⟩) hb).trans h0; have z4 := (hb1.cell (p := ⟨b, off + 4, none⟩) hb).trans h4; have HB1 := Lib.hid hb1; clear hb1)
      go_ret
      exact ⟨HB1.out, .inr (.inr ⟨hs'.out, ob, oo, h, by rw [HPL.out]; exact HE.out.1, HE.out.2, rfl, by rw [HPL.out]; simp⟩)⟩
    | false =>
      go_enter Tryd.func52, Tryd.ntmps52
      go_wp2_with (go_at_call 55; refine HC.out.mono ?_; rintro e w1 ⟨rfl, hb1⟩; have z0 := (hb1.cell (p := ⟨b, off, none⟩) hb).trans h0; have z4 := (hb1.cell (p := ⟨b, off + 4, none⟩) hb).trans h4; have HB1 := Lib.hid hb1; clear hb1)
      go_ret
      exact ⟨HB1.out, .inl ⟨HN.out (by simp), rfl⟩⟩
  · have hk' : (g.kind == 5) = false := by simpa using hk
    have hk2 : (g.kind != 5) = true := by simpa using hk
    have HK := Lib.hid hk
    clear hk
    go_enter Tryd.func52, Tryd.ntmps52
    go_wp2_with (go_at_call 55; refine HC.out.mono ?_; rintro e w1 ⟨rfl, hb1⟩; have z0 := (hb1.cell (p := ⟨b, off, none⟩) hb).trans h0; have z4 := (hb1.cell (p := ⟨b, off + 4, none⟩) hb).trans h4; have HB1 := Lib.hid hb1; clear hb1)
    go_ret
    exact ⟨HB1.out, .inl ⟨HN.out (.inl HK.out), rfl⟩⟩

/-- What lies where a value lies. -/
structure Spot (ok : Nat → Prop) (W : World) (b off : Nat) (g : GV) (AL AO : Option Addr) (cL cO : Nat) : Prop where
  c0 : W.cell? ⟨b, off, none⟩ = some (.int .u8 g.kind)
  c1 : W.cell? ⟨b, off + 1, none⟩ = some (.int .i64 g.num)
  c2 : W.cell? ⟨b, off + 2, none⟩ = some (.string g.str)
  c3 : W.cell? ⟨b, off + 3, none⟩ = some (.slice AL g.items.length cL)
  c4 : W.cell? ⟨b, off + 4, none⟩ = some (.slice AO g.vals.length cO)
  lst : LstV ok W (.slice AL g.items.length cL) g.items
  obj : ObjV ok W (.slice AO g.vals.length cO) g.keys g.vals
theorem GV.at.spot {ok : Nat → Prop} {W : World} {b off : Nat} {g : GV} (h : g.at ok W b off) : ∃ AL AO cL cO, Spot ok W b off g AL AO cL cO := by
  obtain ⟨L, O, h0, h1, h2, h3, h4, hL, hO⟩ := GV.at_iff.1 h
  obtain ⟨AL, cL, rfl⟩ := lst_form hL
  obtain ⟨AO, cO, rfl⟩ := obj_form hO
  exact ⟨AL, AO, cL, cO, h0, h1, h2, h3, h4, hL, hO⟩
theorem Spot.at {ok : Nat → Prop} {W : World} {b off : Nat} {g : GV} {AL AO : Option Addr} {cL cO : Nat} (h : Spot ok W b off g AL AO cL cO) : g.at ok W b off :=
  GV.at_iff.2 ⟨_, _, h.c0, h.c1, h.c2, h.c3, h.c4, h.lst, h.obj⟩
theorem Spot.lt {ok : Nat → Prop} {W : World} {b off : Nat} {g : GV} {AL AO : Option Addr} {cL cO : Nat} (h : Spot ok W b off g AL AO cL cO) : b < W.heap.size := World.block_lt_of_cell? W _ h.c0
theorem Spot.keep {ok ok' : Nat → Prop} {W W' : World} {b off : Nat} {g : GV} {AL AO : Option Addr} {cL cO : Nat} (H : From ok W W') (hs : ∀ k, ok k → k < W.heap.size → ok' k) (hb : W'.heap[b]? = W.heap[b]?) (h : Spot ok W b off g AL AO cL cO) : Spot ok' W' b off g AL AO cL cO := by
  have hc : ∀ o, W'.cell? ⟨b, o, none⟩ = W.cell? ⟨b, o, none⟩ := fun o => World.cell?_of_block (a := ⟨b, o, none⟩) hb
  exact ⟨(hc _).trans h.c0, (hc _).trans h.c1, (hc _).trans h.c2, (hc _).trans h.c3, (hc _).trans h.c4, h.lst.keep H hs, h.obj.keep H hs⟩

theorem InsidePost.mono {g : GV} {s : GStep} {AL AO : Option Addr} {w w0 w' : World} {e : Ending} (h : InsidePost g s AL AO w e w') (hb : Below w0.heap.size w0 w) : InsidePost g s AL AO w0 e w' :=
  ⟨hb.trans (h.1.mono hb.size), h.2⟩

set_option maxHeartbeats 2000000 in
theorem inside_at (ok : Nat → Prop) (b off : Nat) (g : GV) (AL AO : Option Addr) (cL cO : Nat) (w : World) (h : Spot ok w b off g AL AO cL cO) (s : GStep) :
    Calls Tryd.prog 41 #[.pointer (some ⟨b, off, none⟩), .agg #[.bool s.list, .int .i64 s.i, .string s.key]] w (InsidePost g s AL AO w) := by
  have hsp : ∀ W, Below w.heap.size w W → Spot ok W b off g AL AO cL cO := fun W hb => h.keep (From.of_below hb) (fun _ h _ => h) (hb.block b h.lt)
  have hitem : ∀ W, Below w.heap.size w W → s.list = true → Calls Tryd.prog 51 #[.pointer (some ⟨b, off, none⟩), .int .i64 s.i] W (InsidePost g s AL AO w) := fun W hb hs =>
    (pitem_at ok b off g AL cL s.i W (hsp W hb).c0 (hsp W hb).c3 (hsp W hb).lst s hs rfl AO).mono fun e w' hq => hq.mono hb
  have hfield : ∀ W, Below w.heap.size w W → s.list = false → Calls Tryd.prog 52 #[.pointer (some ⟨b, off, none⟩), .string s.key] W (InsidePost g s AL AO w) := fun W hb hs =>
    (pfield_at ok b off g AL AO cL cO W (hsp W hb).c0 (hsp W hb).c1 (hsp W hb).c2 (hsp W hb).c3 (hsp W hb).c4 (hsp W hb).lst (hsp W hb).obj s hs).mono fun e w' hq => hq.mono hb
  have HI := Lib.hid hitem
  have HF := Lib.hid hfield
  clear hitem hfield hsp h
  obtain ⟨sl, si, sk⟩ := s
  simp only at HI HF ⊢
  cases sl with
  | true =>
    go_enter Tryd.func41, Tryd.ntmps41
    go_wp2_with (go_at_call 51; refine (HI.out _ ((Below.refl _ _).alloc (Nat.le_refl _) _) rfl).mono ?_; rintro e w1 hq; obtain ⟨v, rfl⟩ : ∃ v, e = .returned v := (by rcases hq.2 with ⟨_, rfl⟩ | ⟨_, _, _, _, _, _, _, _, _, rfl⟩ | ⟨_, _, _, _, _, _, _, rfl⟩ <;> exact ⟨_, rfl⟩); have HQ := Lib.hid hq; clear hq)
    go_ret
    exact HQ.out
  | false =>
    go_enter Tryd.func41, Tryd.ntmps41
    go_wp2_with (go_at_call 52; refine (HF.out _ ((Below.refl _ _).alloc (Nat.le_refl _) _) rfl).mono ?_; rintro e w1 hq; obtain ⟨v, rfl⟩ : ∃ v, e = .returned v := (by rcases hq.2 with ⟨_, rfl⟩ | ⟨_, _, _, _, _, _, _, _, _, rfl⟩ | ⟨_, _, _, _, _, _, _, rfl⟩ <;> exact ⟨_, rfl⟩); have HQ := Lib.hid hq; clear hq)
    go_ret
    exact HQ.out
end Go.Proofs.YtbmfjchdmicdoaaDoor
