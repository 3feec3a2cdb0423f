/- An act, what text makes of it. -/
import Derived.Test.YthnljaheplhbkaaDoorCompC
import Derived.Laws.Concat
namespace Go.Proofs.YthnljaheplhbkaaDoor
open Go Go.RowKit
set_option linter.unusedVariables false
set_option linter.unusedSimpArgs false

/-- Something that may be done. -/
structure GAct where
  path : List Int
  kind : Int
  i : Int
  j : Int
  n : Int
  s : ByteArray
  v : List GTok
/-- What is asked of it. -/
structure ActOk (w : World) (x : GAct) (AP : Option Addr) (ap : Nat) (AD : Option Addr) (ad : Nat) : Prop where
  bytes : Bytes w.heap.size w AP x.path
  rngp : ∀ b ∈ x.path, 0 ≤ b ∧ b ≤ 255
  capp : x.path.length ≤ ap ∧ ap ≤ maxLen
  kind : 0 ≤ x.kind ∧ x.kind ≤ 255
  toks : Toks w.heap.size w AD x.v
  cap : x.v.length ≤ ad ∧ ad ≤ maxLen
  rng : ∀ t ∈ x.v, 0 ≤ t.k ∧ t.k ≤ 255 ∧ 0 ≤ t.m ∧ t.m ≤ 255
  sizes : ∀ t ∈ x.v, t.s.size ≤ 140737488351232
  str : x.s.size ≤ 140737488351232
theorem ActOk.later {w W : World} {x : GAct} {AP : Option Addr} {ap : Nat} {AD : Option Addr} {ad : Nat} (h : ActOk w x AP ap AD ad) (hb : Below w.heap.size w W) : ActOk W x AP ap AD ad :=
  ⟨h.bytes.keep hb hb.size, h.rngp, h.capp, h.kind, h.toks.keep hb hb.size, h.cap, h.rng, h.sizes, h.str⟩
theorem mod_nat' (i : Int) (m : Nat) (hm : 0 < m) : ∃ a : Nat, max i 0 % (m : Int) = (a : Int) ∧ a < m :=
  ⟨(max i 0 % (m : Int)).toNat, by have := Int.emod_nonneg (max i 0) (show (m : Int) ≠ 0 by omega); omega, by have := Int.emod_lt_of_pos (max i 0) (show (0 : Int) < m by omega); have := Int.emod_nonneg (max i 0) (show (m : Int) ≠ 0 by omega); omega⟩

/-- What is built: sound, at most 6 deep, ASCII; in new memory. -/
def VOk (g : GV) : Prop := g.Sound ∧ g.deep ≤ 6 ∧ g.weight ≤ 6000 ∧ g.Asc
def BuildA (W : World) (e : Ending) (w' : World) : Prop :=
  ∃ (g : GV) (BL BO : Option Addr) (dL dO : Nat), e = .returned (.agg #[.int .u8 g.kind, .int .i64 g.num, .string g.str, .slice BL g.items.length dL, .slice BO g.vals.length dO]) ∧ (LstV (fun k => W.heap.size ≤ k) w' (.slice BL g.items.length dL) g.items ∧ ObjV (fun k => W.heap.size ≤ k) w' (.slice BO g.vals.length dO) g.keys g.vals) ∧ VOk g ∧ Below W.heap.size W w'
theorem build_A (hi : Nat) (A : Option Addr) (cap : Nat) (ts : List GTok) (w : World) (hcap : ts.length ≤ cap) (hm : cap ≤ maxLen) (hhi : hi ≤ w.heap.size) (hT : Toks hi w A ts)
    (hr : ∀ t ∈ ts, 0 ≤ t.k ∧ t.k ≤ 255 ∧ 0 ≤ t.m ∧ t.m ≤ 255) (hss : ∀ t ∈ ts, t.s.size ≤ 140737488351232) : Calls Tryd.prog 10 #[.slice A ts.length cap] w (BuildA w) :=
  (Build_len hi A cap ts w hcap hm hhi hT hr hss).mono fun e w' ⟨g, v, he, hv, hg, hw, hb⟩ => by
    obtain ⟨L, O, rfl, hL, hO⟩ := hv
    obtain ⟨BL, dL, rfl⟩ := lst_form hL
    obtain ⟨BO, dO, rfl⟩ := obj_form hO
    exact ⟨g, BL, BO, dL, dO, he, ⟨hL, hO⟩, ⟨hg.1, by have := hg.2.1; omega, hw, hg.2.2.2⟩, hb⟩
theorem lv_noG (ok : Nat → Prop) (W : World) : LstV ok W (.slice none noG.items.length 0) noG.items ∧ ObjV ok W (.slice none noG.vals.length 0) noG.keys noG.vals := ⟨.inl ⟨rfl, rfl⟩, ⟨rfl, .inl ⟨rfl, rfl⟩⟩⟩
theorem vok_no : VOk noG := ⟨by simp [noG, GV.Sound, GV.Sounds, SelfP], by simp [noG, GV.deep, GV.deeps], by unfold noG; simp only [GV.weight, GV.weights, List.map_nil, List.sum_nil]; decide, by simp [noG, GV.Asc, GV.Ascs, asc_none]⟩

set_option maxRecDepth 100000 in
set_option maxHeartbeats 1000000 in
theorem plain6_any (s : ByteArray) (w : World) (_hs : s.size ≤ 9223372036854775807) :
    Calls Tryd.prog 81 #[.string s] w fun e w' => e = .returned (.string (plainB s)) ∧ Below w.heap.size w w' := by
  obtain ⟨i0, hi0, hz0, hz1, hz2⟩ := info_parts infoByte
  have HI0 := Lib.hid (And.intro hi0 (And.intro hz0 (And.intro hz1 hz2)))
  clear hi0 hz0 hz1 hz2
  go_enter Tryd.func81, Tryd.ntmps81
  go_wp2
  go_loopw [3, 4] (PlainRel w s) (fun _ i _ => s.size - (intOf i).toNat)
  case atStart => exact ⟨0, rfl, Nat.zero_le _, Nat.zero_le _, World.ownsRow_nil _ _ _ _, Below.refl _ _⟩
  case round =>
    obtain ⟨k, rfl, hk, hk40, hown, hB⟩ := hrel
    obtain ⟨A, c, rfl⟩ := own_form hown
    by_cases hgo : k < s.size ∧ k < 40
    · obtain ⟨hlt, hlt40⟩ := hgo
      have hmax : k + 1 ≤ maxLen := by unfold maxLen; omega
      have hby : (k + 1) * 1 ≤ 140737488355328 := by omega
      have HM := Lib.hid (And.intro hmax hby)
      have HO := Lib.hid hown
      have HB := Lib.hid hB
      have hsn : (s.data.toList.take (k + 1)).map low7 = (s.data.toList.take k).map low7 ++ [low7 s[k]] := by
        rw [List.take_succ_eq_append_getElem (by simpa using hlt), List.map_append]
        rfl
      have HSN := Lib.hid hsn
      have hb0 : 0 ≤ (s[k].toNat : Int) := by omega
      have hb1 : (s[k].toNat : Int) ≤ 255 := by have := s[k].toNat_lt; omega
      have hlow : low7 s[k] = (s[k].toNat : Int) % 128 := rfl
      have HLOW := Lib.hid hlow
      clear hmax hby hown hB hsn hlow
      go_wp2_with (at_builtin; refine wpList_append_own_at _ rfl (.tmp 15) (.tmp 20) 44 rfl w.heap.size 5 i0 _ 1 1 Tryd.underlying44 HI0.out.1 HI0.out.2.1 HI0.out.2.2.1 HI0.out.2.2.2 rfl (by decide) (.slice A k c) k _ rfl (HO.out.alloc _) ⟨wr.heap.size, 0, none⟩ 1 1 [.int .u8 ((s[k].toNat : Int) % 128)] rfl rfl (row_cells' _ _ rfl _ _) (by simp [Value.oneCell']) HM.out.1 HM.out.2 (by have := HB.out.size; simp; omega) ?_; intro v3 W3 hown3 hgrow3 _ hat3; obtain ⟨A3, c3, rfl⟩ := own_form hown3; have H3 := Lib.hid (And.intro hown3 (And.intro hgrow3 hat3)); clear hown3 hgrow3 hat3)
      go_roundw
      case rel => exact ⟨k + 1, by go_num, by omega, by omega, by rw [HSN.out, List.map_append]; exact H3.out.1, (HB.out.alloc HB.out.size _).grown H3.out.2.1 (by have := HB.out.size; simp; omega) (fun j hj => (HO.out.lt j hj).1)⟩
      case measure => simp [intOf]; omega
    · have htk : s.data.toList.take 40 = s.data.toList.take k := by
        by_cases h : k < s.size
        · rw [show k = 40 by omega]
        · rw [List.take_of_length_le (by simp; omega), List.take_of_length_le (by simp; omega)]
      have hlen : ((s.data.toList.take k).map low7).length = k := by simp; omega
      have hconv : (convert 44 9 (.slice A k c)).run Tryd.prog wr = .ok (.string (plainB s)) wr := by
        unfold plainB
        rw [htk]
        rcases hown.2 with ⟨e, hn⟩ | ⟨g, cap, cur, e, _⟩
        · cases e
          exact run_convert_bytes_nil wr _ _ Tryd.underlying44 Tryd.underlying5 _ _ _ Tryd.underlying9
        · cases e
          refine run_convert_bytes_arg wr _ _ Tryd.underlying44 Tryd.underlying5 g 0 k c _ hlen (fun i hi => ?_) _ Tryd.underlying9
          generalize (s.data.toList.take k).map low7 = xs at *
          have := hown.cells (g := g) rfl i (.int .u8 (xs.getD i 0)) (by rw [List.getElem?_map, List.getElem?_eq_getElem (by omega)]; simp [List.getElem?_eq_getElem (show i < xs.length by omega)])
          by_cases e : i = 0 <;> simpa [Addr.add, e] using this
      have HB := Lib.hid hB
      clear htk hlen hown hB
      by_cases hlt : k < s.size
      · have hk4 : ¬ k < 40 := by omega
        clear hgo
        go_wp2
        go_ret
        exact ⟨rfl, HB.out⟩
      · clear hgo
        go_wp2
        go_ret
        exact ⟨rfl, HB.out⟩

def strX : ByteArray := ⟨#[120]⟩
/-- What text makes. -/
def TextIs (x : GAct) (P : Option Addr) (np pc n : Nat) (w : World) (e : Ending) (w' : World) : Prop := ∃ (k i m : Int) (s : ByteArray), e = .returned (.agg #[.int .u8 k, .slice P np pc, .string ⟨#[]⟩, .int .i64 i, .int .i64 0, .int .i64 m, .int .u8 0, .int .i64 0, .string ⟨#[]⟩, .slice none 0 0, .slice none 0 0, .string s]) ∧ Below w.heap.size w w' ∧
  ((k = 8 ∧ (∃ a : Nat, i = a ∧ a ≤ n) ∧ m = 0 ∧ s = strX ++ plainB x.s) ∨ (k = 9 ∧ s = ⟨#[]⟩ ∧ ∃ a b : Nat, i = a ∧ m = b ∧ 1 ≤ b ∧ a + b ≤ n))
/-- The boxes of text. -/
structure TB3 (w W : World) (cc ca cr : Array Value) : Prop where
  c : Whole W w.heap.size 34 cc
  a : Whole W (w.heap.size + 1) 46 ca
  r : Whole W (w.heap.size + 1 + 1) 34 cr
  below : Below w.heap.size w W
theorem TB3.new (w : World) (cc ca cr : Array Value) : TB3 w (((w.alloc (.cells cc 34)).alloc (.cells ca 46)).alloc (.cells cr 34)) cc ca cr := by
  have h1 := (Whole.new (w.alloc (.cells cc 34)) 46 ca).alloc (.cells cr 34)
  have h2 := Whole.new ((w.alloc (.cells cc 34)).alloc (.cells ca 46)) 34 cr
  rw [World.size_alloc] at h1
  rw [World.size_alloc, World.size_alloc] at h2
  exact ⟨((Whole.new w _ _).alloc _).alloc _, h1, h2, (((Below.refl _ w).alloc (Nat.le_refl _) _).alloc (by simp) _).alloc (by simp; omega) _⟩
theorem TB3.step {w W W' : World} {cc ca cr : Array Value} (h : TB3 w W cc ca cr) (hb : Below W.heap.size W W') : TB3 w W' cc ca cr :=
  ⟨h.c.below hb h.c.lt, h.a.below hb h.a.lt, h.r.below hb h.r.lt, h.below.trans (hb.mono h.below.size)⟩
theorem TB3.putC {w W : World} {cc ca cr : Array Value} (h : TB3 w W cc ca cr) (i : Nat) (u : Value) : TB3 w (W.setCell ⟨w.heap.size, i, none⟩ u) (cc.setIfInBounds i u) ca cr :=
  ⟨h.c.put i u, h.a.far (by simp) u, h.r.far (by simp; omega) u, h.below.setCell (Nat.le_refl _) u⟩
theorem act_cells {W : World} {b : Nat} {t : TypeId} {a0 a1 a2 a3 a4 a5 a6 : Value} (h : Whole W b t #[a0, a1, a2, a3, a4, a5, a6]) : W.cell? ⟨b, 0, none⟩ = some a0 ∧ W.cell? ⟨b, 1, none⟩ = some a1 ∧ W.cell? ⟨b, 2, none⟩ = some a2 ∧ W.cell? ⟨b, 3, none⟩ = some a3 ∧ W.cell? ⟨b, 4, none⟩ = some a4 ∧ W.cell? ⟨b, 5, none⟩ = some a5 ∧ W.cell? ⟨b, 6, none⟩ = some a6 :=
  ⟨h.cell 0, h.cell 1, h.cell 2, h.cell 3, h.cell 4, h.cell 5, h.cell 6⟩

end Go.Proofs.YthnljaheplhbkaaDoor
