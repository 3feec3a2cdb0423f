/- The document's own Deep and Weight: what they come to for a value, whatever it is. -/
import Derived.Test.YtjknicljbmakeaaDoorItems
import Derived.WalkKit
import Derived.WalkSpells
import Derived.WalkLawsBesides
import Derived.Lib.Hide
import Derived.BigQuiet
namespace Go.Proofs.YtjknicljbmakeaaDoor
open Go Go.RowKit

theorem deeps_take : ∀ (l : List GV) (k : Nat) (h : k < l.length), GV.deeps (l.take (k + 1)) = max (GV.deeps (l.take k)) (1 + l[k].deep)
  | [], _, h => by simp at h
  | x :: r, 0, _ => by simp [GV.deeps]
  | x :: r, k + 1, h => by
    have := deeps_take r k (by simpa using h)
    simp only [List.take_succ_cons, GV.deeps, List.getElem_cons_succ, this]
    omega
theorem weights_take : ∀ (l : List GV) (k : Nat) (h : k < l.length), GV.weights (l.take (k + 1)) = GV.weights (l.take k) + l[k].weight
  | [], _, h => by simp at h
  | x :: r, 0, _ => by simp [GV.weights]
  | x :: r, k + 1, h => by
    have := weights_take r k (by simpa using h)
    simp only [List.take_succ_cons, GV.weights, List.getElem_cons_succ, this]
    omega
theorem weights_take_le (l : List GV) (k : Nat) : GV.weights (l.take k) ≤ GV.weights l := by
  induction l generalizing k with
  | nil => simp
  | cons x r ih =>
    cases k with
    | zero => simp [GV.weights]
    | succ k => simp only [List.take_succ_cons, GV.weights]; have := ih k; omega
theorem sizes_get : ∀ (l : List GV) (k : Nat) (h : k < l.length), l[k].size ≤ GV.sizes l
  | [], _, h => by simp at h
  | x :: r, 0, _ => by simp [GV.sizes]
  | x :: r, k + 1, h => by
    have := sizes_get r k (by simpa using h)
    simp only [GV.sizes, List.getElem_cons_succ]
    omega
theorem deeps_take_le (l : List GV) (k : Nat) : GV.deeps (l.take k) ≤ GV.deeps l := by
  induction l generalizing k with
  | nil => simp
  | cons x r ih =>
    cases k with
    | zero => simp [GV.deeps]
    | succ k => simp only [List.take_succ_cons, GV.deeps]; have := ih k; omega
mutual
theorem deep_lt_size : ∀ (g : GV), g.deep < g.size
  | .mk k n s l ks ov => by
    have h1 := deeps_le_sizes l
    have h2 := deeps_le_sizes ov
    simp only [GV.deep, GV.size]
    omega
theorem deeps_le_sizes : ∀ (l : List GV), GV.deeps l ≤ GV.sizes l
  | [] => by simp [GV.deeps]
  | x :: r => by
    have h1 := deep_lt_size x
    have h2 := deeps_le_sizes r
    simp only [GV.deeps, GV.sizes]
    omega
end

/-- The cells of the k-th value of a list, and what they make. -/
theorem item_at {ok : Nat → Prop} {w : World} {b o : Nat} {l : List GV} (hE : GV.els ok w b 5 o l) (hK : Kind w ok b 28) {k : Nat} (hk : k < l.length) : ∃ A1 c1 A2 c2,
    (∀ W, Below w.heap.size w W → W.cell? ⟨b, o + k * 5, none⟩ = some (.int .u8 l[k].kind) ∧ W.cell? ⟨b, o + k * 5 + 1, none⟩ = some (.int .i64 l[k].num) ∧ W.cell? ⟨b, o + k * 5 + 2, none⟩ = some (.string l[k].str) ∧
      W.cell? ⟨b, o + k * 5 + 3, none⟩ = some (.slice A1 l[k].items.length c1) ∧ W.cell? ⟨b, o + k * 5 + 4, none⟩ = some (.slice A2 l[k].vals.length c2)) ∧
    (∀ W, Below w.heap.size w W → l[k].val (fun j => j < w.heap.size) W (.agg #[.int .u8 l[k].kind, .int .i64 l[k].num, .string l[k].str, .slice A1 l[k].items.length c1, .slice A2 l[k].vals.length c2])) := by
  have h := GV.els_get hE (List.getElem?_eq_getElem hk)
  obtain ⟨L, O, h0, h1, h2, h3, h4, hL, hO⟩ := GV.at_iff.1 h
  obtain ⟨A1, c1, rfl⟩ := lst_form hL
  obtain ⟨A2, c2, rfl⟩ := obj_form hO
  have hc : ∀ W, Below w.heap.size w W → ∀ j v, w.cell? ⟨b, j, none⟩ = some v → W.cell? ⟨b, j, none⟩ = some v := fun W hb j v hv => (hb.cell (p := ⟨b, j, none⟩) hK.lt).trans hv
  exact ⟨A1, c1, A2, c2, fun W hb => ⟨hc W hb _ _ h0, hc W hb _ _ h1, hc W hb _ _ h2, hc W hb _ _ h3, hc W hb _ _ h4⟩,
    fun W hb => ⟨_, _, rfl, hL.keep (fun j _ hj => hb.block j hj) (fun j _ hj => hj), hO.keep (fun j _ hj => hb.block j hj) (fun j _ hj => hj)⟩⟩
/-- The cells of the k-th field of an object, and what they make. -/
theorem field_at {ok : Nat → Prop} {w : World} {b o : Nat} {ks : List ByteArray} {l : List GV} (hks : KeysAt w b o ks) (hE : GV.els ok w b 6 (o + 1) l) (hK : Kind w ok b 36) {k : Nat} (hk : k < l.length) (hk' : k < ks.length) : ∃ A1 c1 A2 c2,
    (∀ W, Below w.heap.size w W → W.cell? ⟨b, o + k * 6, none⟩ = some (.string ks[k]) ∧ W.cell? ⟨b, o + k * 6 + 1, none⟩ = some (.int .u8 l[k].kind) ∧ W.cell? ⟨b, o + k * 6 + 1 + 1, none⟩ = some (.int .i64 l[k].num) ∧ W.cell? ⟨b, o + k * 6 + 1 + 2, none⟩ = some (.string l[k].str) ∧
      W.cell? ⟨b, o + k * 6 + 1 + 3, none⟩ = some (.slice A1 l[k].items.length c1) ∧ W.cell? ⟨b, o + k * 6 + 1 + 4, none⟩ = some (.slice A2 l[k].vals.length c2)) ∧
    (∀ W, Below w.heap.size w W → l[k].val (fun j => j < w.heap.size) W (.agg #[.int .u8 l[k].kind, .int .i64 l[k].num, .string l[k].str, .slice A1 l[k].items.length c1, .slice A2 l[k].vals.length c2])) := by
  have h := GV.els_get hE (List.getElem?_eq_getElem hk)
  have hkey := hks.get (List.getElem?_eq_getElem hk')
  rw [show o + 1 + k * 6 = o + k * 6 + 1 by omega] at h
  obtain ⟨L, O, h0, h1, h2, h3, h4, hL, hO⟩ := GV.at_iff.1 h
  obtain ⟨A1, c1, rfl⟩ := lst_form hL
  obtain ⟨A2, c2, rfl⟩ := obj_form hO
  have hc : ∀ W, Below w.heap.size w W → ∀ j v, w.cell? ⟨b, j, none⟩ = some v → W.cell? ⟨b, j, none⟩ = some v := fun W hb j v hv => (hb.cell (p := ⟨b, j, none⟩) hK.lt).trans hv
  exact ⟨A1, c1, A2, c2, fun W hb => ⟨hc W hb _ _ hkey, hc W hb _ _ h0, hc W hb _ _ h1, hc W hb _ _ h2, hc W hb _ _ h3, hc W hb _ _ h4⟩,
    fun W hb => ⟨_, _, rfl, hL.keep (fun j _ hj => hb.block j hj) (fun j _ hj => hj), hO.keep (fun j _ hj => hb.block j hj) (fun j _ hj => hj)⟩⟩

/-- Between the rounds: how far, and what was come to. -/
def DeepRel (W0 : World) (l : List GV) (z : Nat) (n i : Value) (wr : World) : Prop := ∃ k : Nat, i = .int .i64 k ∧ k ≤ l.length ∧ n = .int .i64 (max z (GV.deeps (l.take k)) : Nat) ∧ Below W0.heap.size W0 wr

set_option maxHeartbeats 8000000 in
theorem ref_Deep (F : Nat) : ∀ (ok : Nat → Prop) (v : Value) (g : GV) (w : World), g.size ≤ F → g.val ok w v → g.size ≤ 1000000000 →
    Calls Tryd.prog 25 #[v] w fun e w' => e = .returned (.int .i64 g.deep) ∧ Below w.heap.size w w' := by
  induction F with
  | zero => intro ok v g w hF; cases g with | mk k n s l ks ov => simp only [GV.size] at hF; omega
  | succ F ih =>
    intro ok v g w hF hv hsz
    obtain ⟨L, O, rfl, hL, hO⟩ := hv
    have hkl := hO.1
    obtain ⟨A, c, rfl, hc1, hc2, hf⟩ := hL.form
    obtain ⟨A', c', rfl, hc1', hc2', hf'⟩ := hO.form
    have hge := size_eq g
    have hde : g.deep = max (GV.deeps g.items) (GV.deeps g.vals) := by cases g with | mk k n s l ks ov => simp only [GV.deep, GV.items, GV.vals]
    have hd1 := deeps_le_sizes g.items
    have hd2 := deeps_le_sizes g.vals
    have hln1 := len_sizes g.items
    have hln2 := len_sizes g.vals
    rw [hde]
    unfold maxLen at hc2 hc2'
    generalize g.items = l at *
    generalize g.vals = ov at *
    generalize g.keys = ks at *
    generalize g.kind = gk
    generalize g.num = gn
    generalize g.str = gs
    have IH := Lib.hid ih
    have HF := Lib.hid hf
    have HF' := Lib.hid hf'
    have HSZ := Lib.hid (And.intro hF (And.intro hsz hge))
    have HDE := Lib.hid (And.intro hd1 hd2)
    have hll : l.length ≤ 1000000000 := by omega
    have hlo : ov.length ≤ 1000000000 := by omega
    have HKL := Lib.hid hkl
    clear ih hf hf' hF hsz hge hL hO hde hd1 hd2 hln1 hln2 hkl
    go_enter Tryd.func25, Tryd.ntmps25
    go_wp2
    have hB : Below w.heap.size w (w.alloc (.cells #[Value.int IntKind.u8 gk, Value.int IntKind.i64 gn, Value.string gs, Value.slice A l.length c, Value.slice A' ov.length c'] 28)) := (Below.refl _ _).alloc (Nat.le_refl _) _
    have hW := Whole.new w 28 #[Value.int IntKind.u8 gk, Value.int IntKind.i64 gn, Value.string gs, Value.slice A l.length c, Value.slice A' ov.length c']
    generalize (w.alloc (.cells #[Value.int IntKind.u8 gk, Value.int IntKind.i64 gn, Value.string gs, Value.slice A l.length c, Value.slice A' ov.length c'] 28)) = W0 at hB hW ⊢
    have HW := Lib.hid hW
    have HB := Lib.hid hB
    clear hW hB
    go_loopw [3, 4] (DeepRel W0 l 0) (fun _ i _ => l.length - (intOf i).toNat)
    case atStart => exact ⟨0, rfl, Nat.zero_le _, by simp [GV.deeps], Below.refl _ _⟩
    case round =>
      obtain ⟨k, rfl, hk, rfl, hr⟩ := hrel
      have hx3 : wr.cell? ⟨w.heap.size, 3, none⟩ = some (.slice A l.length c) := ((HW.out.below hr HW.out.lt).cell 3).trans rfl
      have hwr : Below w.heap.size w wr := HB.out.trans (hr.mono HB.out.size)
      have HR := Lib.hid hr
      clear hr
      have hd0 : max 0 (GV.deeps (l.take k)) ≤ 1000000000 := by have := deeps_take_le l k; have := HDE.out.1; have := HSZ.out; omega
      by_cases hlt : k < l.length
      · obtain ⟨b, o, rfl, hK, hE⟩ := HF.out (by intro e; rw [e] at hlt; simp at hlt)
        obtain ⟨A1, c1, A2, c2, hcells, hval⟩ := item_at hE hK hlt
        obtain ⟨q0, q1, q2, q3, q4⟩ := hcells wr hwr
        have hz := hval wr hwr
        have hs := sizes_get l k hlt
        have hs2 := HSZ.out
        have hs3 := deep_lt_size l[k]
        have hxd : l[k].deep ≤ 1000000000 := by omega
        have hcall := IH.out _ _ l[k] wr (by omega) hz (by omega)
        have HT := Lib.hid (deeps_take l k hlt)
        have HC := Lib.hid hcall
        clear hcells hval hz hs hs2 hs3 hcall hE hK
        generalize l[k] = x at *
        generalize hm : max 0 (GV.deeps (l.take k)) = m at *
        have HM := Lib.hid hm
        clear hm
        go_wp2_with (go_at_call 25; refine HC.out.mono ?_; rintro e W1 ⟨rfl, hb1⟩; have HB1 := Lib.hid hb1; clear hb1)
        go_roundw
        case rel => exact ⟨k + 1, by go_simp, by omega, by have h1 := HT.out; have h2 := HM.out; congr 1; rw [h1]; omega, HR.out.trans (HB1.out.mono HR.out.size)⟩
        case measure => simp [intOf]; omega
      · have hkl : k = l.length := by omega
        subst hkl
        rw [List.take_length, Nat.zero_max] at *
        generalize hz : GV.deeps l = z at *
        have HZ := Lib.hid hz
        clear hz
        go_wp2
        clear hx3 hwr
        go_loopw [3, 5] (DeepRel W0 ov z) (fun _ i _ => ov.length - (intOf i).toNat)
        case atStart => exact ⟨0, rfl, Nat.zero_le _, by simp [GV.deeps], HR.out⟩
        case round =>
          clear HR
          obtain ⟨k, rfl, hk, rfl, hr⟩ := hrel
          have hx4 : wr.cell? ⟨w.heap.size, 4, none⟩ = some (.slice A' ov.length c') := ((HW.out.below hr HW.out.lt).cell 4).trans rfl
          have hwr : Below w.heap.size w wr := HB.out.trans (hr.mono HB.out.size)
          have HR := Lib.hid hr
          clear hr
          have hd0 : max z (GV.deeps (ov.take k)) ≤ 1000000000 := by have := deeps_take_le ov k; have h1 := HDE.out; have := HSZ.out; have := HZ.out; omega
          by_cases hlt : k < ov.length
          · obtain ⟨b, o, rfl, hK, hks, hE⟩ := HF'.out (by intro e; rw [e] at hlt; simp at hlt)
            obtain ⟨A1, c1, A2, c2, hcells, hval⟩ := field_at hks hE hK hlt (by have := HKL.out; omega)
            obtain ⟨_, q0, q1, q2, q3, q4⟩ := hcells wr hwr
            have hz := hval wr hwr
            have hs := sizes_get ov k hlt
            have hs2 := HSZ.out
            have hs3 := deep_lt_size ov[k]
            have hxd : ov[k].deep ≤ 1000000000 := by omega
            have hcall := IH.out _ _ ov[k] wr (by omega) hz (by omega)
            have HT := Lib.hid (deeps_take ov k hlt)
            have HC := Lib.hid hcall
            clear hcells hval hz hs hs2 hs3 hcall hE hK hks
            generalize ov[k] = x at *
            generalize hm : max z (GV.deeps (ov.take k)) = m at *
            have HM := Lib.hid hm
            clear hm
            go_wp2_with (go_at_call 25; refine HC.out.mono ?_; rintro e W1 ⟨rfl, hb1⟩; have HB1 := Lib.hid hb1; clear hb1)
            go_roundw
            case rel => exact ⟨k + 1, by go_simp, by omega, by have h1 := HT.out; have h2 := HM.out; congr 1; rw [h1]; omega, HR.out.trans (HB1.out.mono HR.out.size)⟩
            case measure => simp [intOf]; omega
          · have hkl : k = ov.length := by omega
            subst hkl
            rw [List.take_length] at *
            go_wp2
            refine bodyPost_ret (v := .int .i64 (max z (GV.deeps ov) : Nat)) (by simp [results, Tryd.results25, go_sem]) rfl ?_
            exact ⟨by rw [HZ.out], hwr⟩
end Go.Proofs.YtjknicljbmakeaaDoor
