/- What json's reader reads of a text, as plain mathematics: values. -/
import Derived.Test.YtmmjkhkcffgeiaaDoorRdF
namespace Go.Proofs.YtmmjkhkcffgeiaaDoor
open Go Go.RowKit

/-- A value's text stands at the head of l, r is left; the value is at most m deep. -/
def VAt (m : Nat) (l : List UInt8) (g : GV) (r : List UInt8) : Prop := g.RS ∧ g.deep ≤ m ∧ l = g.enc ++ r ∧ (g.kind = 2 → Nd r)
theorem vat_one {m m' : Nat} {l : List UInt8} {g g' : GV} {r r' : List UInt8} (h : VAt m l g r) (h' : VAt m' l g' r') : g = g' ∧ r = r' :=
  enc_apart g g' r r' h.1 h'.1 h.2.2.2 h'.2.2.2 (h.2.2.1.symm.trans h'.2.2.1)
theorem vat_head {m : Nat} {c : UInt8} {r0 : List UInt8} {g : GV} {r : List UInt8} (h : VAt m (c :: r0) g r) : g.kind = headKind c := by
  obtain ⟨d, t, he, hk⟩ := enc_head h.1
  have := h.2.2.1
  rw [he, List.cons_append] at this
  rw [(List.cons.inj this).1]
  exact hk.symm
theorem vat_nil {m : Nat} : ¬ ∃ g r, VAt m [] g r := fun ⟨g, r, h⟩ => by
  obtain ⟨d, t, he, _⟩ := enc_head h.1
  have := h.2.2.1
  rw [he] at this
  cases this
theorem vat_no {m : Nat} {c : UInt8} {r0 : List UInt8} (h : headKind c = 9) : ¬ ∃ g r, VAt m (c :: r0) g r := fun ⟨g, r, e⟩ => by
  have hk := vat_head e
  rw [h] at hk
  have := e.1
  cases g with
  | mk k n s l ks ov =>
    simp only [GV.RS] at this
    simp only [GV.kind] at hk
    have := this.1.1
    omega
theorem ks_nil {ks : List ByteArray} {ov : List GV} (h : ks.length = ov.length) (e : ov = []) : ks = [] := List.length_eq_zero_iff.1 (by rw [h, e]; rfl)
theorem rs_0 {g : GV} (h : g.RS) (hk : g.kind = 0) : g = .mk 0 0 ⟨#[]⟩ [] [] [] := by
  cases g with
  | mk k n s l ks ov =>
    simp only [GV.RS, GV.kind] at h hk
    subst hk
    obtain ⟨⟨_, h2, h3, h4, h5, h6⟩, _⟩ := h
    simp at h2 h3 h4 h5
    have := ks_nil h6 h5
    subst h2 h3 h4 h5 this
    rfl
theorem rs_1 {g : GV} (h : g.RS) (hk : g.kind = 1) : g = .mk 1 0 ⟨#[]⟩ [] [] [] ∨ g = .mk 1 1 ⟨#[]⟩ [] [] [] := by
  cases g with
  | mk k n s l ks ov =>
    simp only [GV.RS, GV.kind] at h hk
    subst hk
    obtain ⟨⟨_, h2, h3, h4, h5, h6⟩, _⟩ := h
    simp at h3 h4 h5
    have := ks_nil h6 h5
    subst h3 h4 h5 this
    have : n = 0 ∨ n = 1 := by omega
    rcases this with rfl | rfl
    · exact .inl rfl
    · exact .inr rfl
theorem rs_2 {g : GV} (h : g.RS) (hk : g.kind = 2) : ∃ n : Int, (-9223372036854775808 ≤ n ∧ n ≤ 9223372036854775807) ∧ g = .mk 2 n ⟨#[]⟩ [] [] [] := by
  cases g with
  | mk k n s l ks ov =>
    simp only [GV.RS, GV.kind] at h hk
    subst hk
    obtain ⟨⟨_, h2, h3, h4, h5, h6⟩, _⟩ := h
    simp at h3 h4 h5
    have := ks_nil h6 h5
    subst h3 h4 h5 this
    exact ⟨n, by omega, rfl⟩
theorem rs_3 {g : GV} (h : g.RS) (hk : g.kind = 3) : ∃ s, g = .mk 3 0 s [] [] [] := by
  cases g with
  | mk k n s l ks ov =>
    simp only [GV.RS, GV.kind] at h hk
    subst hk
    obtain ⟨⟨_, h2, h3, h4, h5, h6⟩, _⟩ := h
    simp at h2 h4 h5
    have := ks_nil h6 h5
    subst h2 h4 h5 this
    exact ⟨s, rfl⟩
theorem rs_4 {g : GV} (h : g.RS) (hk : g.kind = 4) : ∃ l, GV.RSs l ∧ g = .mk 4 0 ⟨#[]⟩ l [] [] := by
  cases g with
  | mk k n s l ks ov =>
    simp only [GV.RS, GV.kind] at h hk
    subst hk
    obtain ⟨⟨_, h2, h3, h4, h5, h6⟩, hl, _⟩ := h
    simp at h2 h3 h5
    have := ks_nil h6 h5
    subst h2 h3 h5 this
    exact ⟨l, hl, rfl⟩
theorem rs_5 {g : GV} (h : g.RS) (hk : g.kind = 5) : ∃ ks ov, ks.length = ov.length ∧ GV.RSs ov ∧ g = .mk 5 0 ⟨#[]⟩ [] ks ov := by
  cases g with
  | mk k n s l ks ov =>
    simp only [GV.RS, GV.kind] at h hk
    subst hk
    obtain ⟨⟨_, h2, h3, h4, h5, h6⟩, _, ho⟩ := h
    simp at h2 h3 h4
    subst h2 h3 h4
    exact ⟨ks, ov, h6, ho, rfl⟩
theorem rs_leaf0 : (GV.mk 0 0 ⟨#[]⟩ [] [] []).RS := by simp [GV.RS, GV.RSs, RSelf]
theorem rs_leaf1 (n : Int) (h : n = 0 ∨ n = 1) : (GV.mk 1 n ⟨#[]⟩ [] [] []).RS := by simp [GV.RS, GV.RSs, RSelf]; exact h
theorem rs_leaf2 (n : Int) (h : -9223372036854775808 ≤ n ∧ n ≤ 9223372036854775807) : (GV.mk 2 n ⟨#[]⟩ [] [] []).RS := by simp [GV.RS, GV.RSs, RSelf]; omega
theorem rs_leaf3 (s : ByteArray) : (GV.mk 3 0 s [] [] []).RS := by simp [GV.RS, GV.RSs, RSelf]
theorem deep_leaf (k n : Int) (s : ByteArray) : (GV.mk k n s [] [] []).deep = 0 := by simp [GV.deep, GV.deeps]
theorem vat_null (m : Nat) (r : List UInt8) : VAt m ([110, 117, 108, 108] ++ r) (.mk 0 0 ⟨#[]⟩ [] [] []) r := ⟨rs_leaf0, by rw [deep_leaf]; omega, by rw [enc_0], fun h => by cases h⟩
theorem vat_true (m : Nat) (r : List UInt8) : VAt m ([116, 114, 117, 101] ++ r) (.mk 1 1 ⟨#[]⟩ [] [] []) r := ⟨rs_leaf1 1 (.inr rfl), by rw [deep_leaf]; omega, by rw [enc_1, if_pos rfl], fun h => by cases h⟩
theorem vat_false (m : Nat) (r : List UInt8) : VAt m ([102, 97, 108, 115, 101] ++ r) (.mk 1 0 ⟨#[]⟩ [] [] []) r := ⟨rs_leaf1 0 (.inl rfl), by rw [deep_leaf]; omega, by rw [enc_1, if_neg (by decide)], fun h => by cases h⟩
theorem vat_text (m : Nat) (t r : List UInt8) : VAt m (encText t ++ r) (.mk 3 0 ⟨t.toArray⟩ [] [] []) r := ⟨rs_leaf3 _, by rw [deep_leaf]; omega, by rw [enc_3], fun h => by cases h⟩
theorem vat_int (m : Nat) (n : Int) (hn : -9223372036854775808 ≤ n ∧ n ≤ 9223372036854775807) (r : List UInt8) (hr : Nd r) : VAt m (Lib.itoa n ++ r) (.mk 2 n ⟨#[]⟩ [] [] []) r := ⟨rs_leaf2 n hn, by rw [deep_leaf]; omega, by rw [enc_2], fun _ => hr⟩
theorem no_null {m : Nat} {r0 : List UInt8} (h : Lib.hasPrefix (110 :: r0) [110, 117, 108, 108] = false) : ¬ ∃ g r, VAt m (110 :: r0) g r := fun ⟨g, r, e⟩ => by
  have hg := rs_0 e.1 (vat_head e)
  have := e.2.2.1
  rw [hg, enc_0] at this
  rw [pre_yes this] at h
  cases h
theorem no_true {m : Nat} {r0 : List UInt8} (h : Lib.hasPrefix (116 :: r0) [116, 114, 117, 101] = false) : ¬ ∃ g r, VAt m (116 :: r0) g r := fun ⟨g, r, e⟩ => by
  have := e.2.2.1
  rcases rs_1 e.1 (vat_head e) with hg | hg
  · rw [hg, enc_1, if_neg (by decide)] at this
    simp at this
  · rw [hg, enc_1, if_pos rfl] at this
    rw [pre_yes this] at h
    cases h
theorem no_false {m : Nat} {r0 : List UInt8} (h : Lib.hasPrefix (102 :: r0) [102, 97, 108, 115, 101] = false) : ¬ ∃ g r, VAt m (102 :: r0) g r := fun ⟨g, r, e⟩ => by
  have := e.2.2.1
  rcases rs_1 e.1 (vat_head e) with hg | hg
  · rw [hg, enc_1, if_neg (by decide)] at this
    rw [pre_yes this] at h
    cases h
  · rw [hg, enc_1, if_pos rfl] at this
    simp at this
theorem no_text {m : Nat} {r0 : List UInt8} (h : ¬ ∃ t r, Txt r0 t r) : ¬ ∃ g r, VAt m (34 :: r0) g r := fun ⟨g, r, e⟩ => by
  obtain ⟨s, hg⟩ := rs_3 e.1 (vat_head e)
  have := e.2.2.1
  rw [hg, enc_3, encText, List.cons_append, List.append_assoc] at this
  exact h ⟨s.data.toList, r, (List.cons.inj this).2⟩
theorem pre_split {l p : List UInt8} (h : Lib.hasPrefix l p = true) : ∃ r, l = p ++ r := by
  unfold Lib.hasPrefix at h
  obtain ⟨t, ht⟩ := List.isPrefixOf_iff_prefix.1 h
  exact ⟨t, ht.symm⟩
/-- How a read ends. -/
def ROut (m R : Nat) (s : ByteArray) (i d : Nat) (W : World) (e : Ending) (w' : World) : Prop :=
  (∃ (g : GV) (j : Nat) (v : Value), VAt m (rest s i) g (rest s j) ∧ e = .returned v ∧ g.val (fun k => W.heap.size ≤ k) w' v ∧ At w' R s j d ∧ Rd R W w') ∨ ((¬ ∃ g r, VAt m (rest s i) g r) ∧ Bad R W e w')
theorem rout_bad {m R : Nat} {s : ByteArray} {i d : Nat} {W : World} {e : Ending} {w' : World} (h : ¬ ∃ g r, VAt m (rest s i) g r) (hb : Bad R W e w') : ROut m R s i d W e w' := .inr ⟨h, hb⟩
theorem leaf_val (ok : Nat → Prop) (W : World) (k n : Int) (s : ByteArray) : (GV.mk k n s [] [] []).val ok W (.agg #[.int .u8 k, .int .i64 n, .string s, .slice none 0 0, .slice none 0 0]) :=
  ⟨_, _, rfl, .inl ⟨rfl, rfl⟩, rfl, .inl ⟨rfl, rfl⟩⟩
end Go.Proofs.YtmmjkhkcffgeiaaDoor
