/- JsonNumbers returns true. -/
import Derived.Test.YtmmjkhkcffgeiaaDoorJLawX
namespace Go.Proofs.YtmmjkhkcffgeiaaDoor
open Go Go.RowKit Go.Shelf
set_option linter.unusedVariables false
set_option linter.unusedSimpArgs false

def numG (n : Int) : GV := .mk 2 n ⟨#[]⟩ [] [] []
theorem numG_enc (n : Int) : (numG n).enc = Lib.itoa n := by unfold numG; rw [enc_2]
theorem numG_j {n : Int} (hn : -9223372036854775808 ≤ n ∧ n ≤ 9223372036854775807) : JV (numG n) :=
  ⟨rs_leaf2 n hn, by simp [numG, GV.Sound, GV.Sounds, SelfP, show (⟨#[]⟩ : ByteArray).toList = [] from by decide +kernel], by unfold numG; rw [deep_leaf]; omega, by simp only [numG, GV.PosN, GV.PosNs]; exact ⟨⟨by decide, hn.1, hn.2⟩, trivial, trivial⟩, by unfold numG; rw [GV.mass, GV.masses]; decide⟩
theorem numG_val (W : World) (n : Int) : (numG n).val (fun _ => True) W (.agg #[.int .u8 2, .int .i64 n, .string ⟨#[]⟩, .slice none 0 0, .slice none 0 0]) := ⟨_, _, rfl, .inl ⟨rfl, rfl⟩, rfl, .inl ⟨rfl, rfl⟩⟩
/-- A text that begins with a digit, or the sign, is a number's or none's. -/
theorem is_num {s : ByteArray} {g : GV} (h : Is s g) {c : UInt8} {r : List UInt8} (hs : s.data.toList = c :: r) (hk : headKind c = 2) : ∃ m : Int, s.data.toList = Lib.itoa m := by
  obtain ⟨h1, _, _⟩ := h
  have hk2 := h1
  rw [hs] at hk2
  obtain ⟨m, _, hg⟩ := rs_2 h1.1 ((vat_head hk2).trans hk)
  refine ⟨m, ?_⟩
  have := h1.2.2.1
  rw [hg, enc_2, List.append_nil] at this
  exact this
theorem dd_zero : ∀ (u : Nat) {r : List UInt8}, Lib.decDigits u = 48 :: r → u = 0 := by
  intro u
  induction u using Nat.strongRecOn with
  | ind u ih =>
    intro r h
    by_cases hu : u < 10
    · rw [dd_small hu] at h
      have h1 := (List.cons.inj h).1
      have h2 := congrArg UInt8.toNat h1
      simp [UInt8.toNat_ofNat'] at h2
      omega
    · rw [dd_big hu] at h
      obtain ⟨x, t, hx⟩ := List.exists_cons_of_ne_nil (dd_ne (u / 10))
      rw [hx, List.cons_append] at h
      have hx2 : x = 48 := (List.cons.inj h).1
      subst hx2
      have := ih (u / 10) (by omega) hx
      omega
theorem itoa_zero {m : Int} {r : List UInt8} (h : Lib.itoa m = 48 :: r) : r = [] := by
  unfold Lib.itoa at h
  split at h
  · simp at h
  · have h0 := dd_zero _ h
    rw [h0, dd_small (by decide)] at h
    exact (List.cons.inj h).2.symm
theorem itoa_ne (n : Int) : Lib.itoa n ≠ [] := by
  obtain ⟨c, t, h, _⟩ := itoa_head n
  rw [h]; simp
theorem itoa_last {m : Int} {l : List UInt8} {c : UInt8} (h : Lib.itoa m = l ++ [c]) : isD c = true := by
  unfold Lib.itoa at h
  split at h
  · cases l with
    | nil =>
      simp at h
      exact absurd h.2 (dd_ne _)
    | cons x l =>
      simp only [List.cons_append, List.cons.injEq] at h
      exact dd_all _ c (by rw [h.2]; simp)
  · exact dd_all _ c (by rw [h]; simp)
theorem not_zero (n : Int) : ¬ ∃ g, Is (⟨#[48]⟩ ++ ⟨(Lib.itoa n).toArray⟩) g := fun ⟨g, h⟩ => by
  have e : ((⟨#[48]⟩ : ByteArray) ++ ⟨(Lib.itoa n).toArray⟩).data.toList = 48 :: Lib.itoa n := by simp
  obtain ⟨m, hm⟩ := is_num h e (by decide)
  rw [e] at hm
  exact itoa_ne n (itoa_zero hm.symm)
theorem not_plus (n : Int) : ¬ ∃ g, Is (⟨#[43]⟩ ++ ⟨(Lib.itoa n).toArray⟩) g := fun ⟨g, h1, _⟩ => by
  have e : ((⟨#[43]⟩ : ByteArray) ++ ⟨(Lib.itoa n).toArray⟩).data.toList = 43 :: Lib.itoa n := by simp
  rw [e] at h1
  exact vat_no (m := 16) (c := 43) (by decide) ⟨g, [], h1⟩
theorem not_blank (n : Int) : ¬ ∃ g, Is (⟨(Lib.itoa n).toArray⟩ ++ ⟨#[32]⟩) g := fun ⟨g, h⟩ => by
  have e : ((⟨(Lib.itoa n).toArray⟩ : ByteArray) ++ ⟨#[32]⟩).data.toList = Lib.itoa n ++ [32] := by simp
  obtain ⟨c, t, hc, hk⟩ := itoa_head n
  obtain ⟨m, hm⟩ := is_num h (c := c) (r := t ++ [32]) (by rw [e, hc]; rfl) hk
  rw [e] at hm
  have := itoa_last hm.symm
  simp [isD] at this
theorem itoa_small {n : Int} (hn : -9223372036854775808 ≤ n ∧ n ≤ 9223372036854775807) : (⟨(Lib.itoa n).toArray⟩ : ByteArray).size ≤ 20 := by
  have := itoa_len hn.1 hn.2
  show (Lib.itoa n).toArray.size ≤ 20
  simpa using this

theorem numG_is {n : Int} (h : JV (numG n)) : Is ⟨(Lib.itoa n).toArray⟩ (numG n) := by
  have := h.is
  rwa [numG_enc] at this
theorem cat_small {a : UInt8} {b : ByteArray} (h : b.size ≤ 20) : ((⟨#[a]⟩ : ByteArray) ++ b).size ≤ 60000 := by
  rw [ByteArray.size_append]
  show 1 + b.size ≤ 60000
  omega
theorem cat_small2 {a : UInt8} {b : ByteArray} (h : b.size ≤ 20) : (b ++ (⟨#[a]⟩ : ByteArray)).size ≤ 60000 := by
  rw [ByteArray.size_append]
  show b.size + 1 ≤ 60000
  omega
set_option maxHeartbeats 4000000 in
set_option maxRecDepth 100000 in
theorem jnum_great (n : Int) (s : ByteArray) (w : World) (h : JT w) (hs : 500 < s.size) : Calls Tryd.prog 8 #[.int .i64 n, .string s] w (TrueOut w) := by
  have h1 : decide ((500 : Int) < (s.size : Int)) = true := by simp; omega
  have HK := Lib.hid (jknown_true w h)
  clear h hs
  go_enter Tryd.func8, Tryd.ntmps8
  go_wp2_with (go_at_call 10; refine HK.out.mono ?_; rintro e w1 ⟨rfl, hb⟩)
  go_ret
  exact ⟨rfl, hb⟩
set_option maxHeartbeats 4000000 in
set_option maxRecDepth 100000 in
theorem jnum_small (n : Int) (hn : -9223372036854775808 ≤ n ∧ n ≤ 9223372036854775807) (s : ByteArray) (w : World) (h : JT w) (hs : s.size ≤ 500) : Calls Tryd.prog 8 #[.int .i64 n, .string s] w (TrueOut w) := by
  have h1 : decide ((500 : Int) < (s.size : Int)) = false := by simp; omega
  have HK := Lib.hid (jknown_true w h)
  have HJ := Lib.hid h
  have HN := Lib.hid (numG_j hn)
  have HZ := Lib.hid (itoa_small hn)
  have q1 : ¬ 9223372036854775807 < 1 + (Lib.itoa n).length := by have := itoa_len hn.1 hn.2; omega
  have q2 : ¬ 9223372036854775807 < (Lib.itoa n).length + 1 := by have := itoa_len hn.1 hn.2; omega
  clear h hs hn
  go_enter Tryd.func8, Tryd.ntmps8
  go_wp2_with (first
    | (go_at_call 10; (with_reducible refine HK.out.mono ?_); rintro e w1 ⟨rfl, hb⟩; have H1 := Lib.hid hb; clear hb)
    | (go_at_call 11; (with_reducible refine (enc_is (fun _ => True) _ (numG n) _ (HJ.out.below H1.out) (numG_val _ n) HN.out.posN HN.out.snd HN.out.fits).mono ?_); rintro e w2 ⟨he, hb⟩; rw [numG_enc] at he; subst he; have H2 := Lib.hid (below_next H1.out hb); clear hb)
    | (go_at_call 12; (with_reducible refine (dec_is _ (numG n) _ (HJ.out.below H2.out) (Nat.le_trans HZ.out (by decide)) (numG_is HN.out)).mono ?_); rintro e w3 ⟨BL, dL, BO, dO, he, hL, hO, hb⟩; have he2 : e = .returned (.tuple #[.agg #[.int .u8 2, .int .i64 n, .string ⟨#[]⟩, .slice BL 0 dL, .slice BO 0 dO], .int .u16 0]) := he; subst he2; have H3 := Lib.hid (below_next H2.out hb); have HW3 := Lib.hid (Whole.new w3 31 #[.int .u8 2, .int .i64 n, .string ⟨#[]⟩, .slice BL 0 dL, .slice BO 0 dO]); clear hb hL hO he)
    | (go_at_call 12; (with_reducible refine (dec_isnot _ _ (HJ.out.below (below_new H3.out _)) (cat_small HZ.out) (not_zero n)).mono ?_); rintro e w4 ⟨rfl, hb⟩; have hx := HW3.out.below hb HW3.out.lt; have HW4 := Lib.hid (hx.alloc (.cells #[.int .u8 0, .int .i64 0, .string ⟨#[]⟩, .slice none 0 0, .slice none 0 0] 31)); have H4 := Lib.hid (below_then H3.out hb); clear hb hx)
    | (go_at_call 12; (with_reducible refine (dec_isnot _ _ (HJ.out.below (below_new H4.out _)) (cat_small HZ.out) (not_plus n)).mono ?_); rintro e w5 ⟨rfl, hb⟩; have hx := HW4.out.below hb HW4.out.lt; have HW5 := Lib.hid (hx.alloc (.cells #[.int .u8 0, .int .i64 0, .string ⟨#[]⟩, .slice none 0 0, .slice none 0 0] 31)); have H5 := Lib.hid (below_then H4.out hb); clear hb hx)
    | (go_at_call 12; (with_reducible refine (dec_isnot _ _ (HJ.out.below (below_new H5.out _)) (cat_small2 HZ.out) (not_blank n)).mono ?_); rintro e w6 ⟨rfl, hb⟩; have hx := HW5.out.below hb HW5.out.lt; have b0 := fun o => cell_alloc o ((hx.cell 0).trans rfl); have b1 := fun o => cell_alloc o ((hx.cell 1).trans rfl); have H6 := Lib.hid (below_then H5.out hb); clear hb hx))
  go_ret
  exact ⟨rfl, below_new H6.out _⟩
theorem jnum_row (hi : Nat) (n : Int) (s : ByteArray) (w : World) (_ : hi ≤ w.heap.size) (_ : s.size ≤ 140737488351232) (hn : -9223372036854775808 ≤ n ∧ n ≤ 9223372036854775807) (h : JT w) : Calls Tryd.prog 8 #[.int .i64 n, .string s] w (TrueOut w) := by
  by_cases hs : s.size ≤ 500
  · exact jnum_small n hn s w h hs
  · exact jnum_great n s w h (by omega)
end Go.Proofs.YtmmjkhkcffgeiaaDoor
