/- The document's own Check and Do, of lists of numbers. -/
import Derived.Test.YtlgggalbngpelaaSeqR
import Derived.Test.YtlgggalbngpelaaSeqE
namespace Go.Proofs.Ytlgggalbngpelaa
open Go Go.RowKit
set_option linter.unusedVariables false
set_option linter.unusedSimpArgs false

theorem rknown_any (k : Nat) (i j : Int) (a v : Int) (w : World) : Calls Try.prog 35 #[.agg #[.int .u8 k, .slice none 0 0, .string ⟨#[]⟩, .int .i64 i, .int .i64 j, .int .i64 0, .int .u8 a, .int .i64 v, .string ⟨#[]⟩, .slice none 0 0, .slice none 0 0, .string ⟨#[]⟩]] w fun e w' => e = .returned (.bool (listK k)) ∧ Below w.heap.size w w' := by
  rcases (show k = 4 ∨ k = 5 ∨ k = 6 ∨ k = 7 ∨ (k ≠ 4 ∧ k ≠ 5 ∧ k ≠ 6 ∧ k ≠ 7) by omega) with rfl | rfl | rfl | rfl | ⟨h4, h5, h6, h7⟩
  case inr.inr.inr.inr =>
    rw [show listK k = false by simp [listK, h4, h5, h6, h7]]
    have g4 : ((k : Int) == 4) = false := by simp; omega
    have g5 : ((k : Int) == 5) = false := by simp; omega
    have g6 : ((k : Int) == 6) = false := by simp; omega
    have g7 : ((k : Int) == 7) = false := by simp; omega
    clear h4 h5 h6 h7
    go_enter Try.func35, Try.ntmps35
    go_wp2
    go_ret
    exact ⟨rfl, below_alloc _ _⟩
  all_goals
    go_enter Try.func35, Try.ntmps35
    go_wp2
    go_ret
    exact ⟨rfl, below_alloc _ _⟩
set_option maxRecDepth 100000 in
set_option maxHeartbeats 8000000 in
theorem rcheck_any (M k : Nat) (i j : Int) (a v : Int) (w : World) : Calls Try.prog 19 #[.int .i64 M, .agg #[.int .u8 k, .slice none 0 0, .string ⟨#[]⟩, .int .i64 i, .int .i64 j, .int .i64 0, .int .u8 a, .int .i64 v, .string ⟨#[]⟩, .slice none 0 0, .slice none 0 0, .string ⟨#[]⟩]] w fun e w' => e = .returned (.int .i64 (chk M k i j)) ∧ Below w.heap.size w w' := by
  have H0 := Lib.hid (Whole.new w 29 #[.int .u8 k, .slice none 0 0, .string ⟨#[]⟩, .int .i64 i, .int .i64 j, .int .i64 0, .int .u8 a, .int .i64 v, .string ⟨#[]⟩, .slice none 0 0, .slice none 0 0, .string ⟨#[]⟩])
  have HB := Lib.hid (below_alloc w (.cells #[.int .u8 k, .slice none 0 0, .string ⟨#[]⟩, .int .i64 i, .int .i64 j, .int .i64 0, .int .u8 a, .int .i64 v, .string ⟨#[]⟩, .slice none 0 0, .slice none 0 0, .string ⟨#[]⟩] 29))
  have HKN := Lib.hid (fun W => rknown_any k i j a v W)
  have hr : chk M k i j = if listK k = false then 31 else if (i < 0 ∨ (M : Int) < i) ∨ (i = M ∧ k ≠ 4) then 32 else if k = 7 ∧ (j < 0 ∨ (M : Int) ≤ j) then 32 else 0 := by
    unfold chk withinB listK
    by_cases h4 : k = 4
    · subst h4; simp; split <;> split <;> omega
    · by_cases h5 : k = 5
      · subst h5; simp; split <;> split <;> omega
      · by_cases h6 : k = 6
        · subst h6; simp; split <;> split <;> omega
        · by_cases h7 : k = 7
          · subst h7; simp; (repeat' split) <;> omega
          · simp [h4, h5, h6, h7]
  generalize chk M k i j = r at *
  have HR := Lib.hid hr
  clear hr
  have g4 : ((k : Int) != 4) = !decide (k = 4) := by by_cases h : k = 4 <;> simp [h]; omega
  have g7 : ((k : Int) == 7) = decide (k = 7) := by by_cases h : k = 7 <;> simp [h]; omega
  have G4 := Lib.hid g4
  have G7 := Lib.hid g7
  clear g4 g7
  cases hl : listK k
  · have h := HR.out
    rw [if_pos hl] at h
    subst h
    rw [hl] at HKN
    clear HR hl
    go_enter Try.func19, Try.ntmps19
    go_wp2_with (go_at_call 35; refine (HKN.out _).mono ?_; rintro e w1 ⟨rfl, hb⟩; have B1 := Lib.hid (HB.out.trans (hb.mono HB.out.size)); clear hb)
    go_ret
    exact ⟨rfl, B1.out⟩
  · have h := HR.out
    rw [if_neg (by simp [hl])] at h
    rw [hl] at HKN
    clear HR hl
    by_cases c1 : (i < 0 ∨ (M : Int) < i) ∨ (i = M ∧ k ≠ 4)
    · rw [if_pos c1] at h
      subst h
      rcases c1 with (c1 | c1) | ⟨c1, c2⟩
      · have e1 : decide (i < 0) = true := by simpa using c1
        go_enter Try.func19, Try.ntmps19
        go_wp2_with (go_at_call 35; refine (HKN.out _).mono ?_; rintro e w1 ⟨rfl, hb⟩; have H1 := Lib.hid (H0.out.below hb H0.out.lt); have B1 := Lib.hid (HB.out.trans (hb.mono HB.out.size)); have q0 := H1.out.tw.c0; have q3 := H1.out.tw.c3; have q4 := H1.out.tw.c4; clear hb)
        go_ret
        exact ⟨rfl, B1.out⟩
      · have e1 : decide (i < 0) = false := by simp; omega
        have e2 : decide ((M : Int) < i) = true := by simpa using c1
        go_enter Try.func19, Try.ntmps19
        go_wp2_with (go_at_call 35; refine (HKN.out _).mono ?_; rintro e w1 ⟨rfl, hb⟩; have H1 := Lib.hid (H0.out.below hb H0.out.lt); have B1 := Lib.hid (HB.out.trans (hb.mono HB.out.size)); have q0 := H1.out.tw.c0; have q3 := H1.out.tw.c3; have q4 := H1.out.tw.c4; clear hb)
        go_ret
        exact ⟨rfl, B1.out⟩
      · have g4 : ((k : Int) != 4) = true := by rw [G4.out]; simpa using c2
        have e1 : decide (i < 0) = false := by simp; omega
        have e2 : decide ((M : Int) < i) = false := by simp; omega
        have e3 : (i == (M : Int)) = true := by simpa using c1
        clear c1 c2
        go_enter Try.func19, Try.ntmps19
        go_wp2_with (go_at_call 35; refine (HKN.out _).mono ?_; rintro e w1 ⟨rfl, hb⟩; have H1 := Lib.hid (H0.out.below hb H0.out.lt); have B1 := Lib.hid (HB.out.trans (hb.mono HB.out.size)); have q0 := H1.out.tw.c0; have q3 := H1.out.tw.c3; have q4 := H1.out.tw.c4; clear hb)
        go_ret
        exact ⟨rfl, B1.out⟩
    · rw [if_neg c1] at h
      have e1 : decide (i < 0) = false := by simp; omega
      have e2 : decide ((M : Int) < i) = false := by simp; omega
      by_cases im : i = M
      · have hk : k = 4 := by omega
        have g4 : ((k : Int) != 4) = false := by rw [G4.out]; simpa using hk
        have g7 : ((k : Int) == 7) = false := by rw [G7.out]; simp; omega
        have e3 : (i == (M : Int)) = true := by simpa using im
        rw [if_neg (by omega)] at h
        subst h
        clear im hk c1
        go_enter Try.func19, Try.ntmps19
        go_wp2_with (go_at_call 35; refine (HKN.out _).mono ?_; rintro e w1 ⟨rfl, hb⟩; have H1 := Lib.hid (H0.out.below hb H0.out.lt); have B1 := Lib.hid (HB.out.trans (hb.mono HB.out.size)); have q0 := H1.out.tw.c0; have q3 := H1.out.tw.c3; have q4 := H1.out.tw.c4; clear hb)
        go_ret
        exact ⟨rfl, B1.out⟩
      · have e3 : (i == (M : Int)) = false := by simpa using im
        clear im c1
        by_cases k7 : k = 7
        · have g7 : ((k : Int) == 7) = true := by rw [G7.out]; simpa using k7
          by_cases j0 : j < 0
          · have e4 : decide (j < 0) = true := by simpa using j0
            rw [if_pos ⟨k7, .inl j0⟩] at h
            subst h
            clear k7 j0
            go_enter Try.func19, Try.ntmps19
            go_wp2_with (go_at_call 35; refine (HKN.out _).mono ?_; rintro e w1 ⟨rfl, hb⟩; have H1 := Lib.hid (H0.out.below hb H0.out.lt); have B1 := Lib.hid (HB.out.trans (hb.mono HB.out.size)); have q0 := H1.out.tw.c0; have q3 := H1.out.tw.c3; have q4 := H1.out.tw.c4; clear hb)
            go_ret
            exact ⟨rfl, B1.out⟩
          · have e4 : decide (j < 0) = false := by simp; omega
            by_cases j1 : (M : Int) ≤ j
            · have e5 : decide ((M : Int) ≤ j) = true := by simpa using j1
              rw [if_pos ⟨k7, .inr j1⟩] at h
              subst h
              clear k7 j0 j1
              go_enter Try.func19, Try.ntmps19
              go_wp2_with (go_at_call 35; refine (HKN.out _).mono ?_; rintro e w1 ⟨rfl, hb⟩; have H1 := Lib.hid (H0.out.below hb H0.out.lt); have B1 := Lib.hid (HB.out.trans (hb.mono HB.out.size)); have q0 := H1.out.tw.c0; have q3 := H1.out.tw.c3; have q4 := H1.out.tw.c4; clear hb)
              go_ret
              exact ⟨rfl, B1.out⟩
            · have e5 : decide ((M : Int) ≤ j) = false := by simp; omega
              rw [if_neg (by omega)] at h
              subst h
              clear k7 j0 j1
              go_enter Try.func19, Try.ntmps19
              go_wp2_with (go_at_call 35; refine (HKN.out _).mono ?_; rintro e w1 ⟨rfl, hb⟩; have H1 := Lib.hid (H0.out.below hb H0.out.lt); have B1 := Lib.hid (HB.out.trans (hb.mono HB.out.size)); have q0 := H1.out.tw.c0; have q3 := H1.out.tw.c3; have q4 := H1.out.tw.c4; clear hb)
              go_ret
              exact ⟨rfl, B1.out⟩
        · have g7 : ((k : Int) == 7) = false := by rw [G7.out]; simpa using k7
          rw [if_neg (by omega)] at h
          subst h
          clear k7
          go_enter Try.func19, Try.ntmps19
          go_wp2_with (go_at_call 35; refine (HKN.out _).mono ?_; rintro e w1 ⟨rfl, hb⟩; have H1 := Lib.hid (H0.out.below hb H0.out.lt); have B1 := Lib.hid (HB.out.trans (hb.mono HB.out.size)); have q0 := H1.out.tw.c0; have q3 := H1.out.tw.c3; have q4 := H1.out.tw.c4; clear hb)
          go_ret
          exact ⟨rfl, B1.out⟩

/-- What the document's Do answers where it may be done. -/
def RDo (l : List GV) (w : World) (e : Ending) (w' : World) : Prop := ∃ A c, e = .returned (.tuple #[.slice A l.length c, .int .i64 0]) ∧ ListIn l A c w' ∧ Below w.heap.size w w'
set_option maxRecDepth 100000 in
set_option maxHeartbeats 8000000 in
theorem rdo_no (A0 : Option Addr) (M : Nat) (c0 : Nat) (k : Nat) (i j : Int) (a v : Int) (w : World) (hno : chk M k i j ≠ 0) :
    Calls Try.prog 16 #[.slice A0 M c0, .agg #[.int .u8 k, .slice none 0 0, .string ⟨#[]⟩, .int .i64 i, .int .i64 j, .int .i64 0, .int .u8 a, .int .i64 v, .string ⟨#[]⟩, .slice none 0 0, .slice none 0 0, .string ⟨#[]⟩]] w fun e w' => e = .returned (.tuple #[.slice none 0 0, .int .i64 (chk M k i j)]) ∧ Below w.heap.size w w' := by
  have HB := Lib.hid (below_alloc w (.cells #[.int .u8 k, .slice none 0 0, .string ⟨#[]⟩, .int .i64 i, .int .i64 j, .int .i64 0, .int .u8 a, .int .i64 v, .string ⟨#[]⟩, .slice none 0 0, .slice none 0 0, .string ⟨#[]⟩] 29))
  have HCK := Lib.hid (fun W => rcheck_any M k i j a v W)
  generalize chk M k i j = r at *
  have h1 : (r != 0) = true := by simpa using hno
  clear hno
  go_enter Try.func16, Try.ntmps16
  go_wp2_with (go_at_call 19; refine (HCK.out _).mono ?_; rintro e w1 ⟨rfl, hb⟩; have B1 := Lib.hid (HB.out.trans (hb.mono HB.out.size)); clear hb)
  go_ret2
  exact ⟨rfl, B1.out⟩
theorem rcopy_l {l : List GV} (hw : GV.weights l ≤ 900000000) (W : World) (B : Option Addr) (d : Nat) (h : ListIn l B d W) : Calls Try.prog 30 #[.agg #[.int .u8 0, .int .i64 0, .string ⟨#[]⟩, .slice B l.length d, .slice none 0 0]] W fun e w' =>
      ∃ BL dL BO dO, e = .returned (.agg #[.int .u8 0, .int .i64 0, .string ⟨#[]⟩, .slice BL l.length dL, .slice BO 0 dO]) ∧ LstV (fun k => W.heap.size ≤ k) w' (.slice BL l.length dL) l ∧ Below W.heap.size W w' := by
  have hv : (GV.mk 0 0 ⟨#[]⟩ l [] []).val (fun _ => True) W (.agg #[.int .u8 0, .int .i64 0, .string ⟨#[]⟩, .slice B l.length d, .slice none 0 0]) := ⟨_, _, rfl, h, ⟨rfl, .inl ⟨rfl, rfl⟩⟩⟩
  have hs : (GV.mk 0 0 ⟨#[]⟩ l [] []).size ≤ 1000000000 := Nat.le_trans (size_le_weight _) (by have h0 : (⟨#[]⟩ : ByteArray).size = 0 := rfl; simp only [GV.weight, GV.weights, h0]; simp; omega)
  exact (ref_Copy _ _ _ _ W (Nat.le_refl _) hv hs).mono fun e w' ⟨v', he, ⟨L', O', e2, hL', hO'⟩, hb⟩ => by
    obtain ⟨BL, dL, rfl⟩ := lst_form hL'
    obtain ⟨BO, dO, rfl⟩ := obj_form hO'
    exact ⟨BL, dL, BO, dO, by rw [he, e2]; rfl, hL', hb⟩
theorem fresh_at {W W' : World} {n0 : Nat} {A : Option Addr} {n c : Nat} {l : List GV} (h : LstV (fun k => W.heap.size ≤ k) W' (.slice A n c) l) (hs : n0 ≤ W.heap.size) : ∀ b o, A = some ⟨b, o, none⟩ → l ≠ [] → n0 ≤ b := fun b o e hn => by
  obtain ⟨A', c', he, _, _, hf⟩ := h.form
  simp only [Value.slice.injEq] at he
  obtain ⟨rfl, _, rfl⟩ := he
  obtain ⟨b', o', e', hK, _⟩ := hf hn
  rw [e] at e'
  cases e'
  exact Nat.le_trans hs hK.1
theorem rcopy_v (a v : Int) (W : World) : Calls Try.prog 30 #[.agg #[.int .u8 a, .int .i64 v, .string ⟨#[]⟩, .slice none 0 0, .slice none 0 0]] W fun e w' =>
      ∃ CL eL CO eO, e = .returned (.agg #[.int .u8 a, .int .i64 v, .string ⟨#[]⟩, .slice CL 0 eL, .slice CO 0 eO]) ∧ Vl w' (GV.mk a v ⟨#[]⟩ [] [] []) CL CO eL eO ∧ Below W.heap.size W w' :=
  (copy_is (g := .mk a v ⟨#[]⟩ [] [] []) ⟨.inl ⟨rfl, rfl⟩, ⟨rfl, .inl ⟨rfl, rfl⟩⟩⟩ (by have h0 : (⟨#[]⟩ : ByteArray).size = 0 := rfl; simp only [GV.weight, GV.weights, h0]; simp)).mono fun e w' ⟨BL, BO, dL, dO, he, hv, hb⟩ => ⟨BL, dL, BO, dO, he, hv, hb⟩
set_option maxRecDepth 100000 in
set_option maxHeartbeats 8000000 in
theorem rdo_ins (A0 : Option Addr) (c0 : Nat) (l : List GV) (k i j : Nat) (a v : Int) (w : World) (hL : ListIn l A0 c0 w) (hk : k = 4) (hi : i ≤ l.length) (hn : l.length ≤ 1000) (hw : GV.weights l ≤ 900000000) :
    Calls Try.prog 16 #[.slice A0 l.length c0, .agg #[.int .u8 k, .slice none 0 0, .string ⟨#[]⟩, .int .i64 i, .int .i64 j, .int .i64 0, .int .u8 a, .int .i64 v, .string ⟨#[]⟩, .slice none 0 0, .slice none 0 0, .string ⟨#[]⟩]] w (RDo (insL l i (GV.mk a v ⟨#[]⟩ [] [] [])) w) := by
  have H0 := Lib.hid (Whole.new w 29 #[.int .u8 k, .slice none 0 0, .string ⟨#[]⟩, .int .i64 i, .int .i64 j, .int .i64 0, .int .u8 a, .int .i64 v, .string ⟨#[]⟩, .slice none 0 0, .slice none 0 0, .string ⟨#[]⟩])
  have HB := Lib.hid (below_alloc w (.cells #[.int .u8 k, .slice none 0 0, .string ⟨#[]⟩, .int .i64 i, .int .i64 j, .int .i64 0, .int .u8 a, .int .i64 v, .string ⟨#[]⟩, .slice none 0 0, .slice none 0 0, .string ⟨#[]⟩] 29))
  have HL := Lib.hid hL
  have hck : chk l.length k i j = 0 := by subst hk; simp [chk]; omega
  have HCK := Lib.hid (fun W => rcheck_any l.length k i j a v W)
  rw [hck] at HCK
  have HCL := Lib.hid (rcopy_l hw)
  have HCV := Lib.hid (rcopy_v a v)
  have HW := Lib.hid (fun W B d CL CO eL eO (h : ListIn l B d W) (hv : Vl W (GV.mk a v ⟨#[]⟩ [] [] []) CL CO eL eO) => ref_with B d i l (GV.mk a v ⟨#[]⟩ [] [] []) CL CO eL eO W h hv hi (by omega))
  have hfd := fun (n : Nat) => val_field3 n
  have g4 : ((k : Int) == 4) = true := by simp; omega
  clear hk hck hL
  generalize insL l i (GV.mk a v ⟨#[]⟩ [] [] []) = lz at *
  go_enter Try.func16, Try.ntmps16
  go_wp2_with (first
    | (go_at_call 19; refine (HCK.out _).mono ?_; rintro e w1 ⟨rfl, hb⟩; have B1 := Lib.hid (HB.out.trans (hb.mono HB.out.size)); have H1 := Lib.hid (H0.out.below hb H0.out.lt); clear hb)
    | (go_at_call 30; ((with_reducible refine (HCL.out _ _ _ (HL.out.later B1.out)).mono ?_); rintro e w2 ⟨BL, dL, BO, dO, rfl, hl, hb⟩; have L2 := Lib.hid (show ListIn l BL dL w2 from hl.keep (From.refl _ _) (fun _ _ _ => trivial)); have F2 := Lib.hid (fresh_at hl B1.out.size); have B2 := Lib.hid (B1.out.trans (hb.mono B1.out.size)); have H2 := Lib.hid (H1.out.below hb H1.out.lt); obtain ⟨a0, a1, a2, a3, a4, a5, a6, a7, a8, a9, a10, a11, f0, f1, f2, f3, f4, f5, f6, f7, f8, f9, f10, f11⟩ := H2.out.tw; clear hl hb))
    | (go_at_call 30; ((with_reducible refine (HCV.out _).mono ?_); rintro e w3 ⟨CL, eL, CO, eO, rfl, hv, hb⟩; have V3 := Lib.hid (hv.later (below_alloc w3 (.cells #[.int .u8 a, .int .i64 v, .string ⟨#[]⟩, .slice CL 0 eL, .slice CO 0 eO] 27))); have L3 := Lib.hid ((L2.out.later hb).later (below_alloc w3 (.cells #[.int .u8 a, .int .i64 v, .string ⟨#[]⟩, .slice CL 0 eL, .slice CO 0 eO] 27))); have B3 := Lib.hid ((B2.out.trans (hb.mono B2.out.size)).alloc (Nat.le_trans B2.out.size hb.size) (.cells #[.int .u8 a, .int .i64 v, .string ⟨#[]⟩, .slice CL 0 eL, .slice CO 0 eO] 27)); have H3 := Lib.hid ((H2.out.below hb H2.out.lt).alloc (.cells #[.int .u8 a, .int .i64 v, .string ⟨#[]⟩, .slice CL 0 eL, .slice CO 0 eO] 27)); clear a0 a1 a2 a3 a4 a5 a6 a7 a8 a9 a10 a11 f0 f1 f2 f3 f4 f5 f6 f7 f8 f9 f10 f11 hv hb; obtain ⟨a0, a1, a2, a3, a4, a5, a6, a7, a8, a9, a10, a11, f0, f1, f2, f3, f4, f5, f6, f7, f8, f9, f10, f11⟩ := H3.out.tw))
    | (go_at_call 31; refine (HW.out _ _ _ _ _ _ _ L3.out V3.out).mono ?_; rintro e w4 ⟨AZ, cz, rfl, hl, hb⟩; have L4 := Lib.hid hl; have B4 := Lib.hid (B3.out.trans (hb.mono B3.out.size)); clear hl hb))
  go_ret2
  exact ⟨AZ, cz, rfl, L4.out, B4.out⟩
set_option maxRecDepth 100000 in
set_option maxHeartbeats 8000000 in
theorem rdo_rem (A0 : Option Addr) (c0 : Nat) (l : List GV) (k i j : Nat) (a v : Int) (w : World) (hL : ListIn l A0 c0 w) (hk : k = 5) (hi : i < l.length) (hn : l.length ≤ 1000) (hw : GV.weights l ≤ 900000000) :
    Calls Try.prog 16 #[.slice A0 l.length c0, .agg #[.int .u8 k, .slice none 0 0, .string ⟨#[]⟩, .int .i64 i, .int .i64 j, .int .i64 0, .int .u8 a, .int .i64 v, .string ⟨#[]⟩, .slice none 0 0, .slice none 0 0, .string ⟨#[]⟩]] w (RDo (remL l i) w) := by
  have H0 := Lib.hid (Whole.new w 29 #[.int .u8 k, .slice none 0 0, .string ⟨#[]⟩, .int .i64 i, .int .i64 j, .int .i64 0, .int .u8 a, .int .i64 v, .string ⟨#[]⟩, .slice none 0 0, .slice none 0 0, .string ⟨#[]⟩])
  have HB := Lib.hid (below_alloc w (.cells #[.int .u8 k, .slice none 0 0, .string ⟨#[]⟩, .int .i64 i, .int .i64 j, .int .i64 0, .int .u8 a, .int .i64 v, .string ⟨#[]⟩, .slice none 0 0, .slice none 0 0, .string ⟨#[]⟩] 29))
  have HL := Lib.hid hL
  have hck : chk l.length k i j = 0 := by subst hk; simp [chk, withinB]; omega
  have HCK := Lib.hid (fun W => rcheck_any l.length k i j a v W)
  rw [hck] at HCK
  have HCL := Lib.hid (rcopy_l hw)
  have HCV := Lib.hid (rcopy_v a v)
  have HW := Lib.hid (fun W B d (h : ListIn l B d W) => ref_without B d i l W h hi (by omega))
  have hfd := fun (n : Nat) => val_field3 n
  have g4 : ((k : Int) == 4) = false := by simp; omega
  have g5 : ((k : Int) == 5) = true := by simp; omega
  clear hk hck hL
  generalize remL l i = lz at *
  go_enter Try.func16, Try.ntmps16
  go_wp2_with (first
    | (go_at_call 19; refine (HCK.out _).mono ?_; rintro e w1 ⟨rfl, hb⟩; have B1 := Lib.hid (HB.out.trans (hb.mono HB.out.size)); have H1 := Lib.hid (H0.out.below hb H0.out.lt); clear hb)
    | (go_at_call 30; ((with_reducible refine (HCL.out _ _ _ (HL.out.later B1.out)).mono ?_); rintro e w2 ⟨BL, dL, BO, dO, rfl, hl, hb⟩; have L2 := Lib.hid (show ListIn l BL dL w2 from hl.keep (From.refl _ _) (fun _ _ _ => trivial)); have F2 := Lib.hid (fresh_at hl B1.out.size); have B2 := Lib.hid (B1.out.trans (hb.mono B1.out.size)); have H2 := Lib.hid (H1.out.below hb H1.out.lt); obtain ⟨a0, a1, a2, a3, a4, a5, a6, a7, a8, a9, a10, a11, f0, f1, f2, f3, f4, f5, f6, f7, f8, f9, f10, f11⟩ := H2.out.tw; clear hl hb))
    | (go_at_call 30; ((with_reducible refine (HCV.out _).mono ?_); rintro e w3 ⟨CL, eL, CO, eO, rfl, hv, hb⟩; have V3 := Lib.hid (hv.later (below_alloc w3 (.cells #[.int .u8 a, .int .i64 v, .string ⟨#[]⟩, .slice CL 0 eL, .slice CO 0 eO] 27))); have L3 := Lib.hid ((L2.out.later hb).later (below_alloc w3 (.cells #[.int .u8 a, .int .i64 v, .string ⟨#[]⟩, .slice CL 0 eL, .slice CO 0 eO] 27))); have B3 := Lib.hid ((B2.out.trans (hb.mono B2.out.size)).alloc (Nat.le_trans B2.out.size hb.size) (.cells #[.int .u8 a, .int .i64 v, .string ⟨#[]⟩, .slice CL 0 eL, .slice CO 0 eO] 27)); have H3 := Lib.hid ((H2.out.below hb H2.out.lt).alloc (.cells #[.int .u8 a, .int .i64 v, .string ⟨#[]⟩, .slice CL 0 eL, .slice CO 0 eO] 27)); clear a0 a1 a2 a3 a4 a5 a6 a7 a8 a9 a10 a11 f0 f1 f2 f3 f4 f5 f6 f7 f8 f9 f10 f11 hv hb; obtain ⟨a0, a1, a2, a3, a4, a5, a6, a7, a8, a9, a10, a11, f0, f1, f2, f3, f4, f5, f6, f7, f8, f9, f10, f11⟩ := H3.out.tw))
    | (go_at_call 32; refine (HW.out _ _ _ L3.out).mono ?_; rintro e w4 ⟨AZ, cz, rfl, hl, hb⟩; have L4 := Lib.hid hl; have B4 := Lib.hid (B3.out.trans (hb.mono B3.out.size)); clear hl hb))
  go_ret2
  exact ⟨AZ, cz, rfl, L4.out, B4.out⟩

theorem kind_set {W : World} {ok : Nat → Prop} {b b' j : Nat} {e : TypeId} (h : Kind W ok b e) (u : Value) : Kind (W.setCell ⟨b', j, none⟩ u) ok b e := by
  obtain ⟨h1, cur, hc⟩ := h
  have hw : Whole W b e cur := hc
  by_cases hb : b = b'
  · subst hb; exact ⟨h1, _, hw.put j u⟩
  · exact ⟨h1, _, hw.far (by simpa using hb) u⟩
theorem lst_nil_keep {W W' : World} {L : Value} (hk : ∀ b e, Kind W (fun _ => True) b e → Kind W' (fun _ => True) b e) (h : LstV (fun _ => True) W L []) : LstV (fun _ => True) W' L [] := by
  rcases h with hl | ⟨b', o', c', e, h1, h2, hK, hE⟩
  · exact .inl hl
  · exact .inr ⟨b', o', c', e, h1, h2, hk _ _ hK, trivial⟩
theorem obj_nil_keep {W W' : World} {O : Value} (hk : ∀ b e, Kind W (fun _ => True) b e → Kind W' (fun _ => True) b e) (h : ObjV (fun _ => True) W O [] []) : ObjV (fun _ => True) W' O [] [] := by
  refine ⟨rfl, ?_⟩
  rcases h.2 with hO | ⟨b', o', c', e, h1, h2, hK, hks, hE⟩
  · exact .inl hO
  · exact .inr ⟨b', o', c', e, h1, h2, hk _ _ hK, trivial, trivial⟩
def Plainly (l : List GV) : Prop := ∀ g ∈ l, ∃ a n, g = GV.mk a n ⟨#[]⟩ [] [] []
theorem lst_store {W : World} {b o c i : Nat} {l : List GV} {a v : Int} {CL CO : Option Addr} {eL eO : Nat} (h : LstV (fun _ => True) W (.slice (some ⟨b, o, none⟩) l.length c) l) (hf : Plainly l) (hi : i < l.length) (hv : Vl W (GV.mk a v ⟨#[]⟩ [] [] []) CL CO eL eO) :
    LstV (fun _ => True) (((((W.setCell ⟨b, o + i * 5, none⟩ (.int .u8 a)).setCell ⟨b, o + i * 5 + 1, none⟩ (.int .i64 v)).setCell ⟨b, o + i * 5 + 2, none⟩ (.string ⟨#[]⟩)).setCell ⟨b, o + i * 5 + 3, none⟩ (.slice CL 0 eL)).setCell ⟨b, o + i * 5 + 4, none⟩ (.slice CO 0 eO)) (.slice (some ⟨b, o, none⟩) l.length c) (l.set i (GV.mk a v ⟨#[]⟩ [] [] [])) := by
  have hk : ∀ b' e, Kind W (fun _ => True) b' e → Kind (((((W.setCell ⟨b, o + i * 5, none⟩ (.int .u8 a)).setCell ⟨b, o + i * 5 + 1, none⟩ (.int .i64 v)).setCell ⟨b, o + i * 5 + 2, none⟩ (.string ⟨#[]⟩)).setCell ⟨b, o + i * 5 + 3, none⟩ (.slice CL 0 eL)).setCell ⟨b, o + i * 5 + 4, none⟩ (.slice CO 0 eO)) (fun _ => True) b' e := fun b' e h => kind_set (kind_set (kind_set (kind_set (kind_set h _) _) _) _) _
  rcases h with ⟨rfl, e⟩ | ⟨b', o', c', e, h1, h2, hK, hE⟩
  · simp at hi
  · simp only [Value.slice.injEq, Option.some.injEq, Addr.mk.injEq] at e
    obtain ⟨⟨rfl, rfl, _⟩, _, rfl⟩ := e
    refine .inr ⟨b, o, c, by simp, by simpa using h1, h2, hk _ _ hK, GV.els_of fun t g hg => ?_⟩
    rw [List.getElem?_set] at hg
    by_cases ht : i = t
    · subst ht
      rw [if_pos rfl, if_pos hi] at hg
      simp only [Option.some.injEq] at hg
      subst hg
      obtain ⟨L, O, q0, q1, q2, q3, q4, _, _⟩ := GV.at_iff.1 (GV.els_get hE (List.getElem?_eq_getElem hi))
      refine GV.at_iff.2 ⟨.slice CL 0 eL, .slice CO 0 eO, ?_, ?_, ?_, ?_, ?_, lst_nil_keep hk hv.lst, obj_nil_keep hk hv.obj⟩
      · exact set_other (set_other (set_other (set_other (World.cell?_setCell_same' _ _ _ (by rw [q0]; rfl)) (by omega)) (by omega)) (by omega)) (by omega)
      · exact set_other (set_other (set_other (World.cell?_setCell_same' _ _ _ (by rw [set_other q1 (by omega)]; rfl)) (by omega)) (by omega)) (by omega)
      · exact set_other (set_other (World.cell?_setCell_same' _ _ _ (by rw [set_other (set_other q2 (by omega)) (by omega)]; rfl)) (by omega)) (by omega)
      · exact set_other (World.cell?_setCell_same' _ _ _ (by rw [set_other (set_other (set_other q3 (by omega)) (by omega)) (by omega)]; rfl)) (by omega)
      · exact World.cell?_setCell_same' _ _ _ (by rw [set_other (set_other (set_other (set_other q4 (by omega)) (by omega)) (by omega)) (by omega)]; rfl)
    · rw [if_neg ht] at hg
      obtain ⟨ga, gn, rfl⟩ := hf g (List.mem_of_getElem? hg)
      obtain ⟨L, O, q0, q1, q2, q3, q4, hl, hO⟩ := GV.at_iff.1 (GV.els_get hE hg)
      have hne : ∀ p q, p < 5 → q < 5 → o + i * 5 + p ≠ o + t * 5 + q := fun p q hp hq => by rcases Nat.lt_or_gt_of_ne ht with h | h <;> omega
      have hset : ∀ q u, q < 5 → W.cell? ⟨b, o + t * 5 + q, none⟩ = some u → (((((W.setCell ⟨b, o + i * 5, none⟩ (.int .u8 a)).setCell ⟨b, o + i * 5 + 1, none⟩ (.int .i64 v)).setCell ⟨b, o + i * 5 + 2, none⟩ (.string ⟨#[]⟩)).setCell ⟨b, o + i * 5 + 3, none⟩ (.slice CL 0 eL)).setCell ⟨b, o + i * 5 + 4, none⟩ (.slice CO 0 eO)).cell? ⟨b, o + t * 5 + q, none⟩ = some u := fun q u hq hu =>
        set_other (set_other (set_other (set_other (set_other hu (hne 0 q (by omega) hq)) (hne 1 q (by omega) hq)) (hne 2 q (by omega) hq)) (hne 3 q (by omega) hq)) (hne 4 q (by omega) hq)
      exact GV.at_iff.2 ⟨L, O, hset 0 _ (by omega) q0, hset 1 _ (by omega) q1, hset 2 _ (by omega) q2, hset 3 _ (by omega) q3, hset 4 _ (by omega) q4, lst_nil_keep hk hl, obj_nil_keep hk hO⟩
set_option maxRecDepth 100000 in
set_option maxHeartbeats 8000000 in
theorem rdo_set (A0 : Option Addr) (c0 : Nat) (l : List GV) (k i j : Nat) (a v : Int) (w : World) (hL : ListIn l A0 c0 w) (hk : k = 6) (hi : i < l.length) (hn : l.length ≤ 1000) (hw : GV.weights l ≤ 900000000) (hf : Plainly l) :
    Calls Try.prog 16 #[.slice A0 l.length c0, .agg #[.int .u8 k, .slice none 0 0, .string ⟨#[]⟩, .int .i64 i, .int .i64 j, .int .i64 0, .int .u8 a, .int .i64 v, .string ⟨#[]⟩, .slice none 0 0, .slice none 0 0, .string ⟨#[]⟩]] w (RDo (l.set i (GV.mk a v ⟨#[]⟩ [] [] [])) w) := by
  have H0 := Lib.hid (Whole.new w 29 #[.int .u8 k, .slice none 0 0, .string ⟨#[]⟩, .int .i64 i, .int .i64 j, .int .i64 0, .int .u8 a, .int .i64 v, .string ⟨#[]⟩, .slice none 0 0, .slice none 0 0, .string ⟨#[]⟩])
  have HB := Lib.hid (below_alloc w (.cells #[.int .u8 k, .slice none 0 0, .string ⟨#[]⟩, .int .i64 i, .int .i64 j, .int .i64 0, .int .u8 a, .int .i64 v, .string ⟨#[]⟩, .slice none 0 0, .slice none 0 0, .string ⟨#[]⟩] 29))
  have HL := Lib.hid hL
  have hck : chk l.length k i j = 0 := by subst hk; simp [chk, withinB]; omega
  have HCK := Lib.hid (fun W => rcheck_any l.length k i j a v W)
  rw [hck] at HCK
  have HCL := Lib.hid (rcopy_l hw)
  have HCV := Lib.hid (rcopy_v a v)
  have hfd := fun (n : Nat) => val_field3 n
  have g4 : ((k : Int) == 4) = false := by simp; omega
  have g5 : ((k : Int) == 5) = false := by simp; omega
  have g6 : ((k : Int) == 6) = true := by simp; omega
  have HLS := Lib.hid (fun (W : World) b o c CL CO eL eO (h : ListIn l (some ⟨b, o, none⟩) c W) hv => lst_store (a := a) (v := v) (CL := CL) (CO := CO) (eL := eL) (eO := eO) h hf hi hv)
  have HE := Lib.hid (fun (W : World) B c (h : ListIn l B c W) => (show ∃ b o, B = some ⟨b, o, none⟩ ∧ Kind W (fun _ => True) b 27 ∧ GV.els (fun _ => True) W b 5 o l by
    obtain ⟨A', c', he, _, _, hf2⟩ := LstV.form h
    simp only [Value.slice.injEq] at he
    obtain ⟨rfl, _, rfl⟩ := he
    exact hf2 (by intro e; rw [e] at hi; simp at hi)))
  have HI := Lib.hid (List.getElem?_eq_getElem hi)
  have HN := Lib.hid (show l ≠ [] by intro e; rw [e] at hi; simp at hi)
  have hk0 : (0 : Int) ≤ (i : Int) := by omega
  have hk1 : (i : Int) < (l.length : Int) := by omega
  have hlen : (l.set i (GV.mk a v ⟨#[]⟩ [] [] [])).length = l.length := by simp
  clear hk hck hL
  unfold RDo
  rw [hlen]
  clear hlen
  go_enter Try.func16, Try.ntmps16
  go_wp2_with (first
    | (go_at_call 19; refine (HCK.out _).mono ?_; rintro e w1 ⟨rfl, hb⟩; have B1 := Lib.hid (HB.out.trans (hb.mono HB.out.size)); have H1 := Lib.hid (H0.out.below hb H0.out.lt); clear hb)
    | (go_at_call 30; ((with_reducible refine (HCL.out _ _ _ (HL.out.later B1.out)).mono ?_); rintro e w2 ⟨BL, dL, BO, dO, rfl, hl, hb⟩; have L2 := Lib.hid (show ListIn l BL dL w2 from hl.keep (From.refl _ _) (fun _ _ _ => trivial)); have F2 := Lib.hid (fresh_at hl B1.out.size); have B2 := Lib.hid (B1.out.trans (hb.mono B1.out.size)); have H2 := Lib.hid (H1.out.below hb H1.out.lt); obtain ⟨a0, a1, a2, a3, a4, a5, a6, a7, a8, a9, a10, a11, f0, f1, f2, f3, f4, f5, f6, f7, f8, f9, f10, f11⟩ := H2.out.tw; clear hl hb))
    | (go_at_call 30; ((with_reducible refine (HCV.out _).mono ?_); rintro e w3 ⟨CL, eL, CO, eO, rfl, hv, hb⟩; have V3 := Lib.hid (hv.later (below_alloc w3 (.cells #[.int .u8 a, .int .i64 v, .string ⟨#[]⟩, .slice CL 0 eL, .slice CO 0 eO] 27))); have L3 := Lib.hid ((L2.out.later hb).later (below_alloc w3 (.cells #[.int .u8 a, .int .i64 v, .string ⟨#[]⟩, .slice CL 0 eL, .slice CO 0 eO] 27))); have B3 := Lib.hid ((B2.out.trans (hb.mono B2.out.size)).alloc (Nat.le_trans B2.out.size hb.size) (.cells #[.int .u8 a, .int .i64 v, .string ⟨#[]⟩, .slice CL 0 eL, .slice CO 0 eO] 27)); have H3 := Lib.hid ((H2.out.below hb H2.out.lt).alloc (.cells #[.int .u8 a, .int .i64 v, .string ⟨#[]⟩, .slice CL 0 eL, .slice CO 0 eO] 27)); clear a0 a1 a2 a3 a4 a5 a6 a7 a8 a9 a10 a11 f0 f1 f2 f3 f4 f5 f6 f7 f8 f9 f10 f11 hv; obtain ⟨a0, a1, a2, a3, a4, a5, a6, a7, a8, a9, a10, a11, f0, f1, f2, f3, f4, f5, f6, f7, f8, f9, f10, f11⟩ := H3.out.tw; obtain ⟨b, o, rfl, hK, hE⟩ := HE.out _ _ _ L3.out; have FB := Lib.hid (F2.out b o rfl HN.out); obtain ⟨LL, OO, q0, q1, q2, q3, q4, _, _⟩ := GV.at_iff.1 (GV.els_get hE HI.out); obtain ⟨_, cur, hcur⟩ := hK; have hq := fun x => Whole.frozen (show Whole _ b 27 cur from hcur) x; have p0 := hq (o + i * 5); have p1 := hq (o + i * 5 + 1); have p2 := hq (o + i * 5 + 2); have p3 := hq (o + i * 5 + 3); have p4 := hq (o + i * 5 + 4); clear hq hE hcur hb)))
  go_ret2
  have hend := HLS.out _ b o dL CL CO eL eO L3.out V3.out
  exact ⟨some ⟨b, o, none⟩, dL, rfl, (by unfold ListIn; rw [show (l.set i (GV.mk a v ⟨#[]⟩ [] [] [])).length = l.length by simp]; exact hend), ((((B3.out.setCell (p := ⟨b, o + i * 5, none⟩) FB.out _).setCell (p := ⟨b, o + i * 5 + 1, none⟩) FB.out _).setCell (p := ⟨b, o + i * 5 + 2, none⟩) FB.out _).setCell (p := ⟨b, o + i * 5 + 3, none⟩) FB.out _).setCell (p := ⟨b, o + i * 5 + 4, none⟩) FB.out _⟩

set_option maxRecDepth 100000 in
set_option maxHeartbeats 8000000 in
theorem rdo_move (A0 : Option Addr) (c0 : Nat) (l : List GV) (k i j : Nat) (a v : Int) (w : World) (hL : ListIn l A0 c0 w) (hk : k = 7) (hi : i < l.length) (hj : j < l.length) (hn : l.length ≤ 1000) (hw : GV.weights l ≤ 900000000) :
    Calls Try.prog 16 #[.slice A0 l.length c0, .agg #[.int .u8 k, .slice none 0 0, .string ⟨#[]⟩, .int .i64 i, .int .i64 j, .int .i64 0, .int .u8 a, .int .i64 v, .string ⟨#[]⟩, .slice none 0 0, .slice none 0 0, .string ⟨#[]⟩]] w (RDo (insL (remL l i) j l[i]) w) := by
  have H0 := Lib.hid (Whole.new w 29 #[.int .u8 k, .slice none 0 0, .string ⟨#[]⟩, .int .i64 i, .int .i64 j, .int .i64 0, .int .u8 a, .int .i64 v, .string ⟨#[]⟩, .slice none 0 0, .slice none 0 0, .string ⟨#[]⟩])
  have HB := Lib.hid (below_alloc w (.cells #[.int .u8 k, .slice none 0 0, .string ⟨#[]⟩, .int .i64 i, .int .i64 j, .int .i64 0, .int .u8 a, .int .i64 v, .string ⟨#[]⟩, .slice none 0 0, .slice none 0 0, .string ⟨#[]⟩] 29))
  have HL := Lib.hid hL
  have hck : chk l.length k i j = 0 := by subst hk; simp [chk, withinB]; omega
  have HCK := Lib.hid (fun W => rcheck_any l.length k i j a v W)
  rw [hck] at HCK
  have HCL := Lib.hid (rcopy_l hw)
  have HCV := Lib.hid (rcopy_v a v)
  have hrl := rem_len l i hi
  have HW := Lib.hid (fun W B d (h : ListIn l B d W) => ref_without B d i l W h hi (by omega))
  have HX := Lib.hid (fun W B d A1 c1 A2 c2 (h : ListIn (remL l i) B d W) (hv : Vl W l[i] A1 A2 c1 c2) => ref_with B d j (remL l i) l[i] A1 A2 c1 c2 W h hv (by omega) (by omega))
  have HEX := Lib.hid (fun (W : World) B c (h : ListIn l B c W) => (show ∃ b o, B = some ⟨b, o, none⟩ ∧ ∃ A1 c1 A2 c2, (∀ W', Below W.heap.size W W' → W'.cell? ⟨b, o + i * 5, none⟩ = some (.int .u8 l[i].kind) ∧ W'.cell? ⟨b, o + i * 5 + 1, none⟩ = some (.int .i64 l[i].num) ∧ W'.cell? ⟨b, o + i * 5 + 2, none⟩ = some (.string l[i].str) ∧ W'.cell? ⟨b, o + i * 5 + 3, none⟩ = some (.slice A1 l[i].items.length c1) ∧ W'.cell? ⟨b, o + i * 5 + 4, none⟩ = some (.slice A2 l[i].vals.length c2)) ∧ Vl W l[i] A1 A2 c1 c2 by
    obtain ⟨A', c', he, _, _, hf⟩ := LstV.form h
    simp only [Value.slice.injEq] at he
    obtain ⟨rfl, _, rfl⟩ := he
    obtain ⟨b, o, rfl, hK, hE⟩ := hf (by intro e; rw [e] at hi; simp at hi)
    obtain ⟨L, O, q0, q1, q2, q3, q4, hLi, hOi⟩ := GV.at_iff.1 (GV.els_get hE (List.getElem?_eq_getElem hi))
    obtain ⟨A1, c1, rfl⟩ := lst_form hLi
    obtain ⟨A2, c2, rfl⟩ := obj_form hOi
    exact ⟨b, o, rfl, A1, c1, A2, c2, fun W hb => ⟨(hb.cell (p := ⟨b, _, none⟩) hK.lt).trans q0, (hb.cell (p := ⟨b, _, none⟩) hK.lt).trans q1, (hb.cell (p := ⟨b, _, none⟩) hK.lt).trans q2, (hb.cell (p := ⟨b, _, none⟩) hK.lt).trans q3, (hb.cell (p := ⟨b, _, none⟩) hK.lt).trans q4⟩, ⟨hLi, hOi⟩⟩))
  have hfd := fun (n : Nat) => val_field3 n
  have g4 : ((k : Int) == 4) = false := by simp; omega
  have g5 : ((k : Int) == 5) = false := by simp; omega
  have g6 : ((k : Int) == 6) = false := by simp; omega
  have hk0 : (0 : Int) ≤ (i : Int) := by omega
  have hk1 : (i : Int) < (l.length : Int) := by omega
  clear hk hck hL hrl hj
  generalize insL (remL l i) j l[i] = lz at *
  generalize remL l i = lr at *
  generalize l[i] = x at *
  go_enter Try.func16, Try.ntmps16
  go_wp2_with (first
    | (go_at_call 19; refine (HCK.out _).mono ?_; rintro e w1 ⟨rfl, hb⟩; have B1 := Lib.hid (HB.out.trans (hb.mono HB.out.size)); have H1 := Lib.hid (H0.out.below hb H0.out.lt); clear hb)
    | (go_at_call 30; ((with_reducible refine (HCL.out _ _ _ (HL.out.later B1.out)).mono ?_); rintro e w2 ⟨BL, dL, BO, dO, rfl, hl, hb⟩; have L2 := Lib.hid (show ListIn l BL dL w2 from hl.keep (From.refl _ _) (fun _ _ _ => trivial)); have F2 := Lib.hid (fresh_at hl B1.out.size); have B2 := Lib.hid (B1.out.trans (hb.mono B1.out.size)); have H2 := Lib.hid (H1.out.below hb H1.out.lt); obtain ⟨a0, a1, a2, a3, a4, a5, a6, a7, a8, a9, a10, a11, f0, f1, f2, f3, f4, f5, f6, f7, f8, f9, f10, f11⟩ := H2.out.tw; clear hl hb))
    | (go_at_call 30; ((with_reducible refine (HCV.out _).mono ?_); rintro e w3 ⟨CL, eL, CO, eO, rfl, hv, hb⟩; have V3 := Lib.hid (hv.later (below_alloc w3 (.cells #[.int .u8 a, .int .i64 v, .string ⟨#[]⟩, .slice CL 0 eL, .slice CO 0 eO] 27))); have L3 := Lib.hid ((L2.out.later hb).later (below_alloc w3 (.cells #[.int .u8 a, .int .i64 v, .string ⟨#[]⟩, .slice CL 0 eL, .slice CO 0 eO] 27))); have B3 := Lib.hid ((B2.out.trans (hb.mono B2.out.size)).alloc (Nat.le_trans B2.out.size hb.size) (.cells #[.int .u8 a, .int .i64 v, .string ⟨#[]⟩, .slice CL 0 eL, .slice CO 0 eO] 27)); have H3 := Lib.hid ((H2.out.below hb H2.out.lt).alloc (.cells #[.int .u8 a, .int .i64 v, .string ⟨#[]⟩, .slice CL 0 eL, .slice CO 0 eO] 27)); clear a0 a1 a2 a3 a4 a5 a6 a7 a8 a9 a10 a11 f0 f1 f2 f3 f4 f5 f6 f7 f8 f9 f10 f11 hv hb; obtain ⟨a0, a1, a2, a3, a4, a5, a6, a7, a8, a9, a10, a11, f0, f1, f2, f3, f4, f5, f6, f7, f8, f9, f10, f11⟩ := H3.out.tw)))
  obtain ⟨wq, hwq⟩ : ∃ W, W = w3.alloc (.cells #[.int .u8 a, .int .i64 v, .string ⟨#[]⟩, .slice CL 0 eL, .slice CO 0 eO] 27) := ⟨_, rfl⟩
  rw [← hwq] at L3 B3 H3 ⊢
  clear hwq V3 a0 a1 a2 a3 a4 a5 a6 a7 a8 a9 a10 a11 f0 f1 f2 f3 f4 f5 f6 f7 f8 f9 f10 f11
  obtain ⟨b, o, rfl, A1, c1, A2, c2, hcel, hvx⟩ := HEX.out _ _ _ L3.out
  have VX := Lib.hid hvx
  have HC := Lib.hid (fun (W : World) (hb : Below wq.heap.size wq W) => (fun q : Tw W w.heap.size _ _ _ _ _ _ _ _ _ _ _ _ => And.intro q.c3 (And.intro q.c4 (hcel W hb))) (H3.out.below hb H3.out.lt).tw)
  obtain ⟨s3, s4, s5, s6, s7, s8, s9⟩ := HC.out wq (Below.refl _ _)
  clear hcel hvx
  go_region_held3 (fun W => W.cell? ⟨w.heap.size, 3, none⟩ = some (.int .i64 i) ∧ W.cell? ⟨w.heap.size, 4, none⟩ = some (.int .i64 j) ∧ W.cell? ⟨b, o + i * 5, none⟩ = some (.int .u8 x.kind) ∧ W.cell? ⟨b, o + i * 5 + 1, none⟩ = some (.int .i64 x.num) ∧ W.cell? ⟨b, o + i * 5 + 2, none⟩ = some (.string x.str) ∧ W.cell? ⟨b, o + i * 5 + 3, none⟩ = some (.slice A1 x.items.length c1) ∧ W.cell? ⟨b, o + i * 5 + 4, none⟩ = some (.slice A2 x.vals.length c2))
    (first | exact HC.out _ HO2.out.2 | exact HC.out _ HO1.out.2 | exact HC.out _ (Below.refl _ _).drew)
    (first
      | (go_at_call 32; refine (HW.out _ _ _ (L3.out.later (Below.refl _ _).drew)).mono ?_; rintro e w4 ⟨B, d, rfl, hl, hb⟩; have HO1 := Lib.hid (And.intro (show ListIn lr B d w4 from hl) ((Below.refl _ _).drew.trans hb)); clear hl hb)
      | (go_at_call 31; refine (HX.out _ _ _ _ _ _ _ HO1.out.1 (VX.out.later HO1.out.2)).mono ?_; rintro e w5 ⟨B2, d2, rfl, hl, hb⟩; have HO2 := Lib.hid (And.intro (show ListIn lz B2 d2 w5 from hl) (HO1.out.2.trans (hb.mono HO1.out.2.size))); clear hl hb))
  go_wp2
  go_ret2
  exact ⟨B2, d2, rfl, HO2.out.1, B3.out.trans (HO2.out.2.mono B3.out.size)⟩
end Go.Proofs.Ytlgggalbngpelaa
