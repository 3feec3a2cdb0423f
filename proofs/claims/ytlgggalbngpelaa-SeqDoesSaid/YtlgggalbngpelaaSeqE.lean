/- Check, done, Do: what is done to a list. -/
import Derived.Test.YtlgggalbngpelaaSeqW
import Derived.Test.YtlgggalbngpelaaSeqA
namespace Go.Proofs.Ytlgggalbngpelaa
open Go Go.RowKit
set_option linter.unusedVariables false
set_option linter.unusedSimpArgs false

def withinB (i n : Int) : Bool := decide (0 ≤ i ∧ i < n)
theorem within_any (i n : Int) (w : World) : Calls Try.prog 34 #[.int .i64 i, .int .i64 n] w fun e w' => e = .returned (.bool (withinB i n)) ∧ w = w' := by
  by_cases h0 : 0 ≤ i <;> by_cases h1 : i < n
  · rw [show withinB i n = true by simp [withinB, h0, h1]]
    go_enter Try.func34, Try.ntmps34
    go_wp2
    go_ret
    exact ⟨rfl, rfl⟩
  all_goals
    rw [show withinB i n = false by simp [withinB, h0, h1]]
    go_enter Try.func34, Try.ntmps34
    go_wp2
    go_ret
    exact ⟨rfl, rfl⟩
/-- Check's answer. -/
def chk (n : Int) (k : Nat) (i j : Int) : Int :=
  if k = 4 then (if 0 ≤ i ∧ i ≤ n then 0 else 32) else if k = 5 ∨ k = 6 then (if withinB i n = true then 0 else 32) else if k = 7 then (if (withinB i n && withinB j n) = true then 0 else 32) else 31

set_option maxRecDepth 100000 in
set_option maxHeartbeats 4000000 in
theorem check_any (N : Int) (k : Nat) (i j : Int) (A AL AO : Option Addr) (n c nL cL nO cO : Nat) (s vs t : ByteArray) (m vk vn : Int) (w : World) :
    Calls Try.prog 18 #[.int .i64 N, .agg #[.int .u8 k, .slice A n c, .string s, .int .i64 i, .int .i64 j, .int .i64 m, .int .u8 vk, .int .i64 vn, .string vs, .slice AL nL cL, .slice AO nO cO, .string t]] w fun e w' => e = .returned (.int .u16 (chk N k i j)) ∧ Below w.heap.size w w' := by
  have hb := below_alloc w (.cells #[.int .u8 k, .slice A n c, .string s, .int .i64 i, .int .i64 j, .int .i64 m, .int .u8 vk, .int .i64 vn, .string vs, .slice AL nL cL, .slice AO nO cO, .string t] 29)
  have HWI := Lib.hid (fun W => within_any i N W)
  have HWJ := Lib.hid (fun W => within_any j N W)
  generalize hr : chk N k i j = r
  have HR := Lib.hid hr
  have HB := Lib.hid hb
  clear hr hb
  unfold chk at HR
  generalize withinB i N = bi at *
  generalize withinB j N = bj at *
  rcases (show k = 4 ∨ k = 5 ∨ k = 6 ∨ k = 7 ∨ (k ≠ 4 ∧ k ≠ 5 ∧ k ≠ 6 ∧ k ≠ 7) by omega) with hk | hk | hk | hk | ⟨h4, h5, h6, h7⟩
  · have g4 : ((k : Int) == 4) = true := by simp; omega
    rw [if_pos hk] at HR
    have h := HR.out
    clear HR hk
    by_cases h0 : 0 ≤ i <;> by_cases h1 : i ≤ N
    · obtain rfl : 0 = r := by simpa [h0, h1] using h
      clear h
      go_enter Try.func18, Try.ntmps18
      go_wp2
      go_ret
      exact ⟨rfl, HB.out⟩
    all_goals
      obtain rfl : 32 = r := by simpa [h0, h1] using h
      clear h
      go_enter Try.func18, Try.ntmps18
      go_wp2
      go_ret
      exact ⟨rfl, HB.out⟩
  · have g4 : ((k : Int) == 4) = false := by simp; omega
    have g5 : ((k : Int) == 5) = true := by simp; omega
    have HK := Lib.hid (show (if bi = true then (0 : Int) else 32) = r by have h := HR.out; subst hk; simpa using h)
    clear HR hk
    cases bi
    all_goals
      go_enter Try.func18, Try.ntmps18
      go_wp2_with (go_at_call 34; ((with_reducible refine (HWI.out _).mono ?_); rintro e w' ⟨rfl, rfl⟩))
      go_ret
      exact ⟨ret_int (by have h := HK.out; simpa using h), HB.out⟩
  · have g4 : ((k : Int) == 4) = false := by simp; omega
    have g5 : ((k : Int) == 5) = false := by simp; omega
    have g6 : ((k : Int) == 6) = true := by simp; omega
    have HK := Lib.hid (show (if bi = true then (0 : Int) else 32) = r by have h := HR.out; subst hk; simpa using h)
    clear HR hk
    cases bi
    all_goals
      go_enter Try.func18, Try.ntmps18
      go_wp2_with (go_at_call 34; ((with_reducible refine (HWI.out _).mono ?_); rintro e w' ⟨rfl, rfl⟩))
      go_ret
      exact ⟨ret_int (by have h := HK.out; simpa using h), HB.out⟩
  · have g4 : ((k : Int) == 4) = false := by simp; omega
    have g5 : ((k : Int) == 5) = false := by simp; omega
    have g6 : ((k : Int) == 6) = false := by simp; omega
    have g7 : ((k : Int) == 7) = true := by simp; omega
    have HK := Lib.hid (show (if (bi && bj) = true then (0 : Int) else 32) = r by have h := HR.out; subst hk; simpa using h)
    clear HR hk
    cases bi <;> cases bj
    all_goals
      go_enter Try.func18, Try.ntmps18
      go_wp2_with (first | (go_at_call 34; ((with_reducible refine (HWI.out _).mono ?_); rintro e w' ⟨rfl, rfl⟩)) | (go_at_call 34; ((with_reducible refine (HWJ.out _).mono ?_); rintro e w' ⟨rfl, rfl⟩)))
      go_ret
      exact ⟨ret_int (by have h := HK.out; simpa using h), HB.out⟩
  · have g4 : ((k : Int) == 4) = false := by simp; omega
    have g5 : ((k : Int) == 5) = false := by simp; omega
    have g6 : ((k : Int) == 6) = false := by simp; omega
    have g7 : ((k : Int) == 7) = false := by simp; omega
    obtain rfl : 31 = r := by have h := HR.out; simpa [h4, h5, h6, h7] using h
    clear HR h4 h5 h6 h7
    go_enter Try.func18, Try.ntmps18
    go_wp2
    go_ret
    exact ⟨rfl, HB.out⟩

def ListIn (l : List GV) (A : Option Addr) (c : Nat) (w : World) : Prop := LstV (fun _ => True) w (.slice A l.length c) l
theorem ListIn.later {l : List GV} {A : Option Addr} {c : Nat} {w w' : World} (h : ListIn l A c w) (hb : Below w.heap.size w w') : ListIn l A c w' := LstV.keep (From.of_below hb) (fun _ h _ => h) h
set_option maxRecDepth 100000 in
set_option maxHeartbeats 8000000 in
theorem done_any (A0 : Option Addr) (c0 : Nat) (l : List GV) (k i j : Nat) (g : GV) (A AL AO : Option Addr) (n c cL cO : Nat) (s t : ByteArray) (m : Int) (w : World) (hL : ListIn l A0 c0 w) (hv : Vl w g AL AO cL cO) (hok : okC l.length (⟨k, i, j, g⟩ : Cm GV)) (hn : l.length ≤ 1000000) :
    Calls Try.prog 29 #[.slice A0 l.length c0, .agg #[.int .u8 k, .slice A n c, .string s, .int .i64 i, .int .i64 j, .int .i64 m, .int .u8 g.kind, .int .i64 g.num, .string g.str, .slice AL g.items.length cL, .slice AO g.vals.length cO, .string t]] w (ListOut (doL l ⟨k, i, j, g⟩) w) := by
  have H0 := Lib.hid (Whole.new w 29 #[.int .u8 k, .slice A n c, .string s, .int .i64 i, .int .i64 j, .int .i64 m, .int .u8 g.kind, .int .i64 g.num, .string g.str, .slice AL g.items.length cL, .slice AO g.vals.length cO, .string t])
  have HB := Lib.hid (below_alloc w (.cells #[.int .u8 k, .slice A n c, .string s, .int .i64 i, .int .i64 j, .int .i64 m, .int .u8 g.kind, .int .i64 g.num, .string g.str, .slice AL g.items.length cL, .slice AO g.vals.length cO, .string t] 29))
  have HL := Lib.hid hL
  have HV := Lib.hid hv
  clear hL hv
  rcases hok with ⟨hk, hi⟩ | ⟨hk | hk, hi⟩ | ⟨hk, hi, hj⟩ <;> simp only at hk hi
  · rw [do_ins hk]
    have HW := Lib.hid (fun W (hb : Below w.heap.size w W) => seq_with A0 c0 i l g AL AO cL cO W (HL.out.later hb) (HV.out.later hb) hi (by omega))
    have g4 : ((k : Int) == 4) = true := by simp; omega
    simp only at HW ⊢
    generalize insL l i g = lz at *
    clear hk
    go_enter Try.func29, Try.ntmps29
    go_wp2_with (go_at_call 43; refine (HW.out _ (below_alloc _ _)).mono ?_; rintro e w1 ⟨B, d, rfl, hl, hb⟩; have HO := Lib.hid (And.intro hl ((below_alloc _ _).trans (hb.mono (by simp)))); clear hl hb)
    go_ret
    exact ⟨B, d, rfl, HO.out.1, HO.out.2⟩
  · rw [do_rem hk]
    have HW := Lib.hid (fun W (hb : Below w.heap.size w W) => seq_without A0 c0 i l W (HL.out.later hb) hi (by omega))
    have g4 : ((k : Int) == 4) = false := by simp; omega
    have g5 : ((k : Int) == 5) = true := by simp; omega
    simp only at HW ⊢
    generalize remL l i = lz at *
    clear hk
    go_enter Try.func29, Try.ntmps29
    go_wp2_with (go_at_call 44; refine (HW.out _ (below_alloc _ _)).mono ?_; rintro e w1 ⟨B, d, rfl, hl, hb⟩; have HO := Lib.hid (And.intro hl ((below_alloc _ _).trans (hb.mono (by simp)))); clear hl hb)
    go_ret
    exact ⟨B, d, rfl, HO.out.1, HO.out.2⟩
  · rw [do_set hk]
    have hrl := rem_len l i hi
    have HW := Lib.hid (fun W (hb : Below w.heap.size w W) => seq_without A0 c0 i l W (HL.out.later hb) hi (by omega))
    have HX := Lib.hid (fun W B d (hb : Below w.heap.size w W) (hl : ListIn (remL l i) B d W) => seq_with B d i (remL l i) g AL AO cL cO W hl (HV.out.later hb) (by omega) (by omega))
    have g4 : ((k : Int) == 4) = false := by simp; omega
    have g5 : ((k : Int) == 5) = false := by simp; omega
    have g6 : ((k : Int) == 6) = true := by simp; omega
    simp only at HW HX ⊢
    generalize insL (remL l i) i g = lz at *
    generalize remL l i = lr at *
    have HC := Lib.hid (fun (W : World) (hb : Below (w.alloc (.cells #[.int .u8 k, .slice A n c, .string s, .int .i64 i, .int .i64 j, .int .i64 m, .int .u8 g.kind, .int .i64 g.num, .string g.str, .slice AL g.items.length cL, .slice AO g.vals.length cO, .string t] 29)).heap.size (w.alloc (.cells #[.int .u8 k, .slice A n c, .string s, .int .i64 i, .int .i64 j, .int .i64 m, .int .u8 g.kind, .int .i64 g.num, .string g.str, .slice AL g.items.length cL, .slice AO g.vals.length cO, .string t] 29)) W) => (fun q : Tw W w.heap.size _ _ _ _ _ _ _ _ _ _ _ _ => And.intro q.c3 (And.intro q.c6 (And.intro q.c7 (And.intro q.c8 (And.intro q.c9 q.c10))))) (H0.out.below hb H0.out.lt).tw)
    clear hk hrl
    go_enter Try.func29, Try.ntmps29
    go_wp2
    go_region_held3 (fun W => W.cell? ⟨w.heap.size, 3, none⟩ = some (.int .i64 i) ∧ W.cell? ⟨w.heap.size, 6, none⟩ = some (.int .u8 g.kind) ∧ W.cell? ⟨w.heap.size, 7, none⟩ = some (.int .i64 g.num) ∧ W.cell? ⟨w.heap.size, 8, none⟩ = some (.string g.str) ∧ W.cell? ⟨w.heap.size, 9, none⟩ = some (.slice AL g.items.length cL) ∧ W.cell? ⟨w.heap.size, 10, none⟩ = some (.slice AO g.vals.length cO))
      (first | exact HC.out _ (HO1.out.2.trans HO2.out.2.2) | exact HC.out _ HO1.out.2 | exact HC.out _ (Below.refl _ _).drew)
      (first
        | (go_at_call 44; refine (HW.out _ (below_alloc _ _).drew).mono ?_; rintro e w1 ⟨B, d, rfl, hl, hb⟩; have HO1 := Lib.hid (And.intro hl ((Below.refl _ _).drew.trans hb)); clear hl hb)
        | (go_at_call 43; refine (HX.out _ _ _ ((below_alloc _ _).trans (HO1.out.2.mono (by simp))) HO1.out.1).mono ?_; rintro e w2 ⟨B2, d2, rfl, hl, hb⟩; have HO2 := Lib.hid (And.intro hl (And.intro ((below_alloc _ _).trans ((HO1.out.2.mono (by simp)).trans (hb.mono (by have := HO1.out.2.size; simp at this; omega)))) (hb.mono HO1.out.2.size))); clear hl hb))
    go_wp2
    go_ret
    exact ⟨B2, d2, rfl, HO2.out.1, HO2.out.2.1⟩
  · rw [do_move hk hi]
    simp only at hj
    obtain ⟨b, o, rfl, hcel, hvx⟩ : ∃ b o, A0 = some ⟨b, o, none⟩ ∧ (∃ A1 c1 A2 c2, (∀ W, Below w.heap.size w W → W.cell? ⟨b, o + i * 5, none⟩ = some (.int .u8 l[i].kind) ∧ W.cell? ⟨b, o + i * 5 + 1, none⟩ = some (.int .i64 l[i].num) ∧ W.cell? ⟨b, o + i * 5 + 2, none⟩ = some (.string l[i].str) ∧ W.cell? ⟨b, o + i * 5 + 3, none⟩ = some (.slice A1 l[i].items.length c1) ∧ W.cell? ⟨b, o + i * 5 + 4, none⟩ = some (.slice A2 l[i].vals.length c2)) ∧ Vl w l[i] A1 A2 c1 c2) ∧ True := by
      obtain ⟨A', c', he, _, _, hf⟩ := HL.out.form
      simp only [Value.slice.injEq] at he
      obtain ⟨rfl, _, rfl⟩ := he
      obtain ⟨b, o, rfl, hK, hE⟩ := hf (by intro e; rw [e] at hi; simp at hi)
      obtain ⟨L, O, q0, q1, q2, q3, q4, hLi, hOi⟩ := GV.at_iff.1 (GV.els_get hE (List.getElem?_eq_getElem hi))
      obtain ⟨A1, c1, rfl⟩ := lst_form hLi
      obtain ⟨A2, c2, rfl⟩ := obj_form hOi
      exact ⟨b, o, rfl, ⟨A1, c1, A2, c2, fun W hb => ⟨(hb.cell (p := ⟨b, _, none⟩) hK.lt).trans q0, (hb.cell (p := ⟨b, _, none⟩) hK.lt).trans q1, (hb.cell (p := ⟨b, _, none⟩) hK.lt).trans q2, (hb.cell (p := ⟨b, _, none⟩) hK.lt).trans q3, (hb.cell (p := ⟨b, _, none⟩) hK.lt).trans q4⟩, ⟨hLi, hOi⟩⟩, trivial⟩
    obtain ⟨A1, c1, A2, c2, hcel, hvx⟩ := hcel
    have hrl := rem_len l i hi
    have HW := Lib.hid (fun W (hb : Below w.heap.size w W) => seq_without (some ⟨b, o, none⟩) c0 i l W (HL.out.later hb) hi (by omega))
    have HX := Lib.hid (fun W B d (hb : Below w.heap.size w W) (hl : ListIn (remL l i) B d W) => seq_with B d j (remL l i) l[i] A1 A2 c1 c2 W hl (hvx.later hb) (by omega) (by omega))
    have g4 : ((k : Int) == 4) = false := by simp; omega
    have g5 : ((k : Int) == 5) = false := by simp; omega
    have g6 : ((k : Int) == 6) = false := by simp; omega
    have hk0 : (0 : Int) ≤ (i : Int) := by omega
    have hk1 : (i : Int) < (l.length : Int) := by omega
    simp only at HW HX ⊢
    have HC := Lib.hid (fun (W : World) (hb : Below (w.alloc (.cells #[.int .u8 k, .slice A n c, .string s, .int .i64 i, .int .i64 j, .int .i64 m, .int .u8 g.kind, .int .i64 g.num, .string g.str, .slice AL g.items.length cL, .slice AO g.vals.length cO, .string t] 29)).heap.size (w.alloc (.cells #[.int .u8 k, .slice A n c, .string s, .int .i64 i, .int .i64 j, .int .i64 m, .int .u8 g.kind, .int .i64 g.num, .string g.str, .slice AL g.items.length cL, .slice AO g.vals.length cO, .string t] 29)) W) => (fun q : Tw W w.heap.size _ _ _ _ _ _ _ _ _ _ _ _ => And.intro q.c3 (And.intro q.c4 (hcel W ((below_alloc _ _).trans (hb.mono (by simp)))))) (H0.out.below hb H0.out.lt).tw)
    clear hcel hvx
    generalize insL (remL l i) j l[i] = lz at *
    generalize remL l i = lr at *
    generalize l[i] = x at *
    clear hk hrl hj
    go_enter Try.func29, Try.ntmps29
    go_wp2
    go_region_held3 (fun W => W.cell? ⟨w.heap.size, 3, none⟩ = some (.int .i64 i) ∧ W.cell? ⟨w.heap.size, 4, none⟩ = some (.int .i64 j) ∧ W.cell? ⟨b, o + i * 5, none⟩ = some (.int .u8 x.kind) ∧ W.cell? ⟨b, o + i * 5 + 1, none⟩ = some (.int .i64 x.num) ∧ W.cell? ⟨b, o + i * 5 + 2, none⟩ = some (.string x.str) ∧ W.cell? ⟨b, o + i * 5 + 3, none⟩ = some (.slice A1 x.items.length c1) ∧ W.cell? ⟨b, o + i * 5 + 4, none⟩ = some (.slice A2 x.vals.length c2))
      (first | exact HC.out _ (HO1.out.2.trans HO2.out.2.2) | exact HC.out _ HO1.out.2 | exact HC.out _ (Below.refl _ _).drew)
      (first
        | (go_at_call 44; refine (HW.out _ (below_alloc _ _).drew).mono ?_; rintro e w1 ⟨B, d, rfl, hl, hb⟩; have HO1 := Lib.hid (And.intro hl ((Below.refl _ _).drew.trans hb)); clear hl hb)
        | (go_at_call 43; refine (HX.out _ _ _ ((below_alloc _ _).trans (HO1.out.2.mono (by simp))) HO1.out.1).mono ?_; rintro e w2 ⟨B2, d2, rfl, hl, hb⟩; have HO2 := Lib.hid (And.intro hl (And.intro ((below_alloc _ _).trans ((HO1.out.2.mono (by simp)).trans (hb.mono (by have := HO1.out.2.size; simp at this; omega)))) (hb.mono HO1.out.2.size))); clear hl hb))
    go_wp2
    go_ret
    exact ⟨B2, d2, rfl, HO2.out.1, HO2.out.2.1⟩

/-- What Do answers where it may be done. -/
def DoOut (l : List GV) (w : World) (e : Ending) (w' : World) : Prop := ∃ A c, e = .returned (.tuple #[.slice A l.length c, .int .u16 0]) ∧ LstV (fun k => w.heap.size ≤ k) w' (.slice A l.length c) l ∧ Below w.heap.size w w'
theorem val_field3 (N : Nat) : ∀ (BL BO : Option Addr) (dL dO : Nat) (w : World), (Instr.field 27 (.agg #[.int .u8 0, .int .i64 0, .string ⟨#[]⟩, .slice BL N dL, .slice BO 0 dO]) 3).run Try.prog w = .ok (.slice BL N dL) w := fun _ _ _ _ _ => by kernel_rfl
theorem chk_ok {n k i j : Nat} {g : GV} (h : okC n (⟨k, i, j, g⟩ : Cm GV)) : chk n k i j = 0 := by
  rcases h with ⟨hk, hi⟩ | ⟨hk | hk, hi⟩ | ⟨hk, hi⟩ <;> simp only at hk hi <;> subst hk <;> simp [chk, withinB] <;> omega
set_option maxRecDepth 100000 in
set_option maxHeartbeats 8000000 in
theorem seq_Do (A0 : Option Addr) (c0 : Nat) (l : List GV) (k i j : Nat) (g : GV) (A AL AO : Option Addr) (n c cL cO : Nat) (s t : ByteArray) (m : Int) (w : World) (hL : ListIn l A0 c0 w) (hv : Vl w g AL AO cL cO) (hok : okC l.length (⟨k, i, j, g⟩ : Cm GV)) (hn : l.length ≤ 1000000) (hw : GV.weights (doL l ⟨k, i, j, g⟩) ≤ 900000000) :
    Calls Try.prog 15 #[.slice A0 l.length c0, .agg #[.int .u8 k, .slice A n c, .string s, .int .i64 i, .int .i64 j, .int .i64 m, .int .u8 g.kind, .int .i64 g.num, .string g.str, .slice AL g.items.length cL, .slice AO g.vals.length cO, .string t]] w (DoOut (doL l ⟨k, i, j, g⟩) w) := by
  have H0 := Lib.hid (Whole.new w 29 #[.int .u8 k, .slice A n c, .string s, .int .i64 i, .int .i64 j, .int .i64 m, .int .u8 g.kind, .int .i64 g.num, .string g.str, .slice AL g.items.length cL, .slice AO g.vals.length cO, .string t])
  have HB := Lib.hid (below_alloc w (.cells #[.int .u8 k, .slice A n c, .string s, .int .i64 i, .int .i64 j, .int .i64 m, .int .u8 g.kind, .int .i64 g.num, .string g.str, .slice AL g.items.length cL, .slice AO g.vals.length cO, .string t] 29))
  have HCK := Lib.hid (fun W => (check_any l.length k i j A AL AO n c g.items.length cL g.vals.length cO s g.str t m g.kind g.num W))
  rw [chk_ok hok] at HCK
  have HD := Lib.hid (fun W (hb : Below w.heap.size w W) => done_any A0 c0 l k i j g A AL AO n c cL cO s t m W (hL.later hb) (hv.later hb) hok hn)
  have hcp : ∀ W B d, LstV (fun _ => True) W (.slice B (doL l ⟨k, i, j, g⟩).length d) (doL l ⟨k, i, j, g⟩) → Calls Try.prog 28 #[.agg #[.int .u8 0, .int .i64 0, .string ⟨#[]⟩, .slice B (doL l ⟨k, i, j, g⟩).length d, .slice none 0 0]] W fun e w' =>
      ∃ BL dL BO dO, e = .returned (.agg #[.int .u8 0, .int .i64 0, .string ⟨#[]⟩, .slice BL (doL l ⟨k, i, j, g⟩).length dL, .slice BO 0 dO]) ∧ LstV (fun k => W.heap.size ≤ k) w' (.slice BL (doL l ⟨k, i, j, g⟩).length dL) (doL l ⟨k, i, j, g⟩) ∧ Below W.heap.size W w' := fun W B d h =>
    (val_Copy (fun _ => True) _ (.mk 0 0 ⟨#[]⟩ (doL l ⟨k, i, j, g⟩) [] []) W ⟨_, _, rfl, h, ⟨rfl, .inl ⟨rfl, rfl⟩⟩⟩ (by have h0 : (⟨#[]⟩ : ByteArray).size = 0 := rfl; simp only [GV.weight, GV.weights, h0]; simp; omega)).mono fun e w' ⟨v', he, ⟨L', O', e2, hL', hO'⟩, hb⟩ => by
      obtain ⟨BL, dL, rfl⟩ := lst_form hL'
      obtain ⟨BO, dO, rfl⟩ := obj_form hO'
      exact ⟨BL, dL, BO, dO, by rw [he, e2]; rfl, hL', hb⟩
  have hfd := fun (n : Nat) => val_field3 n
  have HCP := Lib.hid hcp
  clear hcp
  clear hL hv hok hw
  generalize doL l ⟨k, i, j, g⟩ = lz at *
  go_enter Try.func15, Try.ntmps15
  go_wp2_with (first
    | (go_at_call 18; refine (HCK.out _).mono ?_; rintro e w1 ⟨rfl, hb⟩; have H1 := Lib.hid (H0.out.below hb H0.out.lt); have B1 := Lib.hid (HB.out.trans (hb.mono (by simp))); obtain ⟨a0, a1, a2, a3, a4, a5, a6, a7, a8, a9, a10, a11, f0, f1, f2, f3, f4, f5, f6, f7, f8, f9, f10, f11⟩ := H1.out.tw; clear hb)
    | (go_at_call 29; refine (HD.out _ B1.out).mono ?_; rintro e w2 ⟨B, d, rfl, hl, hb⟩; have H2 := Lib.hid (And.intro hl (B1.out.trans (hb.mono B1.out.size))); clear hl hb)
    | (go_at_call 28; refine (HCP.out _ _ _ H2.out.1).mono ?_; rintro e w3 ⟨BL, dL, BO, dO, rfl, hL', hb⟩; have H3 := Lib.hid (And.intro (hL'.keep (ok' := fun k => w.heap.size ≤ k) (From.refl _ _) (fun k hk _ => by have := H2.out.2.size; omega)) (H2.out.2.trans (hb.mono H2.out.2.size))); clear hL' hb))
  go_ret2
  exact ⟨BL, dL, rfl, H3.out.1, H3.out.2⟩
set_option maxRecDepth 100000 in
set_option maxHeartbeats 8000000 in
/-- Where it may not be done. -/
theorem seq_Do_no (A0 : Option Addr) (N : Nat) (c0 : Nat) (k : Nat) (i j : Int) (A AL AO : Option Addr) (n c nL cL nO cO : Nat) (s vs t : ByteArray) (m vk vn : Int) (w : World) (hno : chk N k i j ≠ 0) :
    Calls Try.prog 15 #[.slice A0 N c0, .agg #[.int .u8 k, .slice A n c, .string s, .int .i64 i, .int .i64 j, .int .i64 m, .int .u8 vk, .int .i64 vn, .string vs, .slice AL nL cL, .slice AO nO cO, .string t]] w fun e w' => e = .returned (.tuple #[.slice none 0 0, .int .u16 (chk N k i j)]) ∧ Below w.heap.size w w' := by
  have HB := Lib.hid (below_alloc w (.cells #[.int .u8 k, .slice A n c, .string s, .int .i64 i, .int .i64 j, .int .i64 m, .int .u8 vk, .int .i64 vn, .string vs, .slice AL nL cL, .slice AO nO cO, .string t] 29))
  have HCK := Lib.hid (fun W => (check_any N k i j A AL AO n c nL cL nO cO s vs t m vk vn W))
  generalize chk N k i j = r at *
  have h1 : (r != 0) = true := by simpa using hno
  clear hno
  go_enter Try.func15, Try.ntmps15
  go_wp2_with (go_at_call 18; refine (HCK.out _).mono ?_; rintro e w1 ⟨rfl, hb⟩; have B1 := Lib.hid (HB.out.trans (hb.mono (by simp))); clear hb)
  go_ret2
  exact ⟨rfl, B1.out⟩
end Go.Proofs.Ytlgggalbngpelaa
