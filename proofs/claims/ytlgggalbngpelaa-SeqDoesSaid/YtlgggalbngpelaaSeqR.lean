/- The document's own with, without: a list with one more, with one less. -/
import Derived.Test.YtlgggalbngpelaaSeqW
import Derived.Test.YtlgggalbngpelaaSeqX
namespace Go.Proofs.Ytlgggalbngpelaa
open Go Go.RowKit
set_option linter.unusedVariables false
set_option linter.unusedSimpArgs false

theorem own_nil (w : World) : Sl w w (.slice none 0 0) 0 [] [] := ⟨Below.refl _ _, World.ownsRow_nil _ _ _ _, by simp [RowL]⟩
theorem Sl.first0 {w W' : World} {v' : Value} {m : Nat} {l' : List GV} {news : List Value} (hr : RowL (fun k => k < w.heap.size) w l' news) (hown : W'.ownsRow w.heap.size 27 5 v' (0 + m) ([] ++ news)) (hg : w.grownBy W' (Value.ownBlock (.slice none 0 0))) : Sl w W' v' m l' news := by
  have := (own_nil w).app hr hown hg
  simpa using this
/-- Where a list lies from some place on, its room with it. -/
def fromAt (A : Option Addr) (c i : Nat) : Option Addr := if c = i then A else A.map fun p => ⟨p.block, p.off + i * 5, none⟩
theorem run_from (A : Option Addr) (n c i : Nat) (hA : ∀ p, A = some p → p.spot = none) (hi : i ≤ n) (hn : n ≤ c) (hc : c ≤ maxLen) (W : World) : (Instr.slice 24 (.slice A n c) (some (.int .i64 i)) none none).run Try.prog W = .ok (.slice (fromAt A c i) (n - i) (c - i)) W := by
  unfold maxLen at hc
  rw [run_slice_l (ht := Try.underlying24) (h0 := by omega) (h1 := by omega)]
  by_cases e : c = i
  · subst e; simp [go_sem, fromAt]
  · cases A with
    | none => simp [go_sem, fromAt]
    | some p =>
      obtain ⟨pb, po, ps⟩ := p
      have := hA _ rfl
      simp only at this
      subst this
      have hz : (c : Int) ≠ i := by omega
      simp [go_sem, fromAt, e, Addr.add]
      try omega
theorem run_upto (A : Option Addr) (n c i : Nat) (hi : i ≤ n) (hn : n ≤ c) (hc : c ≤ maxLen) (W : World) : (Instr.slice 24 (.slice A n c) none (some (.int .i64 i)) none).run Try.prog W = .ok (.slice A i c) W := by
  unfold maxLen at hc
  rw [run_slice_h (ht := Try.underlying24) (h0 := by omega) (h2 := by omega)]
  cases A <;> simp [go_sem, Addr.add]
/-- The cells of a part, where the slice begins there or the part is empty. -/
theorem lc_from {ok : Nat → Prop} {W : World} {A : Option Addr} {c : Nat} {l : List GV} (h : LstV ok W (.slice A l.length c) l) (i : Nat) (hi : i ≤ l.length) : ∃ xs, Lc ok W (fromAt A c i) (l.drop i) xs := by
  rcases h with ⟨rfl, e⟩ | ⟨b', o', c', e, h1, h2, hK, hE⟩
  · cases e
    simp at hi
    subst hi
    exact ⟨[], by simp [RowL], rfl, (fun ad h => by simp [fromAt] at h), (fun u h => by cases h)⟩
  · simp only [Value.slice.injEq] at e
    obtain ⟨rfl, _, rfl⟩ := e
    by_cases hba : c = i
    · have hd : l.drop i = [] := List.drop_eq_nil_of_le (by omega)
      rw [hd]
      exact ⟨[], rfl, rfl, (fun ad h => by simp [fromAt, hba] at h; subst h; exact ⟨hK.lt, fun j u hj => by simp at hj⟩), (fun u h => by cases h)⟩
    · have hE' : GV.els ok W b' 5 (o' + i * 5) (l.drop i) := GV.els_of fun j g hj => by
        rw [List.getElem?_drop] at hj
        have := GV.els_get hE hj
        rwa [show o' + i * 5 + j * 5 = o' + (i + j) * 5 by omega]
      obtain ⟨xs, hr, hl, hc, h1⟩ := els_row hE'
      refine ⟨xs, hr, hl, fun ad h => ?_, h1⟩
      simp [fromAt, hba] at h
      subst h
      refine ⟨hK.lt, fun j u hj => ?_⟩
      have e2 : (⟨b', o' + i * 5, none⟩ : Addr).add j = ⟨b', o' + i * 5 + j, none⟩ := by unfold Addr.add; split <;> simp_all
      rw [e2]
      exact hc j u hj
theorem lc_upto {ok : Nat → Prop} {W : World} {A : Option Addr} {c : Nat} {l : List GV} (h : LstV ok W (.slice A l.length c) l) (i : Nat) (hi : i ≤ l.length) : ∃ xs, Lc ok W A (l.take i) xs := by
  rcases h with ⟨rfl, e⟩ | ⟨b', o', c', e, h1, h2, hK, hE⟩
  · cases e
    exact ⟨[], by simp [RowL], by simp, (fun ad h => by cases h), (fun u h => by cases h)⟩
  · simp only [Value.slice.injEq] at e
    obtain ⟨rfl, _, rfl⟩ := e
    have hE' : GV.els ok W b' 5 o' (l.take i) := GV.els_of fun j g hj => by
      rw [List.getElem?_take] at hj
      split at hj
      · exact GV.els_get hE hj
      · cases hj
    obtain ⟨xs, hr, hl, hc, h1⟩ := els_row hE'
    refine ⟨xs, hr, hl, fun ad h => ?_, h1⟩
    cases h
    refine ⟨hK.lt, fun j u hj => ?_⟩
    have e2 : (⟨b', o', none⟩ : Addr).add j = ⟨b', o' + j, none⟩ := by unfold Addr.add; split <;> simp_all
    rw [e2]
    exact hc j u hj
theorem from_none {A : Option Addr} {c i : Nat} (h : fromAt A c i = none) : A = none := by unfold fromAt at h; split at h <;> simpa using h
theorem lst_low {W : World} {L : Value} {l : List GV} (h : LstV (fun _ => True) W L l) : LstV (fun k => k < W.heap.size) W L l := h.keep (From.refl _ _) (fun _ _ h => h)

set_option maxRecDepth 100000 in
set_option maxHeartbeats 8000000 in
theorem ref_without (A : Option Addr) (c i : Nat) (l : List GV) (w : World) (hL : LstV (fun _ => True) w (.slice A l.length c) l) (hi : i < l.length) (hn : l.length ≤ 1000000) :
    Calls Try.prog 32 #[.slice A l.length c, .int .i64 i] w (ListOut (remL l i) w) := by
  obtain ⟨hA0, hA1⟩ := lst_addr hL
  obtain ⟨_, _, he, hc1, hc2, _⟩ := hL.form
  simp only [Value.slice.injEq] at he
  obtain ⟨rfl, _, rfl⟩ := he
  obtain ⟨xs1, h1⟩ := lc_upto (lst_low hL) i (by omega)
  obtain ⟨xs3, h3⟩ := lc_from (lst_low hL) (i + 1) (by omega)
  have hr1 := run_upto A l.length c i (by omega) hc1 hc2
  have hr3 : ∀ W, (Instr.slice 24 (.slice A l.length c) (some (.int .i64 ((i : Int) + 1))) none none).run Try.prog W = .ok (.slice (fromAt A c (i + 1)) (l.length - (i + 1)) (c - (i + 1))) W := run_from A l.length c (i + 1) hA1 (by omega) hc1 hc2
  have hz1 : A = none → i = 0 := fun e => by have := (hA0 e).1; omega
  have hz3 : fromAt A c (i + 1) = none → l.length - (i + 1) = 0 := fun e => by have := (hA0 (from_none e)).1; omega
  have hl1 : xs1.length = i * 5 := by rw [h1.len]; simp; omega
  have hl3 : xs3.length = (l.length - (i + 1)) * 5 := by rw [h3.len]; simp
  have hfin : ∀ W v, Sl w W v (i + (l.length - (i + 1))) (l.take i ++ l.drop (i + 1)) (xs1 ++ xs3) → ListOut (remL l i) w (.returned v) W := fun W v h => by
    exact listOut_of (Below.refl _ _) h (by rw [rem_len l i hi]; omega)
  obtain ⟨i1, hi1, hy0, hy1, hy2⟩ := info_parts infoVal
  have HI1 := Lib.hid (And.intro hi1 (And.intro hy0 (And.intro hy1 hy2)))
  have H1 := Lib.hid h1
  have H3 := Lib.hid h3
  have HZ := Lib.hid (And.intro hz1 (And.intro hz3 (And.intro hl1 hl3)))
  have HFIN := Lib.hid hfin
  have B1 := Lib.hid (show (0 + i ≤ maxLen ∧ (0 + i) * 80 ≤ 140737488355328) ∧ (i + (l.length - (i + 1)) ≤ maxLen ∧ (i + (l.length - (i + 1))) * 80 ≤ 140737488355328) by unfold maxLen; omega)
  unfold maxLen at hc2
  clear hi1 hy0 hy1 hy2 h1 h3 hz1 hz3 hl1 hl3 hfin hA0 hA1 hL
  generalize fromAt A c (i + 1) = D3 at *
  generalize remL l i = lz at *
  generalize l.take i = l1 at *
  generalize l.drop (i + 1) = l3 at *
  generalize l.length = n at *
  go_enter Try.func32, Try.ntmps32
  go_wp2_with (first
    | (at_builtin; refine wpList_append_from _ rfl (.tmp 6) (.tmp 9) 24 rfl w.heap.size 27 i1 _ 5 80 Try.underlying24 HI1.out.1 HI1.out.2.1 HI1.out.2.2.1 HI1.out.2.2.2 rfl (by decide) (.slice none 0 0) 0 [] rfl (own_nil w).own A i c xs1 rfl HZ.out.1 HZ.out.2.2.1 (fun ad e => (H1.out.cells ad e).2) H1.out.one B1.out.1.1 B1.out.1.2 (Nat.le_refl _) ?_; intro v3 W3 hown3 hgrow3 hat3; have H4 := Lib.hid (Sl.first0 H1.out.row hown3 hgrow3); obtain ⟨A3, c3, rfl⟩ := own_form H4.out.own; clear hown3 hgrow3 hat3)
    | (at_builtin; refine wpList_append_from _ rfl (.tmp 11) (.tmp 15) 24 rfl w.heap.size 27 i1 _ 5 80 Try.underlying24 HI1.out.1 HI1.out.2.1 HI1.out.2.2.1 HI1.out.2.2.2 rfl (by decide) (.slice A3 i c3) i _ rfl H4.out.own D3 (n - (i + 1)) (c - (i + 1)) xs3 rfl HZ.out.2.1 HZ.out.2.2.2 (fun ad e => ((H3.out.later H4.out.below).cells ad e).2) H3.out.one B1.out.2.1 B1.out.2.2 H4.out.below.size ?_; intro v5 W5 hown5 hgrow5 hat5; have H5 := Lib.hid (HFIN.out _ _ (H4.out.app (H3.out.later H4.out.below).row hown5 hgrow5)); obtain ⟨A5, c5, rfl⟩ := own_form hown5; clear hown5 hgrow5 hat5))
  go_ret
  exact H5.out
set_option maxRecDepth 100000 in
set_option maxHeartbeats 8000000 in
theorem ref_with (A : Option Addr) (c i : Nat) (l : List GV) (g : GV) (AL AO : Option Addr) (cL cO : Nat) (w : World) (hL : LstV (fun _ => True) w (.slice A l.length c) l) (hv : Vl w g AL AO cL cO) (hi : i ≤ l.length) (hn : l.length ≤ 1000000) :
    Calls Try.prog 31 #[.slice A l.length c, .int .i64 i, .agg #[.int .u8 g.kind, .int .i64 g.num, .string g.str, .slice AL g.items.length cL, .slice AO g.vals.length cO]] w (ListOut (insL l i g) w) := by
  obtain ⟨hA0, hA1⟩ := lst_addr hL
  obtain ⟨_, _, he, hc1, hc2, _⟩ := hL.form
  simp only [Value.slice.injEq] at he
  obtain ⟨rfl, _, rfl⟩ := he
  have hwb := below_alloc w (.cells #[.int .u8 g.kind, .int .i64 g.num, .string g.str, .slice AL g.items.length cL, .slice AO g.vals.length cO] 27)
  have hLb := LstV.keep (From.of_below hwb) (fun _ h _ => h) hL
  obtain ⟨xs1, h1⟩ := lc_upto (lst_low hLb) i (by omega)
  obtain ⟨xs3, h3⟩ := lc_from (lst_low hLb) i (by omega)
  have hr1 := run_upto A l.length c i (by omega) hc1 hc2
  have hr3 := run_from A l.length c i hA1 (by omega) hc1 hc2
  have hz1 : A = none → i = 0 := fun e => by have := (hA0 e).1; omega
  have hz3 : fromAt A c i = none → l.length - i = 0 := fun e => by have := (hA0 (from_none e)).1; omega
  have hl1 : xs1.length = i * 5 := by rw [h1.len]; simp; omega
  have hl3 : xs3.length = (l.length - i) * 5 := by rw [h3.len]; simp
  have hfin : ∀ W v, Sl (w.alloc (.cells #[.int .u8 g.kind, .int .i64 g.num, .string g.str, .slice AL g.items.length cL, .slice AO g.vals.length cO] 27)) W v (i + 1 + (l.length - i)) ((l.take i ++ [g]) ++ l.drop i) ((xs1 ++ (chunk g (.slice AL g.items.length cL) (.slice AO g.vals.length cO))) ++ xs3) → ListOut (insL l i g) w (.returned v) W := fun W v h => by
    rw [show (l.take i ++ [g]) ++ l.drop i = insL l i g by simp [insL]] at h
    exact listOut_of hwb h (by rw [ins_len l i g hi]; omega)
  have hvb : LstV (fun k => k < (w.alloc (.cells #[.int .u8 g.kind, .int .i64 g.num, .string g.str, .slice AL g.items.length cL, .slice AO g.vals.length cO] 27)).heap.size) (w.alloc (.cells #[.int .u8 g.kind, .int .i64 g.num, .string g.str, .slice AL g.items.length cL, .slice AO g.vals.length cO] 27)) (.slice AL g.items.length cL) g.items ∧ ObjV (fun k => k < (w.alloc (.cells #[.int .u8 g.kind, .int .i64 g.num, .string g.str, .slice AL g.items.length cL, .slice AO g.vals.length cO] 27)).heap.size) (w.alloc (.cells #[.int .u8 g.kind, .int .i64 g.num, .string g.str, .slice AL g.items.length cL, .slice AO g.vals.length cO] 27)) (.slice AO g.vals.length cO) g.keys g.vals := ⟨(hv.later hwb).lst.keep (From.refl _ _) (fun _ _ h => h), (hv.later hwb).obj.keep (From.refl _ _) (fun _ _ h => h)⟩
  have BX := Lib.hid (fun (W : World) (hb : Below (w.alloc (.cells #[.int .u8 g.kind, .int .i64 g.num, .string g.str, .slice AL g.items.length cL, .slice AO g.vals.length cO] 27)).heap.size (w.alloc (.cells #[.int .u8 g.kind, .int .i64 g.num, .string g.str, .slice AL g.items.length cL, .slice AO g.vals.length cO] 27)) W) => (fun q : Five W w.heap.size _ _ _ _ _ => And.intro q.c0 (And.intro q.c1 (And.intro q.c2 (And.intro q.c3 q.c4)))) ((Whole.new w 27 #[.int .u8 g.kind, .int .i64 g.num, .string g.str, .slice AL g.items.length cL, .slice AO g.vals.length cO]).below hb (Whole.new w _ _).lt).five)
  obtain ⟨i1, hi1, hy0, hy1, hy2⟩ := info_parts infoVal
  have HI1 := Lib.hid (And.intro hi1 (And.intro hy0 (And.intro hy1 hy2)))
  have H1 := Lib.hid h1
  have H3 := Lib.hid h3
  have HV := Lib.hid hvb
  have HZ := Lib.hid (And.intro hz1 (And.intro hz3 (And.intro hl1 hl3)))
  have HFIN := Lib.hid hfin
  have B1 := Lib.hid (show (0 + i ≤ maxLen ∧ (0 + i) * 80 ≤ 140737488355328) ∧ (i + 1 ≤ maxLen ∧ (i + 1) * 80 ≤ 140737488355328) ∧ (i + 1 + (l.length - i) ≤ maxLen ∧ (i + 1 + (l.length - i)) * 80 ≤ 140737488355328) by unfold maxLen; omega)
  unfold maxLen at hc2
  clear hi1 hy0 hy1 hy2 h1 h3 hz1 hz3 hl1 hl3 hfin hA0 hA1 hL hLb hv hvb hwb
  generalize fromAt A c i = D3 at *
  generalize insL l i g = lz at *
  generalize l.take i = l1 at *
  generalize l.drop i = l3 at *
  generalize l.length = n at *
  go_enter Try.func31, Try.ntmps31
  go_wp2_with (first
    | (at_builtin; refine wpList_append_from _ rfl (.tmp 8) (.tmp 11) 24 rfl (w.alloc (.cells #[.int .u8 g.kind, .int .i64 g.num, .string g.str, .slice AL g.items.length cL, .slice AO g.vals.length cO] 27)).heap.size 27 i1 _ 5 80 Try.underlying24 HI1.out.1 HI1.out.2.1 HI1.out.2.2.1 HI1.out.2.2.2 rfl (by decide) (.slice none 0 0) 0 [] rfl (own_nil (w.alloc (.cells #[.int .u8 g.kind, .int .i64 g.num, .string g.str, .slice AL g.items.length cL, .slice AO g.vals.length cO] 27))).own A i c xs1 rfl HZ.out.1 HZ.out.2.2.1 (fun ad e => (H1.out.cells ad e).2) H1.out.one B1.out.1.1 B1.out.1.2 (Nat.le_refl _) ?_; intro v3 W3 hown3 hgrow3 hat3; have H4 := Lib.hid (Sl.first0 H1.out.row hown3 hgrow3); obtain ⟨A3, c3, rfl⟩ := own_form H4.out.own; obtain ⟨x0, x1, x2, x3, x4⟩ := BX.out _ H4.out.below; clear hown3 hgrow3 hat3)
    | (at_builtin; refine wpList_append_own_at _ rfl (.tmp 13) (.tmp 15) 24 rfl (w.alloc (.cells #[.int .u8 g.kind, .int .i64 g.num, .string g.str, .slice AL g.items.length cL, .slice AO g.vals.length cO] 27)).heap.size 27 i1 _ 5 80 Try.underlying24 HI1.out.1 HI1.out.2.1 HI1.out.2.2.1 HI1.out.2.2.2 rfl (by decide) (.slice A3 i c3) i xs1 rfl ((H4.out.step (below_alloc _ _)).own) ⟨W3.heap.size, 0, none⟩ 1 1 (chunk g (.slice AL g.items.length cL) (.slice AO g.vals.length cO)) rfl rfl (row_cells' _ _ rfl _ _) (by simp [chunk, Value.oneCell']) B1.out.2.1.1 B1.out.2.1.2 ((H4.out.step (below_alloc _ _)).below.size) ?_; intro v4 W4 hown4 hgrow4 _ hat4; have H6 := Lib.hid ((H4.out.step (below_alloc _ _)).app (l' := [g]) ⟨_, _, [], by simp, HV.out.1.keep (From.of_below (H4.out.step (below_alloc _ _)).below) (fun _ h _ => h), HV.out.2.keep (From.of_below (H4.out.step (below_alloc _ _)).below) (fun _ h _ => h), rfl⟩ hown4 hgrow4); obtain ⟨A4, c4, rfl⟩ := own_form H6.out.own; clear hown4 hgrow4 hat4)
    | (at_builtin; refine wpList_append_from _ rfl (.tmp 17) (.tmp 20) 24 rfl (w.alloc (.cells #[.int .u8 g.kind, .int .i64 g.num, .string g.str, .slice AL g.items.length cL, .slice AO g.vals.length cO] 27)).heap.size 27 i1 _ 5 80 Try.underlying24 HI1.out.1 HI1.out.2.1 HI1.out.2.2.1 HI1.out.2.2.2 rfl (by decide) (.slice A4 (i + 1) c4) (i + 1) _ rfl H6.out.own D3 (n - i) (c - i) xs3 rfl HZ.out.2.1 HZ.out.2.2.2 (fun ad e => ((H3.out.later H6.out.below).cells ad e).2) H3.out.one B1.out.2.2.1 B1.out.2.2.2 H6.out.below.size ?_; intro v5 W5 hown5 hgrow5 hat5; have H5 := Lib.hid (HFIN.out _ _ (H6.out.app (H3.out.later H6.out.below).row hown5 hgrow5)); obtain ⟨A5, c5, rfl⟩ := own_form hown5; clear hown5 hgrow5 hat5))
  go_ret
  exact H5.out
end Go.Proofs.Ytlgggalbngpelaa
