/- with, without: a list with one more, with one less. -/
import Derived.Test.YtlgggalbngpelaaSeqL
import Derived.Deep.Upon
namespace Go.Proofs.Ytlgggalbngpelaa
open Go Go.RowKit
set_option linter.unusedVariables false
set_option linter.unusedSimpArgs false

theorem RowL.app {ok : Nat → Prop} {W : World} : ∀ {l : List GV} {xs : List Value} {l' : List GV} {xs' : List Value}, RowL ok W l xs → RowL ok W l' xs' → RowL ok W (l ++ l') (xs ++ xs')
  | [], _, _, _, h, h' => by rw [show _ = ([] : List Value) from h]; exact h'
  | _ :: _, _, _, _, ⟨L, O, ys, e, hL, hO, hr⟩, h' => ⟨L, O, ys ++ _, by rw [e, List.append_assoc], hL, hO, RowL.app hr h'⟩
/-- A list's cells, as they lie. -/
structure Lc (ok : Nat → Prop) (W : World) (A : Option Addr) (l : List GV) (xs : List Value) : Prop where
  row : RowL ok W l xs
  len : xs.length = l.length * 5
  cells : ∀ ad, A = some ad → ad.block < W.heap.size ∧ ∀ j u, xs[j]? = some u → W.cell? (ad.add j) = some u
  one : ∀ u ∈ xs, u.oneCell' = true
theorem Lc.of {ok : Nat → Prop} {W : World} {A : Option Addr} {n c : Nat} {l : List GV} (h : LstV ok W (.slice A n c) l) : ∃ xs, Lc ok W A l xs := by
  rcases h with ⟨rfl, e⟩ | ⟨b', o', c', e, h1, h2, hK, hE⟩
  · cases e
    exact ⟨[], rfl, rfl, (fun ad h => by cases h), (fun u h => by cases h)⟩
  · simp only [Value.slice.injEq] at e
    obtain ⟨rfl, _, rfl⟩ := e
    obtain ⟨xs, hr, hl, hc, h1⟩ := els_row hE
    refine ⟨xs, hr, hl, fun ad h => ?_, h1⟩
    cases h
    refine ⟨hK.lt, fun j u hj => ?_⟩
    have e2 : (⟨b', o', none⟩ : Addr).add j = ⟨b', o' + j, none⟩ := by unfold Addr.add; split <;> simp_all
    rw [e2]
    exact hc j u hj
theorem add_block (a : Addr) (j : Nat) : (a.add j).block = a.block := by unfold Addr.add; split <;> rfl
theorem Lc.later {ok : Nat → Prop} {W W' : World} {A : Option Addr} {l : List GV} {xs : List Value} (h : Lc ok W A l xs) (hb : Below W.heap.size W W') : Lc ok W' A l xs :=
  ⟨h.row.keep (From.of_below hb) (fun _ h _ => h), h.len, fun ad e => ⟨Nat.lt_of_lt_of_le (h.cells ad e).1 hb.size, fun j u hj => (hb.cell (by rw [add_block]; exact (h.cells ad e).1)).trans ((h.cells ad e).2 j u hj)⟩, h.one⟩
theorem own_mono {w : World} {base base' : Nat} {e : TypeId} {size : Nat} {v : Value} {n : Nat} {xs : List Value} (h : w.ownsRow base e size v n xs) (hb : base' ≤ base) : w.ownsRow base' e size v n xs :=
  ⟨h.1, h.2.imp id fun ⟨g, cap, cur, h1, h2, h3⟩ => ⟨g, cap, cur, h1, Nat.le_trans hb h2, h3⟩⟩
/-- The row that the call makes. -/
structure Sl (w W : World) (v : Value) (n : Nat) (l : List GV) (xs : List Value) : Prop where
  below : Below w.heap.size w W
  own : W.ownsRow w.heap.size 27 5 v n xs
  row : RowL (fun k => k < w.heap.size) W l xs
theorem Sl.first {w W W' : World} {v' : Value} {n : Nat} {l l' : List GV} {xs news : List Value} (hb : Below w.heap.size w W) (hl : RowL (fun k => k < w.heap.size) W l xs) (hn : RowL (fun k => k < w.heap.size) W l' news)
    (hown : W'.ownsRow W.heap.size 27 5 v' n (xs ++ news)) (hg : W.grownBy W' none) : Sl w W' v' n (l ++ l') (xs ++ news) := by
  have hF : From (fun k => k < w.heap.size) W W' := fun k _ hlt => hg.block k hlt (fun e => by cases e)
  exact ⟨hb.grown hg hb.size (fun k e => by cases e), own_mono hown hb.size, (hl.app hn).keep hF (fun _ h _ => h)⟩
theorem Sl.step {w W W' : World} {v : Value} {n : Nat} {l : List GV} {xs : List Value} (h : Sl w W v n l xs) (hb : Below W.heap.size W W') : Sl w W' v n l xs :=
  ⟨h.below.trans (hb.mono h.below.size), own_below h.own hb, h.row.keep (.of_below hb) (fun _ h _ => h)⟩
theorem Sl.app {w W W' : World} {v v' : Value} {n m : Nat} {l l' : List GV} {xs news : List Value} (h : Sl w W v n l xs) (hr : RowL (fun k => k < w.heap.size) W l' news)
    (hown : W'.ownsRow w.heap.size 27 5 v' (n + m) (xs ++ news)) (hg : W.grownBy W' v.ownBlock) : Sl w W' v' (n + m) (l ++ l') (xs ++ news) := by
  have hF : From (fun k => k < w.heap.size) W W' := fun k hk hlt => hg.block k hlt (fun e => by have := (h.own.lt k e.symm).1; omega)
  exact ⟨h.below.grown hg h.below.size (fun k hk => (h.own.lt k hk).1), hown, (h.row.app hr).keep hF (fun _ h _ => h)⟩
theorem Sl.done {w W : World} {v : Value} {l : List GV} {xs : List Value} (h : Sl w W v l.length l xs) : LstV (fun _ => True) W v l :=
  LstV.of_own h.own (h.row.keep (From.refl _ _) fun _ _ _ => trivial) fun _ _ => trivial

/-- A list, new or not. -/
def ListOut (l : List GV) (w : World) (e : Ending) (w' : World) : Prop := ∃ A c, e = .returned (.slice A l.length c) ∧ LstV (fun _ => True) w' (.slice A l.length c) l ∧ Below w.heap.size w w'
theorem listOut_of {l : List GV} {w wb w' : World} {v : Value} {n : Nat} {xs : List Value} (hw : Below w.heap.size w wb) (h : Sl wb w' v n l xs) (hn : n = l.length) : ListOut l w (.returned v) w' := by
  subst hn
  have hd := h.done
  obtain ⟨A, c, rfl⟩ := lst_form hd
  exact ⟨A, c, rfl, hd, hw.trans (h.below.mono hw.size)⟩

set_option maxRecDepth 100000 in
set_option maxHeartbeats 8000000 in
theorem seq_with (A : Option Addr) (c i : Nat) (l : List GV) (g : GV) (AL AO : Option Addr) (cL cO : Nat) (w : World) (hL : LstV (fun _ => True) w (.slice A l.length c) l) (hv : Vl w g AL AO cL cO) (hi : i ≤ l.length) (hn : l.length ≤ 1000000000) :
    Calls Try.prog 43 #[.slice A l.length c, .int .i64 i, .agg #[.int .u8 g.kind, .int .i64 g.num, .string g.str, .slice AL g.items.length cL, .slice AO g.vals.length cO]] w (ListOut (insL l i g) w) := by
  obtain ⟨hA0, hA1⟩ := lst_addr hL
  obtain ⟨_, _, he, hc1, hc2, _⟩ := hL.form
  simp only [Value.slice.injEq] at he
  obtain ⟨rfl, _, rfl⟩ := he
  have hwb := below_alloc w (.cells #[.int .u8 g.kind, .int .i64 g.num, .string g.str, .slice AL g.items.length cL, .slice AO g.vals.length cO] 27)
  have hok := hL.keep (ok' := fun k => k < (w.alloc (.cells #[.int .u8 g.kind, .int .i64 g.num, .string g.str, .slice AL g.items.length cL, .slice AO g.vals.length cO] 27)).heap.size) (From.of_below hwb) (fun k _ h => by simp; omega)
  obtain ⟨xs1, h1⟩ := Lc.of (lst_part hok 0 i (Nat.zero_le _) hi)
  obtain ⟨xs3, h3⟩ := Lc.of (lst_part hok i l.length hi (Nat.le_refl _))
  have hp1 := fun W => part_any A l.length c 0 i W hA1 (Nat.zero_le _) (by omega) hc2 (fun e => (hA0 e).2)
  have hp3 := fun W => part_any A l.length c i l.length W hA1 hi hc1 hc2 (fun e => (hA0 e).2)
  have hz1 : partAt A 0 i = none → i = 0 ∧ i = 0 := fun e => by
    have : A = none := by unfold partAt at e; split at e <;> simpa using e
    have := hA0 this; omega
  have hz3 : partAt A i l.length = none → l.length - i = 0 := fun e => by
    have : A = none := by unfold partAt at e; split at e <;> simpa using e
    have := hA0 this; omega
  have hx : LstV (fun k => k < (w.alloc (.cells #[.int .u8 g.kind, .int .i64 g.num, .string g.str, .slice AL g.items.length cL, .slice AO g.vals.length cO] 27)).heap.size) (w.alloc (.cells #[.int .u8 g.kind, .int .i64 g.num, .string g.str, .slice AL g.items.length cL, .slice AO g.vals.length cO] 27)) (.slice AL g.items.length cL) g.items ∧ ObjV (fun k => k < (w.alloc (.cells #[.int .u8 g.kind, .int .i64 g.num, .string g.str, .slice AL g.items.length cL, .slice AO g.vals.length cO] 27)).heap.size) (w.alloc (.cells #[.int .u8 g.kind, .int .i64 g.num, .string g.str, .slice AL g.items.length cL, .slice AO g.vals.length cO] 27)) (.slice AO g.vals.length cO) g.keys g.vals := ⟨hv.lst.keep (From.of_below hwb) (fun k _ h => by simp; omega), hv.obj.keep (From.of_below hwb) (fun k _ h => by simp; omega)⟩
  have hfin : ∀ W v, Sl (w.alloc (.cells #[.int .u8 g.kind, .int .i64 g.num, .string g.str, .slice AL g.items.length cL, .slice AO g.vals.length cO] 27)) W v (i + 1 + (l.length - i)) (((l.drop 0).take (i - 0) ++ [g]) ++ (l.drop i).take (l.length - i)) ((xs1 ++ chunk g (.slice AL g.items.length cL) (.slice AO g.vals.length cO)) ++ xs3) → ListOut (insL l i g) w (.returned v) W := fun W v h => by
    have e1 : (((l.drop 0).take (i - 0) ++ [g]) ++ (l.drop i).take (l.length - i)) = insL l i g := by
      rw [List.take_of_length_le (l := l.drop i) (by simp)]
      simp [insL]
    rw [e1] at h
    exact listOut_of hwb h (by rw [ins_len l i g hi]; omega)
  have hl1 : xs1.length = i * 5 := by rw [h1.len]; simp; omega
  have hl3 : xs3.length = (l.length - i) * 5 := by rw [h3.len]; simp
  obtain ⟨i1, hi1, hy0, hy1, hy2⟩ := info_parts infoVal
  have HI1 := Lib.hid (And.intro hi1 (And.intro hy0 (And.intro hy1 hy2)))
  simp only [Nat.sub_zero, Int.ofNat_zero] at hp1
  have HP1 := Lib.hid hp1
  have HP3 := Lib.hid hp3
  have H1 := Lib.hid h1
  have H3 := Lib.hid h3
  have HZ := Lib.hid (And.intro hz1 (And.intro hz3 (And.intro hl1 hl3)))
  have HX := Lib.hid hx
  have HFIN := Lib.hid hfin
  have B1 := Lib.hid (show (i < i + 1 ∧ i + 1 ≤ maxLen ∧ (i + 1) * 80 ≤ 140737488355328) ∧ (i + 1 + (l.length - i) ≤ maxLen ∧ (i + 1 + (l.length - i)) * 80 ≤ 140737488355328) by unfold maxLen; omega)
  have BX := Lib.hid (Whole.new w 27 #[.int .u8 g.kind, .int .i64 g.num, .string g.str, .slice AL g.items.length cL, .slice AO g.vals.length cO])
  have hba : Below (w.alloc (.cells #[.int .u8 g.kind, .int .i64 g.num, .string g.str, .slice AL g.items.length cL, .slice AO g.vals.length cO] 27)).heap.size (w.alloc (.cells #[.int .u8 g.kind, .int .i64 g.num, .string g.str, .slice AL g.items.length cL, .slice AO g.vals.length cO] 27)) ((w.alloc (.cells #[.int .u8 g.kind, .int .i64 g.num, .string g.str, .slice AL g.items.length cL, .slice AO g.vals.length cO] 27)).alloc (.cells #[.int .u8 g.kind, .int .i64 g.num, .string g.str, .slice AL g.items.length cL, .slice AO g.vals.length cO] 27)).drew := (below_alloc _ _).drew
  have h1a := h1.later hba
  have HA1 := Lib.hid (fun b e => (h1a.cells b e).2)
  have HA2 := Lib.hid hba
  have HA3 := Lib.hid h1a.row
  have HA4 := Lib.hid (show RowL (fun k => k < (w.alloc (.cells #[.int .u8 g.kind, .int .i64 g.num, .string g.str, .slice AL g.items.length cL, .slice AO g.vals.length cO] 27)).heap.size) ((w.alloc (.cells #[.int .u8 g.kind, .int .i64 g.num, .string g.str, .slice AL g.items.length cL, .slice AO g.vals.length cO] 27)).alloc (.cells #[.int .u8 g.kind, .int .i64 g.num, .string g.str, .slice AL g.items.length cL, .slice AO g.vals.length cO] 27)).drew [g] (chunk g (.slice AL g.items.length cL) (.slice AO g.vals.length cO)) from ⟨_, _, [], by simp, hx.1.keep (From.of_below hba) (fun _ h _ => h), hx.2.keep (From.of_below hba) (fun _ h _ => h), rfl⟩)
  have HA5 := Lib.hid (show ∀ (j : Nat) (u : Value), (chunk g (.slice AL g.items.length cL) (.slice AO g.vals.length cO))[j]? = some u → ((w.alloc (.cells #[.int .u8 g.kind, .int .i64 g.num, .string g.str, .slice AL g.items.length cL, .slice AO g.vals.length cO] 27)).alloc (.cells #[.int .u8 g.kind, .int .i64 g.num, .string g.str, .slice AL g.items.length cL, .slice AO g.vals.length cO] 27)).drew.cell? ((⟨w.heap.size + 1, 0, none⟩ : Addr).add j) = some u from row_cells' (w.alloc (.cells #[.int .u8 g.kind, .int .i64 g.num, .string g.str, .slice AL g.items.length cL, .slice AO g.vals.length cO] 27)) _ (by simp) (chunk g (.slice AL g.items.length cL) (.slice AO g.vals.length cO)) 27)
  have BXC := Lib.hid (fun (W : World) (hb : Below (w.alloc (.cells #[.int .u8 g.kind, .int .i64 g.num, .string g.str, .slice AL g.items.length cL, .slice AO g.vals.length cO] 27)).heap.size (w.alloc (.cells #[.int .u8 g.kind, .int .i64 g.num, .string g.str, .slice AL g.items.length cL, .slice AO g.vals.length cO] 27)) W) => (fun q : Five W w.heap.size _ _ _ _ _ => And.intro q.c0 (And.intro q.c1 (And.intro q.c2 (And.intro q.c3 q.c4)))) (BX.out.below hb BX.out.lt).five)
  clear hba h1a hwb
  clear hi1 hy0 hy1 hy2 hp1 hp3 h1 h3 hz1 hz3 hl1 hl3 hx hfin hok hA0 hA1 hL hv
  generalize partAt A 0 i = D1 at *
  generalize partAt A i l.length = D3 at *
  generalize insL l i g = lz at *
  generalize l.length = n at *
  go_enter Try.func43, Try.ntmps43
  go_wp2
  go_region_held3 (fun W => W.cell? ⟨w.heap.size, 0, none⟩ = some (.int .u8 g.kind) ∧ W.cell? ⟨w.heap.size, 1, none⟩ = some (.int .i64 g.num) ∧ W.cell? ⟨w.heap.size, 2, none⟩ = some (.string g.str) ∧ W.cell? ⟨w.heap.size, 3, none⟩ = some (.slice AL g.items.length cL) ∧ W.cell? ⟨w.heap.size, 4, none⟩ = some (.slice AO g.vals.length cO))
    (first | exact BXC.out _ HS5.out.below | exact BXC.out _ HS3.out.below | exact BXC.out _ (below_alloc _ _).drew | exact BXC.out _ (Below.refl _ _).drew)
    (first
      | (go_at_call 47; ((with_reducible refine (HP1.out _).mono ?_); rintro e w' ⟨rfl, rfl⟩))
      | (go_at_call 47; ((with_reducible refine (HP3.out _).mono ?_); rintro e w' ⟨rfl, rfl⟩))
      | (refine step_append_full rfl (.tmp 9) (.tmp 11) 24 rfl 27 i1 _ 5 80 Try.underlying24 HI1.out.1 HI1.out.2.1 HI1.out.2.2.1 HI1.out.2.2.2 rfl (by decide) D1 i i xs1 rfl HZ.out.1 HZ.out.2.2.1 HA1.out ⟨w.heap.size + 1, 0, none⟩ 1 1 (chunk g (.slice AL g.items.length cL) (.slice AO g.vals.length cO)) rfl rfl HA5.out (by simp [chunk, Value.oneCell']) B1.out.1.1 B1.out.1.2.1 B1.out.1.2.2 ?_; intro v3 W3 hown3 hgrow3; obtain ⟨A3, c3, rfl⟩ := own_form hown3; have HS3 := Lib.hid (Sl.first HA2.out HA3.out HA4.out hown3 hgrow3); clear hown3 hgrow3)
      | (refine step_append_from rfl (.tmp 12) (.tmp 17) 24 rfl (w.alloc (.cells #[.int .u8 g.kind, .int .i64 g.num, .string g.str, .slice AL g.items.length cL, .slice AO g.vals.length cO] 27)).heap.size 27 i1 _ 5 80 Try.underlying24 HI1.out.1 HI1.out.2.1 HI1.out.2.2.1 HI1.out.2.2.2 rfl (by decide) (.slice A3 (i + 1) c3) (i + 1) _ rfl HS3.out.own D3 (n - i) (n - i) xs3 rfl HZ.out.2.1 HZ.out.2.2.2 (fun ad e => ((H3.out.later HS3.out.below).cells ad e).2) H3.out.one B1.out.2.1 B1.out.2.2 HS3.out.below.size ?_; intro v5 W5 hown5 hgrow5; obtain ⟨A5, c5, rfl⟩ := own_form hown5; have HS5 := Lib.hid (HS3.out.app (H3.out.later HS3.out.below).row hown5 hgrow5); clear hown5 hgrow5))
  all_goals
    go_wp2
    go_ret
    exact HFIN.out _ _ HS5.out

theorem run_append_lst {W : World} (ty : TypeId) (A A' : Option Addr) (n m : Nat) (l1 l2 : List GV) (h1 : LstV (fun _ => True) W (.slice A n n) l1) (h2 : LstV (fun _ => True) W (.slice A' m m) l2) (hn : n + m ≤ 1000000000) :
    ∃ B d w', (Builtin.append_ #[24, 24] ty #[.slice A n n, .slice A' m m]).run Try.prog W = .ok (.slice B (n + m) d) w' ∧ LstV (fun _ => True) w' (.slice B (n + m) d) (l1 ++ l2) ∧ Below W.heap.size W w' := by
  obtain ⟨hA0, _⟩ := lst_addr h1
  obtain ⟨hA0', _⟩ := lst_addr h2
  obtain ⟨_, _, he, hc1, hc2, _⟩ := h1.form
  obtain ⟨_, _, he', hc1', hc2', _⟩ := h2.form
  simp only [Value.slice.injEq] at he he'
  obtain ⟨rfl, hnl, hcn⟩ := he
  obtain ⟨rfl, hml, hcm⟩ := he'
  obtain ⟨i1, hi1, hy0, hy1, hy2⟩ := info_parts infoVal
  obtain ⟨xs1, g1⟩ := Lc.of (h1.keep (ok' := fun k => k < W.heap.size) (From.refl _ _) (fun _ _ h => h))
  obtain ⟨xs2, g2⟩ := Lc.of (h2.keep (ok' := fun k => k < W.heap.size) (From.refl _ _) (fun _ _ h => h))
  by_cases hm : m = 0
  · obtain rfl : l2 = [] := List.eq_nil_of_length_eq_zero (by omega)
    subst hm
    refine ⟨A, n, W, ?_, by simpa using h1, Below.refl _ _⟩
    exact run_append_nothing W 24 24 ty 27 i1 Try.underlying24 hi1 A n n (Nat.le_refl _) (.slice A' 0 0) ⟨.inl ⟨_, Try.underlying24⟩, fun w' => by simp [Builtin.lenOf], by cases A' <;> simp [Builtin.firstCells, loadCells, loadCellsFrom], by cases A' <;> simp [Builtin.firstCells, loadCells, loadCellsFrom], by simp, fun u hu => by cases hu⟩
  · cases A' with
    | none => have := hA0' rfl; omega
    | some ad =>
      obtain ⟨v', w', hr, hown, hg⟩ := run_append_full (P := Try.prog) (w := W) 24 ty 27 i1 _ 5 80 Try.underlying24 hi1 hy0 hy1 hy2 rfl (by decide) A n n xs1 (fun e => ⟨(hA0 e).1, (hA0 e).1⟩) (by rw [g1.len, ← hnl]) (fun b e => (g1.cells b e).2) ad m m xs2 (by rw [g2.len, ← hml]) ((g2.cells ad rfl).2) g2.one (by omega) (by unfold maxLen; omega) (by omega)
      have hs := Sl.first (Below.refl _ W) g1.row g2.row hown hg
      rw [show n + m = (l1 ++ l2).length by simp; omega] at hs ⊢
      have hd := hs.done
      obtain ⟨B, d, rfl⟩ := lst_form hd
      exact ⟨B, d, w', hr, hd, hs.below⟩
theorem wpList_append_lst {ops : Array Oper} {rest : List Oper} {o : Oper} {a : Act} {Q : Exit → Act → World → Prop} {w : World} (hgd : o.guard = none) (s x : Operand)
    (ho : o.op = .call { callee := .builtin .append, args := #[s, x], argTypes := #[24, 24] })
    (A A' : Option Addr) (n m : Nat) (l1 l2 : List GV) (hs : a.eval s = .slice A n n) (hx : a.eval x = .slice A' m m) (h1 : LstV (fun _ => True) w (.slice A n n) l1) (h2 : LstV (fun _ => True) w (.slice A' m m) l2) (hn : n + m ≤ 1000000000)
    (h : ∀ B d w', LstV (fun _ => True) w' (.slice B (n + m) d) (l1 ++ l2) → Below w.heap.size w w' → wpList Try.prog ops Q rest (a.put o.dst (.slice B (n + m) d)) w') : wpList Try.prog ops Q (o :: rest) a w := by
  refine wpList_plain hgd fun K hK => ?_
  obtain ⟨B, d, w', hr, h3, h4⟩ := run_append_lst o.type A A' n m l1 l2 h1 h2 hn
  unfold Oper.wp execOp
  simp only [ho, resolve, invoke, builtin, Sem.run_bind, Sem.run_pure, Result.andThen_ok, List.map_toArray, List.map_cons, List.map_nil, hs, hx, hr]
  exact hK _ _ (h B d w' h3 h4)

set_option maxRecDepth 100000 in
set_option maxHeartbeats 8000000 in
theorem seq_without (A : Option Addr) (c i : Nat) (l : List GV) (w : World) (hL : LstV (fun _ => True) w (.slice A l.length c) l) (hi : i < l.length) (hn : l.length ≤ 1000000000) :
    Calls Try.prog 44 #[.slice A l.length c, .int .i64 i] w (ListOut (remL l i) w) := by
  obtain ⟨hA0, hA1⟩ := lst_addr hL
  obtain ⟨_, _, he, hc1, hc2, _⟩ := hL.form
  simp only [Value.slice.injEq] at he
  obtain ⟨rfl, _, rfl⟩ := he
  have H1 := Lib.hid (lst_part hL 0 i (Nat.zero_le _) (by omega))
  have H3 := Lib.hid (lst_part hL (i + 1) l.length (by omega) (Nat.le_refl _))
  have hp1 := fun W => part_any A l.length c 0 i W hA1 (Nat.zero_le _) (by omega) hc2 (fun e => (hA0 e).2)
  have hp3 : ∀ W, Calls Try.prog 47 #[.slice A l.length c, .int .i64 ((i : Int) + 1), .int .i64 l.length] W fun e w' => e = .returned (.slice (partAt A (i + 1) l.length) (l.length - (i + 1)) (l.length - (i + 1))) ∧ W = w' := fun W => part_any A l.length c (i + 1) l.length W hA1 (by omega) hc1 hc2 (fun e => (hA0 e).2)
  simp only [Nat.sub_zero, Int.ofNat_zero] at hp1
  have hlen : i + (l.length - (i + 1)) = (remL l i).length := by rw [rem_len l i hi]; omega
  have hfin : ∀ W B d, LstV (fun _ => True) W (.slice B (i + (l.length - (i + 1))) d) ((l.drop 0).take (i - 0) ++ (l.drop (i + 1)).take (l.length - (i + 1))) → Below w.heap.size w W → ListOut (remL l i) w (.returned (.slice B (i + (l.length - (i + 1))) d)) W := fun W B d h hb => by
    have e1 : (l.drop 0).take (i - 0) ++ (l.drop (i + 1)).take (l.length - (i + 1)) = remL l i := by
      rw [List.take_of_length_le (l := l.drop (i + 1)) (by simp)]
      simp [remL]
    rw [e1, hlen] at h
    rw [hlen]
    exact ⟨B, d, rfl, h, hb⟩
  have HFIN := Lib.hid hfin
  have HP1 := Lib.hid hp1
  have HP3 := Lib.hid hp3
  unfold maxLen at hc2
  clear hfin hp1 hp3 hA0 hA1 hL hlen
  simp only [Nat.sub_zero] at H1
  generalize partAt A 0 i = D1 at *
  generalize partAt A (i + 1) l.length = D3 at *
  generalize remL l i = lz at *
  generalize l.length = n at *
  go_enter Try.func44, Try.ntmps44
  go_wp2_with (first
    | (go_at_call 47; ((with_reducible refine (HP1.out _).mono ?_); rintro e w' ⟨rfl, rfl⟩))
    | (go_at_call 47; ((with_reducible refine (HP3.out _).mono ?_); rintro e w' ⟨rfl, rfl⟩))
    | (at_builtin; refine wpList_append_lst rfl (.tmp 7) (.tmp 13) rfl D1 D3 i (n - (i + 1)) _ _ rfl rfl H1.out H3.out (by omega) ?_; intro B d W5 hl5 hb5; have H5 := Lib.hid (HFIN.out _ _ _ hl5 hb5); clear hl5 hb5))
  go_ret
  exact H5.out
end Go.Proofs.Ytlgggalbngpelaa
