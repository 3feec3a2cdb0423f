/- numbers, same, done: lists of numbers, and components one behind the other. -/
import Derived.Test.YtlgggalbngpelaaSeqK
namespace Go.Proofs.Ytlgggalbngpelaa
open Go Go.RowKit
set_option linter.unusedVariables false
set_option linter.unusedSimpArgs false

def numsG (n : Nat) : List GV := (List.range n).map fun i : Nat => numG (1000 + (i : Int))
theorem nums_len (n : Nat) : (numsG n).length = n := by simp [numsG]
theorem nums_get (n i : Nat) (h : i < n) : (numsG n)[i]? = some (numG (1000 + (i : Int))) := by simp [numsG, h]
theorem nums_succ (n : Nat) : numsG (n + 1) = numsG n ++ [numG (1000 + (n : Int))] := by simp [numsG, List.range_succ]
theorem keepq {W W' : World} (hb : Below W.heap.size W W') {p : Addr} {v : Value} (q : W.cell? p = some v) : W'.cell? p = some v := (hb.cell (World.block_lt_of_cell? W _ q)).trans q
/-- Between the rounds. -/
def NumsTo (w : World) (n : Nat) (v i : Value) (wr : World) : Prop := ∃ (k : Nat) (A : Option Addr) (c : Nat) (xs : List Value), i = .int .i64 k ∧ k ≤ n ∧ v = .slice A k c ∧ Sl w wr v k (numsG k) xs
theorem Sl.begin (w : World) : Sl w w (.slice none 0 0) 0 [] [] := ⟨Below.refl _ _, World.ownsRow_nil _ _ _ _, by simp [RowL]⟩
set_option maxRecDepth 100000 in
set_option maxHeartbeats 4000000 in
theorem numbers_any (n : Nat) (w : World) (hn : n ≤ 1000) : Calls Try.prog 13 #[.int .i64 n] w (ListOut (numsG n) w) := by
  obtain ⟨i1, hi1, hy0, hy1, hy2⟩ := info_parts infoVal
  have HI1 := Lib.hid (And.intro hi1 (And.intro hy0 (And.intro hy1 hy2)))
  clear hi1 hy0 hy1 hy2
  go_enter Try.func13, Try.ntmps13
  go_wp2
  go_loopw [3, 4] (NumsTo w n) (fun _ i _ => n - (intOf i).toNat)
  case atStart => exact ⟨0, none, 0, [], rfl, Nat.zero_le _, rfl, Sl.begin w⟩
  case round =>
    obtain ⟨k, A, c, xs, rfl, hk, rfl, hs⟩ := hrel
    have HS := Lib.hid hs
    clear hs
    by_cases hlt : k < n
    · have B1 := Lib.hid (show k + 1 ≤ maxLen ∧ (k + 1) * 80 ≤ 140737488355328 by unfold maxLen; omega)
      go_wp2_with (at_builtin; refine wpList_append_own_at _ rfl (.tmp 10) (.tmp 14) 24 rfl w.heap.size 27 i1 _ 5 80 Try.underlying24 HI1.out.1 HI1.out.2.1 HI1.out.2.2.1 HI1.out.2.2.2 rfl (by decide) (.slice A k c) k xs rfl ((HS.out.step (below_alloc _ _)).own) ⟨wr.heap.size, 0, none⟩ 1 1 [.int .u8 2, .int .i64 (1000 + (k : Int)), .string ⟨#[]⟩, .slice none 0 0, .slice none 0 0] rfl rfl (row_cells' _ _ rfl _ _) (by simp [Value.oneCell']) B1.out.1 B1.out.2 ((HS.out.step (below_alloc _ _)).below.size) ?_; intro v3 W3 hown3 hgrow3 _ hat3; obtain ⟨A3, c3, rfl⟩ := own_form hown3; have H3 := Lib.hid ((HS.out.step (below_alloc _ _)).app (l' := [numG (1000 + (k : Int))]) ⟨_, _, [], rfl, .inl ⟨rfl, rfl⟩, ⟨rfl, .inl ⟨rfl, rfl⟩⟩, rfl⟩ hown3 hgrow3); clear hown3 hgrow3 hat3)
      go_roundw
      case rel => exact ⟨k + 1, A3, c3, _, by go_num, by omega, rfl, by rw [nums_succ]; exact H3.out⟩
      case measure => simp [intOf]; omega
    · obtain rfl : k = n := by omega
      go_wp2
      go_ret
      exact listOut_of (Below.refl _ _) HS.out (by rw [nums_len])
theorem same_list {W : World} {l : List GV} {A A' : Option Addr} {c c' : Nat} (h : ListIn l A c W) (h' : ListIn l A' c' W) (hw : GV.weights l ≤ 900000000) :
    Calls Try.prog 17 #[.slice A l.length c, .slice A' l.length c'] W fun e w' => e = .returned (.bool true) ∧ Below W.heap.size W w' := by
  have hs : ∀ W', Below W.heap.size W W' → Calls Try.prog 33 #[.agg #[.int .u8 0, .int .i64 0, .string ⟨#[]⟩, .slice A l.length c, .slice none 0 0], .agg #[.int .u8 0, .int .i64 0, .string ⟨#[]⟩, .slice A' l.length c', .slice none 0 0]] W' fun e w' => e = .returned (.bool true) ∧ Below W'.heap.size W' w' := fun W' hb =>
    same_is (g := .mk 0 0 ⟨#[]⟩ l [] []) ⟨h.later hb, ⟨rfl, .inl ⟨rfl, rfl⟩⟩⟩ ⟨h'.later hb, ⟨rfl, .inl ⟨rfl, rfl⟩⟩⟩ (by have h0 : (⟨#[]⟩ : ByteArray).size = 0 := rfl; simp only [GV.weight, GV.weights, h0]; simp; omega)
  have HS := Lib.hid hs
  clear hs h h' hw
  generalize l.length = n at *
  go_enter Try.func17, Try.ntmps17
  go_wp2_with (go_at_call 33; refine (HS.out _ (Below.refl _ _)).mono ?_; rintro e w1 ⟨rfl, hb⟩)
  go_ret
  exact ⟨rfl, hb⟩

/-- A component without path, key or text, at its twelve cells. -/
def CompAt (W : World) (b o : Nat) (c : Cm GV) : Prop := ∃ AL AO cL cO, (W.cell? ⟨b, o, none⟩ = some (.int .u8 c.k) ∧ W.cell? ⟨b, o + 1, none⟩ = some (.slice none 0 0) ∧ W.cell? ⟨b, o + 2, none⟩ = some (.string ⟨#[]⟩) ∧ W.cell? ⟨b, o + 3, none⟩ = some (.int .i64 c.i) ∧ W.cell? ⟨b, o + 4, none⟩ = some (.int .i64 c.j) ∧ W.cell? ⟨b, o + 5, none⟩ = some (.int .i64 0) ∧ W.cell? ⟨b, o + 6, none⟩ = some (.int .u8 c.v.kind) ∧ W.cell? ⟨b, o + 7, none⟩ = some (.int .i64 c.v.num) ∧ W.cell? ⟨b, o + 8, none⟩ = some (.string c.v.str) ∧ W.cell? ⟨b, o + 9, none⟩ = some (.slice AL c.v.items.length cL) ∧ W.cell? ⟨b, o + 10, none⟩ = some (.slice AO c.v.vals.length cO) ∧ W.cell? ⟨b, o + 11, none⟩ = some (.string ⟨#[]⟩)) ∧ Vl W c.v AL AO cL cO
theorem CompAt.later {W W' : World} {b o : Nat} {c : Cm GV} (h : CompAt W b o c) (hb : Below W.heap.size W W') : CompAt W' b o c := by
  obtain ⟨AL, AO, cL, cO, ⟨h0, h1, h2, h3, h4, h5, h6, h7, h8, h9, h10, h11⟩, hv⟩ := h
  exact ⟨AL, AO, cL, cO, ⟨keepq hb h0, keepq hb h1, keepq hb h2, keepq hb h3, keepq hb h4, keepq hb h5, keepq hb h6, keepq hb h7, keepq hb h8, keepq hb h9, keepq hb h10, keepq hb h11⟩, hv.later hb⟩
def runL (l : List GV) (cs : List (Cm GV)) : List GV := cs.foldl doL l
def okAll : List GV → List (Cm GV) → Prop
  | _, [] => True
  | l, c :: r => okC l.length c ∧ l.length ≤ 1000000 ∧ GV.weights (doL l c) ≤ 900000000 ∧ okAll (doL l c) r
theorem okAll_at : ∀ {cs : List (Cm GV)} {l : List GV} {k : Nat} {c : Cm GV}, okAll l cs → cs[k]? = some c → okC (runL l (cs.take k)).length c ∧ (runL l (cs.take k)).length ≤ 1000000 ∧ GV.weights (doL (runL l (cs.take k)) c) ≤ 900000000
  | [], _, _, _, _, h => by simp at h
  | x :: r, l, 0, c, h, hc => by simp at hc; subst hc; exact ⟨h.1, h.2.1, h.2.2.1⟩
  | x :: r, l, k + 1, c, h, hc => by
    have := okAll_at (k := k) (c := c) h.2.2.2 (by simpa using hc)
    simpa [runL] using this
theorem run_succ {cs : List (Cm GV)} {l : List GV} {k : Nat} {c : Cm GV} (h : cs[k]? = some c) : runL l (cs.take (k + 1)) = doL (runL l (cs.take k)) c := by
  rw [List.take_add_one, h]
  simp [runL, List.foldl_append]
/-- All were done. -/
def DoneOut (l : List GV) (w : World) (e : Ending) (w' : World) : Prop := ∃ A c, e = .returned (.tuple #[.slice A l.length c, .bool true]) ∧ ListIn l A c w' ∧ Below w.heap.size w w'
def DoneRel (w : World) (l : List GV) (cs : List (Cm GV)) (v i : Value) (wr : World) : Prop := ∃ (k : Nat) (A : Option Addr) (c : Nat), i = .int .i64 k ∧ k ≤ cs.length ∧ v = .slice A (runL l (cs.take k)).length c ∧ ListIn (runL l (cs.take k)) A c wr ∧ Below w.heap.size w wr
set_option maxRecDepth 100000 in
set_option maxHeartbeats 8000000 in
theorem law_done (A0 : Option Addr) (c0 : Nat) (l : List GV) (cs : List (Cm GV)) (b o cc : Nat) (w : World) (hL : ListIn l A0 c0 w) (hn : cs.length ≤ cc) (hcc : cc ≤ maxLen) (hcs : ∀ k c, cs[k]? = some c → CompAt w b (o + k * 12) c) (hok : okAll l cs) :
    Calls Try.prog 21 #[.slice A0 l.length c0, .slice (some ⟨b, o, none⟩) cs.length cc] w (DoneOut (runL l cs) w) := by
  have HL := Lib.hid hL
  have HC := Lib.hid hcs
  have HK := Lib.hid hok
  unfold maxLen at hcc
  clear hL hcs hok
  go_enter Try.func21, Try.ntmps21
  go_wp2
  go_loopw [0, 6] (DoneRel w l cs) (fun _ i _ => cs.length - (intOf i).toNat)
  case atStart => exact ⟨0, A0, c0, rfl, Nat.zero_le _, rfl, HL.out, Below.refl _ _⟩
  case round =>
    obtain ⟨k, A, c, rfl, hk, rfl, hl, hb⟩ := hrel
    have HLk := Lib.hid hl
    have HBk := Lib.hid hb
    clear hl hb
    by_cases hlt : k < cs.length
    · have hget := List.getElem?_eq_getElem hlt
      have HR := Lib.hid (run_succ (l := l) hget)
      obtain ⟨AL, AO, cL, cO, ⟨a0, a1, a2, a3, a4, a5, a6, a7, a8, a9, a10, a11⟩, hv⟩ := (HC.out k _ hget).later HBk.out
      obtain ⟨q1, q2, q3⟩ := okAll_at HK.out hget
      have HDO := Lib.hid (fun W (hb : Below wr.heap.size wr W) => seq_Do A c (runL l (cs.take k)) cs[k].k cs[k].i cs[k].j cs[k].v none AL AO 0 0 cL cO ⟨#[]⟩ ⟨#[]⟩ 0 W (HLk.out.later hb) (hv.later hb) q1 q2 q3)
      clear hget hv q1 q2 q3
      rw [show (⟨cs[k].k, cs[k].i, cs[k].j, cs[k].v⟩ : Cm GV) = cs[k] from rfl] at HDO
      generalize cs[k] = x at *
      generalize doL (runL l (cs.take k)) x = l2 at *
      generalize runL l (cs.take k) = l1 at *
      generalize x.v.items.length = n1 at *
      generalize x.v.vals.length = n2 at *
      go_wp2_with (go_at_call 15; refine (HDO.out _ (Below.refl _ _)).mono ?_; rintro e w1 ⟨B, d, rfl, hl, hb⟩; have H1 := Lib.hid (And.intro (hl.keep (ok' := fun _ => True) (From.refl _ _) (fun _ _ _ => trivial)) (HBk.out.trans (hb.mono HBk.out.size))); clear hl hb)
      go_roundw
      case rel => exact ⟨k + 1, B, d, by go_num, by omega, by rw [HR.out], by rw [HR.out]; exact H1.out.1, H1.out.2⟩
      case measure => simp [intOf]; omega
    · obtain rfl : k = cs.length := by omega
      have e1 : runL l (cs.take cs.length) = runL l cs := by rw [List.take_length]
      rw [e1] at HLk ⊢
      generalize runL l cs = lz at *
      clear e1
      go_wp2
      go_ret2
      exact ⟨A, c, rfl, HLk.out, HBk.out⟩
end Go.Proofs.Ytlgggalbngpelaa
