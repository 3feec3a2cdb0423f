/- Rows of bytes of one's own: an append of bytes that lie somewhere, or of none. -/
import Derived.Test.YtdagpmmachaeaaaSumK
import Derived.OwnWalk
import Derived.Maps.AppendAt
namespace Go.Proofs.Ytdagpmmachaeaaa
open Go Go.RowKit
set_option linter.unusedVariables false
set_option linter.unusedSimpArgs false

section
variable {P : Program} (w : World)
theorem append_none (base : Nat) (t ty e : TypeId) (i : TypeInfo) (size : Nat) (ht : P.underlying t = some (.slice e)) (hi : P.info? e = some i) (v : Value) (n : Nat) (xs : List Value) (hown : w.ownsRow base e size v n xs) (c : Nat) :
    (Builtin.append_ #[t, t] ty #[v, .slice none 0 c]).run P w = .ok v w := by
  rcases hown.2 with ⟨rfl, rfl⟩ | ⟨_, _, _, rfl, _, _, hnc, _⟩ <;> simp [Builtin.append_, run_underlying ht, sizeOf, typeInfo, Builtin.lenOf, Builtin.firstCells, storeCells, *]
/-- An append to a row of the call's own, of cells that lie somewhere, or of nothing. -/
theorem wpList_append_from {ops : Array Oper} {rest : List Oper} {o : Oper} {a : Act} {Q : Exit → Act → World → Prop} (hgd : o.guard = none) (s x : Operand) (t : TypeId)
    (ho : o.op = .call { callee := .builtin .append, args := #[s, x], argTypes := #[t, t] })
    (base : Nat) (e : TypeId) (i : TypeInfo) (z : Value) (size bytes : Nat) (ht : P.underlying t = some (.slice e)) (hi : P.info? e = some i) (hz : i.zero = some z)
    (hsize : i.size = size) (hby : i.bytes = bytes) (hzs : z.cells.size = size) (hsz : 0 < size)
    (v : Value) (n : Nat) (xs : List Value) (hs : a.eval s = v) (hown : w.ownsRow base e size v n xs)
    (A : Option Addr) (m c : Nat) (news : List Value) (hx : a.eval x = .slice A m c) (hA : A = none → m = 0) (hl : news.length = m * size) (hnews : ∀ ad, A = some ad → ∀ j u, news[j]? = some u → w.cell? (ad.add j) = some u) (h1 : ∀ u ∈ news, u.oneCell' = true)
    (h63 : n + m ≤ maxLen) (hbytes : (n + m) * bytes ≤ 140737488355328) (hbase : base ≤ w.heap.size)
    (h : ∀ v' w', w'.ownsRow base e size v' (n + m) (xs ++ news) → w.grownBy w' v.ownBlock → (v'.ownBlock = v.ownBlock ∨ v'.ownBlock = some w.heap.size) → wpList P ops Q rest (a.put o.dst v') w') :
    wpList P ops Q (o :: rest) a w := by
  refine wpList_plain hgd fun K hK => ?_
  have hrun : ∃ v' w', (Builtin.append_ #[t, t] o.type #[v, .slice A m c]).run P w = .ok v' w' ∧ w'.ownsRow base e size v' (n + m) (xs ++ news) ∧ w.grownBy w' v.ownBlock ∧ (v'.ownBlock = v.ownBlock ∨ v'.ownBlock = some w.heap.size) := by
    cases A with
    | none =>
      obtain rfl := hA rfl
      obtain rfl : news = [] := List.eq_nil_of_length_eq_zero (by simpa using hl)
      exact ⟨v, w, append_none w base t o.type e i size ht hi v n xs hown c, by simpa using hown, ⟨rfl, rfl, rfl, Nat.le_refl _, fun _ _ _ => rfl⟩, .inl rfl⟩
    | some ad =>
      obtain ⟨v', w', hr, h2, h3, _, h5⟩ := run_append_own_at (P := P) w base t o.type e i z size bytes ht hi hz hsize hby hzs hsz v n xs hown ad m c news hl (hnews ad rfl) h1 h63 hbytes hbase
      exact ⟨v', w', hr, h2, h3, h5⟩
  obtain ⟨v', w', hr, h2, h3, h5⟩ := hrun
  unfold Oper.wp execOp
  simp only [ho, resolve, invoke, builtin, Sem.run_bind, Sem.run_pure, Result.andThen_ok, List.map_toArray, List.map_cons, List.map_nil, hs, hx, hr]
  exact hK _ _ (h v' w' h2 h3 h5)
end

theorem infoByte : (Try.prog.info? 5).map (fun i => (i.zero, i.size, i.bytes)) = some (some (.int .u8 0), 1, 1) := by kernel_rfl
def cellsB (bs : List Int) : List Value := bs.map (Value.int .u8)
theorem cellsB_length (bs : List Int) : (cellsB bs).length = bs.length := by simp [cellsB]
theorem cellsB_get {bs : List Int} {i : Nat} {x : Int} (h : bs[i]? = some x) : (cellsB bs)[i]? = some (.int .u8 x) := by simp [cellsB, h]
theorem cellsB_one (bs : List Int) : ∀ u ∈ cellsB bs, u.oneCell' = true := by
  intro u hu; obtain ⟨x, _, rfl⟩ := List.mem_map.1 hu; rfl
theorem cellsB_from {hi : Nat} {W : World} {A : Option Addr} {bs : List Int} (h : Bytes hi W A bs) : ∀ ad, A = some ad → ∀ j u, (cellsB bs)[j]? = some u → W.cell? (ad.add j) = some u := by
  intro ad e j u hj
  have hlt := (List.getElem?_eq_some_iff.1 hj).1
  rw [cellsB_length] at hlt
  obtain ⟨b, o, e2, _, hc⟩ := h (by intro e; simp [e] at hlt)
  rw [e] at e2; cases e2
  have h3 := hc j bs[j] (List.getElem?_eq_getElem hlt)
  rw [cellsB_get (List.getElem?_eq_getElem hlt)] at hj
  cases hj
  by_cases e0 : j = 0
  · subst e0; simpa [Addr.add] using h3
  · simpa [Addr.add, e0] using h3
theorem Bytes.none {hi : Nat} {W : World} {A : Option Addr} {bs : List Int} (h : Bytes hi W A bs) : A = none → bs.length = 0 := by
  intro e
  cases bs with
  | nil => rfl
  | cons x r => obtain ⟨_, _, e2, _⟩ := h (by simp); rw [e] at e2; cases e2
/-- A block of one's own that begins with bytes. -/
structure RowB (base : Nat) (W : World) (g : Nat) (bs : List Int) : Prop where
  base : base ≤ g
  whole : ∃ cur, Whole W g 5 cur ∧ ∀ (i : Nat) (x : Int), bs[i]? = some x → cur[i]? = some (Value.int .u8 x)
theorem own_bytes {W : World} {base n : Nat} {v : Value} {bs : List Int} (h : W.ownsRow base 5 1 v n (cellsB bs)) (hn : n = bs.length) :
    ∃ B d, v = .slice B bs.length d ∧ bs.length ≤ d ∧ (bs = [] ∨ ∃ g, B = some ⟨g, 0, none⟩ ∧ RowB base W g bs) := by
  subst hn
  rcases h.2 with ⟨rfl, hn⟩ | ⟨g, cap, cur, rfl, hb, hg, h1, h2, h3, h4⟩
  · exact ⟨none, 0, by rw [hn], by omega, .inl (List.length_eq_zero_iff.1 hn)⟩
  · refine ⟨_, cap, rfl, h1, .inr ⟨g, rfl, hb, cur, hg, fun i x hi => ?_⟩⟩
    have h5 := cellsB_get hi
    rw [← h4, List.getElem?_take] at h5
    split at h5
    · rw [Array.getElem?_toList] at h5; exact h5
    · cases h5
theorem own_some {W : World} {base n : Nat} {v : Value} {bs : List Int} (h : W.ownsRow base 5 1 v n (cellsB bs)) (hn : n = bs.length) (hne : bs ≠ []) :
    ∃ g d, v = .slice (some ⟨g, 0, none⟩) bs.length d ∧ bs.length ≤ d ∧ RowB base W g bs := by
  obtain ⟨B, d, rfl, hd, h2⟩ := own_bytes h hn
  obtain ⟨g, rfl, h3⟩ := h2.resolve_left hne
  exact ⟨g, d, rfl, hd, h3⟩
theorem RowB.bytes {base : Nat} {W : World} {g : Nat} {bs : List Int} (h : RowB base W g bs) : Bytes (g + 1) W (some ⟨g, 0, none⟩) bs := by
  obtain ⟨_, cur, hw, hc⟩ := h; exact Bytes.whole hw hc
theorem RowB.lt {base : Nat} {W : World} {g : Nat} {bs : List Int} (h : RowB base W g bs) : g < W.heap.size := by obtain ⟨_, cur, hw, _⟩ := h; exact hw.lt
theorem RowB.cell {base : Nat} {W : World} {g : Nat} {bs : List Int} (h : RowB base W g bs) {i : Nat} {x : Int} (hi : bs[i]? = some x) : W.cell? ⟨g, i, none⟩ = some (.int .u8 x) ∧ W.frozen? ⟨g, i, none⟩ = false := by
  obtain ⟨_, cur, hw, hc⟩ := h; exact ⟨by rw [hw.cell]; exact hc i x hi, hw.frozen i⟩
theorem RowB.put {base : Nat} {W : World} {g : Nat} {bs : List Int} (h : RowB base W g bs) {k : Nat} (x : Int) : RowB base (W.setCell ⟨g, k, none⟩ (.int .u8 x)) g (bs.set k x) := by
  obtain ⟨hb, cur, hw, hc⟩ := h
  refine ⟨hb, _, hw.put k _, fun i y hi => ?_⟩
  rw [List.getElem?_set] at hi
  rw [Array.getElem?_setIfInBounds]
  split at hi
  · rename_i e
    subst e
    split at hi
    · cases hi
      rename_i hlt
      have := hc k bs[k] (List.getElem?_eq_getElem hlt)
      rw [if_pos rfl, if_pos (Array.getElem?_eq_some_iff.1 this).1]
    · cases hi
  · rename_i e
    rw [if_neg e]
    exact hc i y hi
theorem RowB.keep {base lo : Nat} {W W' : World} {g : Nat} {bs : List Int} (h : RowB base W g bs) (hb : Below lo W W') (hl : g < lo) : RowB base W' g bs := by
  obtain ⟨hb', cur, hw, hc⟩ := h; exact ⟨hb', cur, hw.below hb hl, hc⟩
theorem RowB.far {base : Nat} {W : World} {g : Nat} {bs : List Int} (h : RowB base W g bs) {p : Addr} (hp : g ≠ p.block) (u : Value) : RowB base (W.setCell p u) g bs := by
  obtain ⟨hb', cur, hw, hc⟩ := h; exact ⟨hb', cur, hw.far hp u, hc⟩
end Go.Proofs.Ytdagpmmachaeaaa
