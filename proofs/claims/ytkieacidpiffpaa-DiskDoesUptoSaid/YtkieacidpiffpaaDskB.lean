/- Rows of bytes: where they stand, one's own, appended to, cut, cloned (as in layers 11 and 12, without a sum). -/
import Derived.Test.YtkieacidpiffpaaProg
import Derived.Test.YtkieacidpiffpaaBlk
import Derived.WalkKit
import Derived.WalkSpells
import Derived.WalkLawsBesides
import Derived.OwnWalk
import Derived.Maps.AppendAt
import Derived.Laws.OwnMore
import Derived.Lib.Hide
import Derived.Lib.SliceRun
namespace Go.Proofs.Ytkieacidpiffpaa
open Go Go.RowKit
set_option linter.unusedVariables false
set_option linter.unusedSimpArgs false

def Byte (bs : List Int) : Prop := ∀ x ∈ bs, 0 ≤ x ∧ x ≤ 255
theorem Byte.append {a b : List Int} (ha : Byte a) (hb : Byte b) : Byte (a ++ b) := fun x hx => (List.mem_append.1 hx).elim (ha x) (hb x)
theorem Byte.left {a b : List Int} (h : Byte (a ++ b)) : Byte a := fun x hx => h x (List.mem_append_left _ hx)
theorem Byte.right {a b : List Int} (h : Byte (a ++ b)) : Byte b := fun x hx => h x (List.mem_append_right _ hx)
theorem Byte.one {x : Int} (h0 : 0 ≤ x) (h1 : x ≤ 255) : Byte [x] := fun y hy => by simp at hy; omega
theorem Byte.take {a : List Int} (h : Byte a) (k : Nat) : Byte (a.take k) := fun x hx => h x (List.mem_of_mem_take hx)
theorem Byte.drop {a : List Int} (h : Byte a) (k : Nat) : Byte (a.drop k) := fun x hx => h x (List.mem_of_mem_drop hx)
/-- Where bytes stand. -/
def Bytes (hi : Nat) (W : World) (A : Option Addr) (bs : List Int) : Prop :=
  bs ≠ [] → ∃ b o, A = some ⟨b, o, none⟩ ∧ b < hi ∧ ∀ i x, bs[i]? = some x → W.cell? ⟨b, o + i, none⟩ = some (.int .u8 x)
theorem Bytes.keep {hi : Nat} {W W' : World} {A : Option Addr} {bs : List Int} (h : Bytes hi W A bs) {lo : Nat} (hb : Below lo W W') (hl : hi ≤ lo) : Bytes hi W' A bs := by
  intro hne
  obtain ⟨b, o, rfl, hlt, hc⟩ := h hne
  exact ⟨b, o, rfl, hlt, fun i x hx => by rw [hb.cell (p := ⟨b, o + i, none⟩) (by show b < lo; omega)]; exact hc i x hx⟩
theorem Bytes.up {hi ho : Nat} {W : World} {A : Option Addr} {bs : List Int} (h : Bytes hi W A bs) (hl : hi ≤ ho) : Bytes ho W A bs := by
  intro hne
  obtain ⟨b, o, rfl, hlt, hc⟩ := h hne
  exact ⟨b, o, rfl, by omega, hc⟩
theorem Bytes.nil (hi : Nat) (W : World) (A : Option Addr) : Bytes hi W A [] := fun h => absurd rfl h
/-- Bytes that stand in a block whole. -/
theorem Bytes.whole {W : World} {b : Nat} {t : TypeId} {cs : Array Value} (h : Whole W b t cs) {bs : List Int} (hbs : ∀ (i : Nat) (x : Int), bs[i]? = some x → cs[i]? = some (Value.int .u8 x)) : Bytes (b + 1) W (some ⟨b, 0, none⟩) bs := by
  intro _
  refine ⟨b, 0, rfl, by omega, fun i x hx => ?_⟩
  have h2 := hbs i x hx

  rw [Nat.zero_add, h.cell i]; exact h2
def Short (bs : List Int) : Prop := Byte bs ∧ bs.length ≤ 9223372036854775807

section
variable {P : Program} (w : World)
theorem append_none (base : Nat) (t ty e : TypeId) (i : TypeInfo) (size : Nat) (ht : P.underlying t = some (.slice e)) (hi : P.info? e = some i) (v : Value) (n : Nat) (xs : List Value) (hown : w.ownsRow base e size v n xs) (c : Nat) :
    (Builtin.append_ #[t, t] ty #[v, .slice none 0 c]).run P w = .ok v w := by
  rcases hown.2 with ⟨rfl, rfl⟩ | ⟨_, _, _, rfl, _, _, hnc, _⟩ <;> simp [Builtin.append_, run_underlying ht, sizeOf, typeInfo, Builtin.lenOf, Builtin.firstCells, storeCells, *]
/-- An append to a row of the call's own, of cells that lie somewhere, or of nothing. -/
theorem wpList_append_from {ops : Array Oper} {rest : List Oper} {o : Oper} {a : Act} {Q : Exit → Act → World → Prop} (hgd : o.guard = none) (s x : Operand) (t : TypeId)
    (ho : o.op = .call { callee := .builtin .append, args := #[s, x], argTypes := #[t, t] })
    (base : Nat) (e : TypeId) (i : TypeInfo) (z : Value) (size bytes : Nat) (ht : P.underlying t = some (.slice e)) (hi : P.info? e = some i) (hz : i.zero = some z)
    (hsize : i.size = size) (hby : i.bytes = bytes) (hzs : z.cells.size = size) (hsz : 0 < size)
    (v : Value) (n : Nat) (xs : List Value) (hs : a.eval s = v) (hown : w.ownsRow base e size v n xs)
    (A : Option Addr) (m c : Nat) (news : List Value) (hx : a.eval x = .slice A m c) (hA : A = none → m = 0) (hl : news.length = m * size) (hnews : ∀ ad, A = some ad → ∀ j u, news[j]? = some u → w.cell? (ad.add j) = some u) (h1 : ∀ u ∈ news, u.oneCell' = true)
    (h63 : n + m ≤ maxLen) (hbytes : (n + m) * bytes ≤ 140737488355328) (hbase : base ≤ w.heap.size)
    (h : ∀ v' w', w'.ownsRow base e size v' (n + m) (xs ++ news) → w.grownBy w' v.ownBlock → (v'.ownBlock = v.ownBlock ∨ v'.ownBlock = some w.heap.size) → wpList P ops Q rest (a.put o.dst v') w') :
    wpList P ops Q (o :: rest) a w := by
  refine wpList_plain hgd fun K hK => ?_
  have hrun : ∃ v' w', (Builtin.append_ #[t, t] o.type #[v, .slice A m c]).run P w = .ok v' w' ∧ w'.ownsRow base e size v' (n + m) (xs ++ news) ∧ w.grownBy w' v.ownBlock ∧ (v'.ownBlock = v.ownBlock ∨ v'.ownBlock = some w.heap.size) := by
    cases A with
    | none =>
      obtain rfl := hA rfl
      obtain rfl : news = [] := List.eq_nil_of_length_eq_zero (by simpa using hl)
      exact ⟨v, w, append_none w base t o.type e i size ht hi v n xs hown c, by simpa using hown, ⟨rfl, rfl, rfl, Nat.le_refl _, fun _ _ _ => rfl⟩, .inl rfl⟩
    | some ad =>
      obtain ⟨v', w', hr, h2, h3, _, h5⟩ := run_append_own_at (P := P) w base t o.type e i z size bytes ht hi hz hsize hby hzs hsz v n xs hown ad m c news hl (hnews ad rfl) h1 h63 hbytes hbase
      exact ⟨v', w', hr, h2, h3, h5⟩
  obtain ⟨v', w', hr, h2, h3, h5⟩ := hrun
  unfold Oper.wp execOp
  simp only [ho, resolve, invoke, builtin, Sem.run_bind, Sem.run_pure, Result.andThen_ok, List.map_toArray, List.map_cons, List.map_nil, hs, hx, hr]
  exact hK _ _ (h v' w' h2 h3 h5)
end

theorem infoByte : (Try.prog.info? 5).map (fun i => (i.zero, i.size, i.bytes)) = some (some (.int .u8 0), 1, 1) := by kernel_rfl
def cellsB (bs : List Int) : List Value := bs.map (Value.int .u8)
theorem cellsB_length (bs : List Int) : (cellsB bs).length = bs.length := by simp [cellsB]
theorem cellsB_get {bs : List Int} {i : Nat} {x : Int} (h : bs[i]? = some x) : (cellsB bs)[i]? = some (.int .u8 x) := by simp [cellsB, h]
theorem cellsB_one (bs : List Int) : ∀ u ∈ cellsB bs, u.oneCell' = true := by
  intro u hu; obtain ⟨x, _, rfl⟩ := List.mem_map.1 hu; rfl
theorem cellsB_from {hi : Nat} {W : World} {A : Option Addr} {bs : List Int} (h : Bytes hi W A bs) : ∀ ad, A = some ad → ∀ j u, (cellsB bs)[j]? = some u → W.cell? (ad.add j) = some u := by
  intro ad e j u hj
  have hlt := (List.getElem?_eq_some_iff.1 hj).1
  rw [cellsB_length] at hlt
  obtain ⟨b, o, e2, _, hc⟩ := h (by intro e; simp [e] at hlt)
  rw [e] at e2; cases e2
  have h3 := hc j bs[j] (List.getElem?_eq_getElem hlt)
  rw [cellsB_get (List.getElem?_eq_getElem hlt)] at hj
  cases hj
  by_cases e0 : j = 0
  · subst e0; simpa [Addr.add] using h3
  · simpa [Addr.add, e0] using h3
theorem Bytes.none {hi : Nat} {W : World} {A : Option Addr} {bs : List Int} (h : Bytes hi W A bs) : A = none → bs.length = 0 := by
  intro e
  cases bs with
  | nil => rfl
  | cons x r => obtain ⟨_, _, e2, _⟩ := h (by simp); rw [e] at e2; cases e2
/-- A block of one's own that begins with bytes. -/
structure RowB (base : Nat) (W : World) (g : Nat) (bs : List Int) : Prop where
  base : base ≤ g
  whole : ∃ cur, Whole W g 5 cur ∧ ∀ (i : Nat) (x : Int), bs[i]? = some x → cur[i]? = some (Value.int .u8 x)
theorem own_bytes {W : World} {base n : Nat} {v : Value} {bs : List Int} (h : W.ownsRow base 5 1 v n (cellsB bs)) (hn : n = bs.length) :
    ∃ B d, v = .slice B bs.length d ∧ bs.length ≤ d ∧ (bs = [] ∨ ∃ g, B = some ⟨g, 0, none⟩ ∧ RowB base W g bs) := by
  subst hn
  rcases h.2 with ⟨rfl, hn⟩ | ⟨g, cap, cur, rfl, hb, hg, h1, h2, h3, h4⟩
  · exact ⟨none, 0, by rw [hn], by omega, .inl (List.length_eq_zero_iff.1 hn)⟩
  · refine ⟨_, cap, rfl, h1, .inr ⟨g, rfl, hb, cur, hg, fun i x hi => ?_⟩⟩
    have h5 := cellsB_get hi
    rw [← h4, List.getElem?_take] at h5
    split at h5
    · rw [Array.getElem?_toList] at h5; exact h5
    · cases h5
theorem own_some {W : World} {base n : Nat} {v : Value} {bs : List Int} (h : W.ownsRow base 5 1 v n (cellsB bs)) (hn : n = bs.length) (hne : bs ≠ []) :
    ∃ g d, v = .slice (some ⟨g, 0, none⟩) bs.length d ∧ bs.length ≤ d ∧ RowB base W g bs := by
  obtain ⟨B, d, rfl, hd, h2⟩ := own_bytes h hn
  obtain ⟨g, rfl, h3⟩ := h2.resolve_left hne
  exact ⟨g, d, rfl, hd, h3⟩
theorem RowB.bytes {base : Nat} {W : World} {g : Nat} {bs : List Int} (h : RowB base W g bs) : Bytes (g + 1) W (some ⟨g, 0, none⟩) bs := by
  obtain ⟨_, cur, hw, hc⟩ := h; exact Bytes.whole hw hc
theorem RowB.lt {base : Nat} {W : World} {g : Nat} {bs : List Int} (h : RowB base W g bs) : g < W.heap.size := by obtain ⟨_, cur, hw, _⟩ := h; exact hw.lt
theorem RowB.cell {base : Nat} {W : World} {g : Nat} {bs : List Int} (h : RowB base W g bs) {i : Nat} {x : Int} (hi : bs[i]? = some x) : W.cell? ⟨g, i, none⟩ = some (.int .u8 x) ∧ W.frozen? ⟨g, i, none⟩ = false := by
  obtain ⟨_, cur, hw, hc⟩ := h; exact ⟨by rw [hw.cell]; exact hc i x hi, hw.frozen i⟩
theorem RowB.put {base : Nat} {W : World} {g : Nat} {bs : List Int} (h : RowB base W g bs) {k : Nat} (x : Int) : RowB base (W.setCell ⟨g, k, none⟩ (.int .u8 x)) g (bs.set k x) := by
  obtain ⟨hb, cur, hw, hc⟩ := h
  refine ⟨hb, _, hw.put k _, fun i y hi => ?_⟩
  rw [List.getElem?_set] at hi
  rw [Array.getElem?_setIfInBounds]
  split at hi
  · rename_i e
    subst e
    split at hi
    · cases hi
      rename_i hlt
      have := hc k bs[k] (List.getElem?_eq_getElem hlt)
      rw [if_pos rfl, if_pos (Array.getElem?_eq_some_iff.1 this).1]
    · cases hi
  · rename_i e
    rw [if_neg e]
    exact hc i y hi
theorem RowB.keep {base lo : Nat} {W W' : World} {g : Nat} {bs : List Int} (h : RowB base W g bs) (hb : Below lo W W') (hl : g < lo) : RowB base W' g bs := by
  obtain ⟨hb', cur, hw, hc⟩ := h; exact ⟨hb', cur, hw.below hb hl, hc⟩
theorem RowB.far {base : Nat} {W : World} {g : Nat} {bs : List Int} (h : RowB base W g bs) {p : Addr} (hp : g ≠ p.block) (u : Value) : RowB base (W.setCell p u) g bs := by
  obtain ⟨hb', cur, hw, hc⟩ := h; exact ⟨hb', cur, hw.far hp u, hc⟩

theorem size_byte (W : World) : (sizeOf (Try.prog.elem 22)).run Try.prog W = .ok 1 W := by
  obtain ⟨i0, hi, hz0, hz1, hz2⟩ := info_parts infoByte
  rw [show Try.prog.elem 22 = 5 by kernel_rfl]
  simp [sizeOf, typeInfo, hi, hz1]
theorem under_bytes : Try.prog.underlying 22 = some (.slice (Try.prog.elem 22)) := by
  rw [show Try.prog.elem 22 = 5 by kernel_rfl]; exact Try.underlying22
def cutAt (A : Option Addr) (l c : Nat) : Option Addr := if c = l then A else A.map (·.add (l * 1))
theorem cutAt_bytes {hi : Nat} {W : World} {A : Option Addr} {bs : List Int} (hB : Bytes hi W A bs) {l h c : Nat} (hl : l ≤ h) (hh : h ≤ bs.length) (hc : bs.length ≤ c) : Bytes hi W (cutAt A l c) ((bs.take h).drop l) := by
  intro hne
  have hlt : l < h := by
    rcases Nat.lt_or_ge l h with h1 | h1
    · exact h1
    · exact absurd (List.drop_eq_nil_of_le (by simp; omega)) hne
  obtain ⟨b, o, rfl, hbh, hcell⟩ := hB (by intro e; simp [e] at hh; omega)
  have key : ∀ i x, ((bs.take h).drop l)[i]? = some x → W.cell? ⟨b, o + l + i, none⟩ = some (.int .u8 x) := fun i x hx => by
    rw [List.getElem?_drop, List.getElem?_take] at hx
    split at hx
    · have := hcell _ _ hx; rwa [← Nat.add_assoc] at this
    · cases hx
  unfold cutAt
  rw [if_neg (by omega)]
  by_cases e : l = 0
  · subst e; exact ⟨b, o, by simp [Addr.add], hbh, by simpa using key⟩
  · exact ⟨b, o + l, by simp [Addr.add, e], hbh, key⟩
theorem run_lh (A : Option Addr) (n c l h : Nat) (hl : l ≤ h) (hh : h ≤ c) (W : World) :
    (Instr.slice 22 (.slice A n c) (some (.int .i64 l)) (some (.int .i64 h)) none).run Try.prog W = .ok (.slice (cutAt A l c) (h - l) (c - l)) W := by
  rw [run_slice_lh W _ A n c under_bytes .i64 .i64 l h (by omega) (by omega) (by omega), size_byte]; rfl
theorem run_h (A : Option Addr) (n c h : Nat) (hh : h ≤ c) (W : World) :
    (Instr.slice 22 (.slice A n c) none (some (.int .i64 h)) none).run Try.prog W = .ok (.slice (cutAt A 0 c) h c) W := by
  rw [run_slice_h W _ A n c under_bytes .i64 h (by omega) (by omega), size_byte]; rfl
theorem run_l (A : Option Addr) (n c l : Nat) (hl : l ≤ n) (W : World) :
    (Instr.slice 22 (.slice A n c) (some (.int .i64 l)) none none).run Try.prog W = .ok (.slice (cutAt A l c) (n - l) (c - l)) W := by
  rw [run_slice_l W _ A n c under_bytes .i64 l (by omega) (by omega), size_byte]; rfl
theorem cellsB_app (a b : List Int) : cellsB (a ++ b) = cellsB a ++ cellsB b := by simp [cellsB]
/-- A row of bytes of one's own, told by its bytes. -/
def OwnB (base : Nat) (W : World) (v : Value) (bs : List Int) : Prop := W.ownsRow base 5 1 v bs.length (cellsB bs)
theorem grown_trans {a b c : World} {row : Option Nat} (h : Below a.heap.size a b) (h2 : b.grownBy c row) : a.grownBy c row :=
  ⟨h2.os.trans h.os, h2.tape.trans h.tape, h2.output.trans h.output, Nat.le_trans h.size h2.size, fun k hk hr => (h2.block k (Nat.lt_of_lt_of_le hk h.size) hr).trans (h.block k hk)⟩
theorem OwnB.keep {base lo : Nat} {W W' : World} {v : Value} {bs : List Int} (h : OwnB base W v bs) (hb : Below lo W W') (hl : ∀ k, v.ownBlock = some k → k < lo) : OwnB base W' v bs := by
  refine ⟨h.1, h.2.imp id ?_⟩
  rintro ⟨g, cap, cur, rfl, hg, hw, r⟩
  exact ⟨g, cap, cur, rfl, hg, Eq.trans (hb.block g (hl g rfl)) hw, r⟩
theorem OwnB.lt {base : Nat} {W : World} {v : Value} {bs : List Int} (h : OwnB base W v bs) : ∀ k, v.ownBlock = some k → base ≤ k ∧ k < W.heap.size := World.ownsRow.lt h
theorem OwnB.alloc {base : Nat} {W : World} {v : Value} {bs : List Int} (h : OwnB base W v bs) (o : Obj) : OwnB base (W.alloc o) v bs :=
  h.keep (lo := W.heap.size) ((Below.refl _ _).alloc (Nat.le_refl _) o) fun k hk => (h.lt k hk).2
/-- A row that holds something lies in a block of one's own. -/
theorem OwnB.form {base : Nat} {W : World} {v : Value} {bs : List Int} (h : OwnB base W v bs) (hne : bs ≠ []) : ∃ g d, v = .slice (some ⟨g, 0, none⟩) bs.length d ∧ bs.length ≤ d ∧ RowB base W g bs :=
  own_some h rfl hne
theorem grown_below {B : Nat} {a W W' : World} {v : Value} {bs : List Int} (h : Below B a W) (hg : W.grownBy W' v.ownBlock) (ho : OwnB B W v bs) (hB : B ≤ W.heap.size) : Below B a W' :=
  h.grown hg hB fun k hk => (ho.lt k hk).1
def NewB (base : Nat) (W : World) (B : Option Addr) (bs : List Int) : Prop := bs = [] ∨ ∃ g, B = some ⟨g, 0, none⟩ ∧ RowB base W g bs
theorem NewB.bytes {base : Nat} {W : World} {B : Option Addr} {bs : List Int} (h : NewB base W B bs) : Bytes W.heap.size W B bs := by
  rcases h with rfl | ⟨g, rfl, hr⟩
  · exact Bytes.nil _ _ _
  · exact hr.bytes.up hr.lt
theorem NewB.lower {base base' : Nat} {W : World} {B : Option Addr} {bs : List Int} (h : NewB base W B bs) (hb : base' ≤ base) : NewB base' W B bs :=
  h.imp id fun ⟨g, e, hr⟩ => ⟨g, e, Nat.le_trans hb hr.base, hr.whole⟩
theorem NewB.keep {base lo : Nat} {W W' : World} {B : Option Addr} {bs : List Int} (h : NewB base W B bs) (hb : Below lo W W') (hl : W.heap.size ≤ lo) : NewB base W' B bs :=
  h.imp id fun ⟨g, e, hr⟩ => ⟨g, e, hr.keep hb (Nat.lt_of_lt_of_le hr.lt hl)⟩
def CloneOut (bs : List Int) (w : World) (e : Ending) (w' : World) : Prop :=
  ∃ B d, e = .returned (.slice B bs.length d) ∧ bs.length ≤ d ∧ NewB w.heap.size w' B bs ∧ Below w.heap.size w w'
set_option maxHeartbeats 1000000 in
theorem clone_any {hi : Nat} (A : Option Addr) (ca n : Nat) (bs : List Int) (w : World) (hA : Bytes hi w A bs) (hh : hi ≤ w.heap.size) (hs : bs.length ≤ 3000000) (hn : n = bs.length) :
    Calls Try.prog 35 #[.slice A n ca] w (CloneOut bs w) := by
  subst hn
  obtain ⟨i0, hi, hz0, hz1, hz2⟩ := info_parts infoByte
  have HI := Lib.hid (And.intro hi (And.intro hz0 (And.intro hz1 hz2)))
  have HA := Lib.hid (hA.keep ((Below.refl w.heap.size w).alloc (Nat.le_refl _) (.cells #[] 5)) hh)
  have HN := Lib.hid hA.none
  clear hi hz0 hz1 hz2 hA
  have hnil := fun W => Go.Lib.run_eql_slice_nil (P := Try.prog) W 22 5 A bs.length ca 0 0 Try.underlying22
  cases A with
  | none =>
    have hemp := List.length_eq_zero_iff.1 (HN.out rfl)
    have HR : Hid (CloneOut bs w (.returned (.slice none 0 0)) w) := Lib.hid ⟨none, 0, by rw [hemp]; rfl, by rw [hemp]; simp, .inl hemp, Below.refl _ _⟩
    clear hemp HN
    go_enter Try.func35, Try.ntmps35
    go_wp2
    go_ret
    exact HR.out
  | some a =>
    have HO : Hid (OwnB w.heap.size (w.alloc (.cells #[] 5)) (.slice (some ⟨w.heap.size, 0, none⟩) 0 0) []) := Lib.hid (World.ownsRow_lit w #[] 0 (Nat.le_refl _) (by unfold maxLen; omega) rfl)
    have HB : Hid (Below w.heap.size w (w.alloc (.cells #[] 5))) := Lib.hid ((Below.refl _ _).alloc (Nat.le_refl _) _)
    clear HN
    go_enter Try.func35, Try.ntmps35
    go_wp2_with (at_builtin; refine wpList_append_from _ rfl (.tmp 5) (.tmp 6) 22 rfl w.heap.size 5 i0 _ 1 1 Try.underlying22 HI.out.1 HI.out.2.1 HI.out.2.2.1 HI.out.2.2.2 rfl (by decide) (.slice (some ⟨w.heap.size, 0, none⟩) 0 0) 0 [] rfl HO.out (some a) bs.length ca (cellsB bs) rfl (fun h => by cases h) (by simp [cellsB]) (cellsB_from HA.out) (cellsB_one bs) (by unfold maxLen; omega) (by omega) (by simp) ?_; intro v' w1 hown hgrow hat; rw [Nat.zero_add, List.nil_append] at hown; have hb := grown_below HB.out hgrow HO.out (by simp); have HR : Hid (CloneOut bs w (.returned v') w1) := (by obtain ⟨B, d, rfl, hd, hr⟩ := own_bytes hown rfl; exact Lib.hid ⟨B, d, rfl, hd, hr, hb⟩); clear hown hgrow hat hb)
    go_ret
    exact HR.out
end Go.Proofs.Ytkieacidpiffpaa
