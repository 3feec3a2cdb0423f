/- The plain trees that values and pieces are, and what memory has to hold so that it is one; nothing of the program is walked here. -/
import Derived.Test.YtoinlehkmgmlbaaDoorProg
import Derived.WalkKit
namespace Go.Proofs.YtoinlehkmgmlbaaDoor
open Go Go.RowKit

/-- A value, as a tree. -/
inductive GV where
  | mk (k n : Int) (s : ByteArray) (l : List GV) (ks : List ByteArray) (ov : List GV)

namespace GV
def kind : GV → Int | .mk k _ _ _ _ _ => k
def num : GV → Int | .mk _ n _ _ _ _ => n
def str : GV → ByteArray | .mk _ _ s _ _ _ => s
def items : GV → List GV | .mk _ _ _ l _ _ => l
def keys : GV → List ByteArray | .mk _ _ _ _ ks _ => ks
def vals : GV → List GV | .mk _ _ _ _ _ ov => ov

mutual
def size : GV → Nat
  | .mk _ _ _ l _ ov => 1 + sizes l + sizes ov
def sizes : List GV → Nat
  | [] => 0
  | g :: r => size g + sizes r
end

mutual
def weight : GV → Nat
  | .mk _ _ s l ks ov => 1 + s.size + weights l + (ks.map (·.size)).sum + weights ov
def weights : List GV → Nat
  | [] => 0
  | g :: r => weight g + weights r
end

mutual
def deep : GV → Nat
  | .mk _ _ _ l _ ov => max (deeps l) (deeps ov)
def deeps : List GV → Nat
  | [] => 0
  | g :: r => max (1 + deep g) (deeps r)
end

end GV

/-- Block b, one of those that ok names, is a row of cells of type e, none of them frozen. -/
def Kind (W : World) (ok : Nat → Prop) (b : Nat) (e : TypeId) : Prop := ok b ∧ ∃ cur, W.heap[b]? = some (.cells cur e (0, 0))

/-- The keys' cells. -/
def KeysAt (W : World) (b : Nat) : Nat → List ByteArray → Prop
  | _, [] => True
  | off, k :: r => W.cell? ⟨b, off, none⟩ = some (.string k) ∧ KeysAt W b (off + 6) r

mutual
/-- At block b, from cell off on, lies the value g; all that it leads to lies in blocks that ok names. -/
def GV.at (ok : Nat → Prop) (W : World) (b off : Nat) : GV → Prop
  | .mk k n s l ks ov => ∃ L O,
      W.cell? ⟨b, off, none⟩ = some (.int .u8 k) ∧ W.cell? ⟨b, off + 1, none⟩ = some (.int .i64 n) ∧ W.cell? ⟨b, off + 2, none⟩ = some (.string s) ∧
      W.cell? ⟨b, off + 3, none⟩ = some L ∧ W.cell? ⟨b, off + 4, none⟩ = some O ∧
      ((l = [] ∧ L = .slice none 0 0) ∨ ∃ b' o' c, L = .slice (some ⟨b', o', none⟩) l.length c ∧ l.length ≤ c ∧ c ≤ maxLen ∧ Kind W ok b' 29 ∧ GV.els ok W b' 5 o' l) ∧
      ks.length = ov.length ∧
      ((ov = [] ∧ O = .slice none 0 0) ∨ ∃ b' o' c, O = .slice (some ⟨b', o', none⟩) ov.length c ∧ ov.length ≤ c ∧ c ≤ maxLen ∧ Kind W ok b' 52 ∧ KeysAt W b' o' ks ∧ GV.els ok W b' 6 (o' + 1) ov)
def GV.els (ok : Nat → Prop) (W : World) (b step : Nat) : Nat → List GV → Prop
  | _, [] => True
  | off, g :: r => GV.at ok W b off g ∧ GV.els ok W b step (off + step) r
end

/-- A slice of values. -/
def LstV (ok : Nat → Prop) (W : World) (L : Value) (l : List GV) : Prop :=
  (l = [] ∧ L = .slice none 0 0) ∨ ∃ b' o' c, L = .slice (some ⟨b', o', none⟩) l.length c ∧ l.length ≤ c ∧ c ≤ maxLen ∧ Kind W ok b' 29 ∧ GV.els ok W b' 5 o' l
/-- A slice of fields. -/
def ObjV (ok : Nat → Prop) (W : World) (O : Value) (ks : List ByteArray) (ov : List GV) : Prop :=
  ks.length = ov.length ∧
  ((ov = [] ∧ O = .slice none 0 0) ∨ ∃ b' o' c, O = .slice (some ⟨b', o', none⟩) ov.length c ∧ ov.length ≤ c ∧ c ≤ maxLen ∧ Kind W ok b' 52 ∧ KeysAt W b' o' ks ∧ GV.els ok W b' 6 (o' + 1) ov)

/-- The value v is g. -/
def GV.val (ok : Nat → Prop) (W : World) (v : Value) (g : GV) : Prop :=
  ∃ L O, v = .agg #[.int .u8 g.kind, .int .i64 g.num, .string g.str, L, O] ∧ LstV ok W L g.items ∧ ObjV ok W O g.keys g.vals

theorem GV.at_iff {ok : Nat → Prop} {W : World} {b off : Nat} {g : GV} : g.at ok W b off ↔ ∃ L O,
      W.cell? ⟨b, off, none⟩ = some (.int .u8 g.kind) ∧ W.cell? ⟨b, off + 1, none⟩ = some (.int .i64 g.num) ∧ W.cell? ⟨b, off + 2, none⟩ = some (.string g.str) ∧
      W.cell? ⟨b, off + 3, none⟩ = some L ∧ W.cell? ⟨b, off + 4, none⟩ = some O ∧ LstV ok W L g.items ∧ ObjV ok W O g.keys g.vals := by
  cases g with
  | mk k n s l ks ov => simp only [GV.at, GV.kind, GV.num, GV.str, GV.items, GV.keys, GV.vals, LstV, ObjV]

theorem KeysAt.keep {W W' : World} {b : Nat} (hb : W'.heap[b]? = W.heap[b]?) : ∀ {off : Nat} {ks : List ByteArray}, KeysAt W b off ks → KeysAt W' b off ks
  | _, [], _ => trivial
  | _, _ :: _, ⟨h, r⟩ => ⟨(World.cell?_of_block (a := ⟨b, _, none⟩) hb).trans h, KeysAt.keep hb r⟩

theorem Kind.lt {W : World} {ok : Nat → Prop} {b : Nat} {e : TypeId} (h : Kind W ok b e) : b < W.heap.size := by
  obtain ⟨_, cur, hc⟩ := h
  exact (Array.getElem?_eq_some_iff.1 hc).1
theorem Kind.keep {W W' : World} {ok ok' : Nat → Prop} {b : Nat} {e : TypeId} (hb : W'.heap[b]? = W.heap[b]?) (hlo : ∀ k, ok k → k < W.heap.size → ok' k) (h : Kind W ok b e) : Kind W' ok' b e :=
  ⟨hlo b h.1 h.lt, by obtain ⟨_, cur, hc⟩ := h; exact ⟨cur, hb.trans hc⟩⟩

/-- What ok names lies as it lay. -/
def From (ok : Nat → Prop) (W W' : World) : Prop := ∀ k, ok k → k < W.heap.size → W'.heap[k]? = W.heap[k]?

mutual
theorem GV.at_keep {ok ok' : Nat → Prop} {W W' : World} (H : From ok W W') (hlo : ∀ k, ok k → k < W.heap.size → ok' k) : ∀ (g : GV) {b off : Nat}, W'.heap[b]? = W.heap[b]? → g.at ok W b off → g.at ok' W' b off
  | .mk k n s l ks ov, b, off, hb, h => by
    have hc : ∀ o, W'.cell? ⟨b, o, none⟩ = W.cell? ⟨b, o, none⟩ := fun o => World.cell?_of_block (a := ⟨b, o, none⟩) hb
    unfold GV.at at h ⊢
    simp only [hc]
    obtain ⟨L, O, h0, h1, h2, h3, h4, hL, hk, hO⟩ := h
    refine ⟨L, O, h0, h1, h2, h3, h4, ?_, hk, ?_⟩
    · rcases hL with hL | ⟨b', o', c, e, hc1, hc2, hK, hE⟩
      · exact .inl hL
      · have hb' := H b' hK.1 hK.lt
        exact .inr ⟨b', o', c, e, hc1, hc2, hK.keep hb' hlo, GV.els_keep H hlo l hb' hE⟩
    · rcases hO with hO | ⟨b', o', c, e, hc1, hc2, hK, hks, hE⟩
      · exact .inl hO
      · have hb' := H b' hK.1 hK.lt
        exact .inr ⟨b', o', c, e, hc1, hc2, hK.keep hb' hlo, hks.keep hb', GV.els_keep H hlo ov hb' hE⟩
theorem GV.els_keep {ok ok' : Nat → Prop} {W W' : World} (H : From ok W W') (hlo : ∀ k, ok k → k < W.heap.size → ok' k) : ∀ (l : List GV) {b step off : Nat}, W'.heap[b]? = W.heap[b]? → GV.els ok W b step off l → GV.els ok' W' b step off l
  | [], _, _, _, _, _ => by unfold GV.els; trivial
  | g :: r, _, _, _, hb, h => by
    unfold GV.els at h ⊢
    exact ⟨GV.at_keep H hlo g hb h.1, GV.els_keep H hlo r hb h.2⟩
end

theorem LstV.keep {ok ok' : Nat → Prop} {W W' : World} (H : From ok W W') (hlo : ∀ k, ok k → k < W.heap.size → ok' k) {L : Value} {l : List GV} (h : LstV ok W L l) : LstV ok' W' L l := by
  rcases h with hL | ⟨b', o', c, e, hc1, hc2, hK, hE⟩
  · exact .inl hL
  · have hb' := H b' hK.1 hK.lt
    exact .inr ⟨b', o', c, e, hc1, hc2, hK.keep hb' hlo, GV.els_keep H hlo l hb' hE⟩
theorem ObjV.keep {ok ok' : Nat → Prop} {W W' : World} (H : From ok W W') (hlo : ∀ k, ok k → k < W.heap.size → ok' k) {O : Value} {ks : List ByteArray} {ov : List GV} (h : ObjV ok W O ks ov) : ObjV ok' W' O ks ov := by
  refine ⟨h.1, ?_⟩
  rcases h.2 with hO | ⟨b', o', c, e, hc1, hc2, hK, hks, hE⟩
  · exact .inl hO
  · have hb' := H b' hK.1 hK.lt
    exact .inr ⟨b', o', c, e, hc1, hc2, hK.keep hb' hlo, hks.keep hb', GV.els_keep H hlo ov hb' hE⟩
theorem GV.val_keep {ok ok' : Nat → Prop} {W W' : World} (H : From ok W W') (hlo : ∀ k, ok k → k < W.heap.size → ok' k) {v : Value} {g : GV} (h : g.val ok W v) : g.val ok' W' v := by
  obtain ⟨L, O, e, hL, hO⟩ := h
  exact ⟨L, O, e, hL.keep H hlo, hO.keep H hlo⟩

theorem From.of_below {ok : Nat → Prop} {W W' : World} (h : Below W.heap.size W W') : From ok W W' := fun k _ hk => h.block k hk
theorem From.refl (ok : Nat → Prop) (W : World) : From ok W W := fun _ _ _ => rfl

theorem GV.els_get {ok : Nat → Prop} {W : World} {b step : Nat} : ∀ {l : List GV} {off i : Nat} {g : GV}, GV.els ok W b step off l → l[i]? = some g → g.at ok W b (off + i * step)
  | [], _, _, _, _, hi => by simp at hi
  | x :: r, off, 0, g, h, hi => by
    unfold GV.els at h
    simp at hi
    subst hi
    simpa using h.1
  | x :: r, off, i + 1, g, h, hi => by
    unfold GV.els at h
    have := GV.els_get (i := i) (g := g) h.2 (by simpa using hi)
    rwa [show off + step + i * step = off + (i + 1) * step by rw [Nat.succ_mul]; omega] at this
theorem GV.els_of {ok : Nat → Prop} {W : World} {b step : Nat} : ∀ {l : List GV} {off : Nat}, (∀ (i : Nat) (g : GV), l[i]? = some g → g.at ok W b (off + i * step)) → GV.els ok W b step off l
  | [], _, _ => by unfold GV.els; trivial
  | x :: r, off, h => by
    unfold GV.els
    refine ⟨by simpa using h 0 x rfl, GV.els_of fun i g hi => ?_⟩
    have := h (i + 1) g (by simpa using hi)
    rwa [show off + (i + 1) * step = off + step + i * step by rw [Nat.succ_mul]; omega] at this
theorem KeysAt.get {W : World} {b : Nat} : ∀ {ks : List ByteArray} {off i : Nat} {k : ByteArray}, KeysAt W b off ks → ks[i]? = some k → W.cell? ⟨b, off + i * 6, none⟩ = some (.string k)
  | [], _, _, _, _, hi => by simp at hi
  | x :: r, off, 0, k, h, hi => by simp at hi; subst hi; simpa using h.1
  | x :: r, off, i + 1, k, h, hi => by
    have := KeysAt.get (i := i) (k := k) h.2 (by simpa using hi)
    rwa [show off + 6 + i * 6 = off + (i + 1) * 6 by omega] at this
theorem KeysAt.of {W : World} {b : Nat} : ∀ {ks : List ByteArray} {off : Nat}, (∀ (i : Nat) (k : ByteArray), ks[i]? = some k → W.cell? ⟨b, off + i * 6, none⟩ = some (.string k)) → KeysAt W b off ks
  | [], _, _ => trivial
  | x :: r, off, h => by
    refine ⟨by simpa using h 0 x rfl, KeysAt.of fun i k hi => ?_⟩
    have := h (i + 1) k (by simpa using hi)
    rwa [show off + (i + 1) * 6 = off + 6 + i * 6 by omega] at this

theorem LstV.form {ok : Nat → Prop} {W : World} {L : Value} {l : List GV} (h : LstV ok W L l) : ∃ A c, L = .slice A l.length c ∧ l.length ≤ c ∧ c ≤ maxLen ∧ (l ≠ [] → ∃ b o, A = some ⟨b, o, none⟩ ∧ Kind W ok b 29 ∧ GV.els ok W b 5 o l) := by
  rcases h with ⟨rfl, rfl⟩ | ⟨b, o, c, rfl, h1, h2, hK, hE⟩
  · exact ⟨none, 0, rfl, Nat.le_refl _, by decide, fun h => absurd rfl h⟩
  · exact ⟨_, c, rfl, h1, h2, fun _ => ⟨b, o, rfl, hK, hE⟩⟩
theorem ObjV.form {ok : Nat → Prop} {W : World} {O : Value} {ks : List ByteArray} {ov : List GV} (h : ObjV ok W O ks ov) : ∃ A c, O = .slice A ov.length c ∧ ov.length ≤ c ∧ c ≤ maxLen ∧ (ov ≠ [] → ∃ b o, A = some ⟨b, o, none⟩ ∧ Kind W ok b 52 ∧ KeysAt W b o ks ∧ GV.els ok W b 6 (o + 1) ov) := by
  rcases h.2 with ⟨rfl, rfl⟩ | ⟨b, o, c, rfl, h1, h2, hK, hks, hE⟩
  · exact ⟨none, 0, rfl, Nat.le_refl _, by decide, fun h => absurd rfl h⟩
  · exact ⟨_, c, rfl, h1, h2, fun _ => ⟨b, o, rfl, hK, hks, hE⟩⟩

/-- A piece. -/
structure GTok where
  k : Int
  n : Int
  s : ByteArray
  m : Int

/-- The pieces' cells: four a piece. -/
def ToksAt (W : World) (a : Addr) (ts : List GTok) : Prop :=
  ∀ i t, ts[i]? = some t → W.cell? ⟨a.block, a.off + i * 4, none⟩ = some (.int .u8 t.k) ∧ W.cell? ⟨a.block, a.off + i * 4 + 1, none⟩ = some (.int .i64 t.n) ∧
    W.cell? ⟨a.block, a.off + i * 4 + 2, none⟩ = some (.string t.s) ∧ W.cell? ⟨a.block, a.off + i * 4 + 3, none⟩ = some (.int .u8 t.m)
/-- The slice l is the pieces ts. -/
def Toks (hi : Nat) (W : World) (A : Option Addr) (ts : List GTok) : Prop :=
  ts ≠ [] → ∃ a : Addr, A = some a ∧ a.spot = none ∧ a.block < hi ∧ ToksAt W a ts
theorem Toks.keep {hi hi' : Nat} {W W' : World} {A : Option Addr} {ts : List GTok} (hb : Below hi W W') (hhi : hi ≤ hi') (h : Toks hi W A ts) : Toks hi' W' A ts := fun hn => by
  obtain ⟨a, rfl, hs, hl, hc⟩ := h hn
  have e : ∀ o, W'.cell? ⟨a.block, o, none⟩ = W.cell? ⟨a.block, o, none⟩ := fun o => hb.cell (p := ⟨a.block, o, none⟩) hl
  refine ⟨a, rfl, hs, by omega, fun i t ht => ?_⟩
  simp only [e]
  exact hc i t ht
end Go.Proofs.YtoinlehkmgmlbaaDoor
