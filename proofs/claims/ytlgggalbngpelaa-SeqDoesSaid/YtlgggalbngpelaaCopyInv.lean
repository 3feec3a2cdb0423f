/- What holds between the rounds of Copy's walk: what has been done leads to new memory alone, as soon as what lies ahead does. Nothing is walked here. -/
import Derived.Test.YtlgggalbngpelaaBaseB
import Derived.Test.YtlgggalbngpelaaFresh
namespace Go.Proofs.Ytlgggalbngpelaa
open Go Go.RowKit

def VF (e : TypeId) : Prop := e = 27 ∨ e = 79

/-- But for the cells of what lies ahead, rows of values and of fields stay. -/
def Keep (S : List Item) (W W2 : World) : Prop := ∀ (b : Nat) (e : TypeId) (cs : Array Value), VF e → Whole W b e cs →
  ∃ cs', Whole W2 b e cs' ∧ ∀ (j : Nat) (v : Value), cs[j]? = some v → (∀ x ∈ S, x.b = b → j < x.off ∨ x.off + 5 ≤ j) → cs'[j]? = some v
def Apart5 (x y : Item) : Prop := x.b = y.b → x.off + 5 ≤ y.off ∨ y.off + 5 ≤ x.off

/-- What lies ahead: in new memory, but leading to what was there. -/
structure Pend (n0 : Nat) (w W : World) (x : Item) : Prop where
  big : n0 ≤ x.b ∧ x.b ≠ n0 + 1
  whole : ∃ e cs, VF e ∧ Whole W x.b e cs
  val : ∃ L O, W.cell? ⟨x.b, x.off, none⟩ = some (.int .u8 x.g.kind) ∧ W.cell? ⟨x.b, x.off + 1, none⟩ = some (.int .i64 x.g.num) ∧ W.cell? ⟨x.b, x.off + 2, none⟩ = some (.string x.g.str) ∧
    W.cell? ⟨x.b, x.off + 3, none⟩ = some L ∧ W.cell? ⟨x.b, x.off + 4, none⟩ = some O ∧ LstV (fun k => k < n0) w L x.g.items ∧ ObjV (fun k => k < n0) w O x.g.keys x.g.vals

def Zero5 : Array Value := #[.int .u8 0, .int .i64 0, .string ⟨#[]⟩, .slice none 0 0, .slice none 0 0]
structure CopyJ (n0 : Nat) (w : World) (g : GV) (S : List Item) (W : World) : Prop where
  below : Below n0 w W
  pend : ∀ x ∈ S, Pend n0 w W x
  disj : S.Pairwise Apart5
  wand : ∀ W2, Keep S W W2 → (∀ x ∈ S, x.g.at (fun k => n0 ≤ k ∧ k ≠ n0 + 1) W2 x.b x.off) → g.at (fun k => n0 ≤ k ∧ k ≠ n0 + 1) W2 n0 0
  small : wsum S ≤ 1000000000
  res : Whole W (n0 + 1) 27 Zero5
  size : n0 + 2 ≤ W.heap.size

theorem VF.spot {e : TypeId} (h : VF e) : e ≠ 84 := by rcases h with rfl | rfl <;> decide
theorem mem_itemsAt {d b step : Nat} : ∀ {off : Nat} {l : List GV} {y : Item}, y ∈ itemsAt d b step off l → y.b = b ∧ ∃ i, i < l.length ∧ y.off = off + i * step
  | _, [], _, h => by simp [itemsAt] at h
  | off, g :: r, y, h => by
    simp only [itemsAt, List.mem_cons] at h
    rcases h with rfl | h
    · exact ⟨rfl, 0, by simp, by simp⟩
    · obtain ⟨h1, i, hi, e⟩ := mem_itemsAt h
      exact ⟨h1, i + 1, by simpa using hi, by rw [e, Nat.succ_mul]; omega⟩
theorem pairwise_items {d b step : Nat} (hs : 5 ≤ step) : ∀ {off : Nat} {l : List GV}, (itemsAt d b step off l).Pairwise Apart5
  | _, [] => by simp [itemsAt]
  | off, g :: r => by
    simp only [itemsAt, List.pairwise_cons]
    refine ⟨fun y hy _ => ?_, pairwise_items hs⟩
    obtain ⟨_, i, _, e⟩ := mem_itemsAt hy
    left
    show off + 5 ≤ y.off
    omega
theorem els_of_items {ok : Nat → Prop} {W : World} {d b step : Nat} : ∀ {off : Nat} {l : List GV}, (∀ y ∈ itemsAt d b step off l, y.g.at ok W y.b y.off) → GV.els ok W b step off l
  | _, [], _ => by unfold GV.els; trivial
  | off, g :: r, h => by
    unfold GV.els
    exact ⟨h ⟨d, b, off, g⟩ (by simp [itemsAt]), els_of_items (d := d) (fun y hy => h y (by simp [itemsAt, hy]))⟩
theorem rowO_key {ok : Nat → Prop} {w : World} : ∀ {ks : List ByteArray} {ov : List GV} {xs : List Value} {i : Nat} {k : ByteArray}, RowO ok w ks ov xs → ks[i]? = some k → xs[i * 6]? = some (.string k)
  | [], [], _, _, _, _, h => by simp at h
  | k' :: ks, g :: r, _, 0, k, ⟨L, O, ys, e, _, _, _⟩, h => by simp at h; subst h; subst e; rfl
  | k' :: ks, g :: r, _, i + 1, k, ⟨L, O, ys, e, _, _, hr⟩, h => by
    subst e
    have := rowO_key hr (i := i) (k := k) (by simpa using h)
    rw [show (i + 1) * 6 = i * 6 + 6 by omega]
    simpa [chunk] using this
  | [], _ :: _, _, _, _, h, _ => h.elim
  | _ :: _, [], _, _, _, h, _ => h.elim
theorem rowL_pend {ok : Nat → Prop} {w W : World} {d b : Nat} : ∀ {l : List GV} {xs : List Value} {off : Nat}, RowL ok w l xs → (∀ (j : Nat) (u : Value), xs[j]? = some u → W.cell? ⟨b, off + j, none⟩ = some u) → ∀ y ∈ itemsAt d b 5 off l,
    ∃ L O, W.cell? ⟨y.b, y.off, none⟩ = some (.int .u8 y.g.kind) ∧ W.cell? ⟨y.b, y.off + 1, none⟩ = some (.int .i64 y.g.num) ∧ W.cell? ⟨y.b, y.off + 2, none⟩ = some (.string y.g.str) ∧
    W.cell? ⟨y.b, y.off + 3, none⟩ = some L ∧ W.cell? ⟨y.b, y.off + 4, none⟩ = some O ∧ LstV ok w L y.g.items ∧ ObjV ok w O y.g.keys y.g.vals
  | [], _, _, _, _, y, h => by simp [itemsAt] at h
  | g :: r, _, off, ⟨L, O, ys, e, hL, hO, hr⟩, hc, y, h => by
    subst e
    simp only [itemsAt, List.mem_cons] at h
    rcases h with rfl | h
    · exact ⟨L, O, hc 0 _ rfl, hc 1 _ rfl, hc 2 _ rfl, hc 3 _ rfl, hc 4 _ rfl, hL, hO⟩
    · exact rowL_pend hr (fun j u hj => by
        have := hc (5 + j) u (by rw [List.getElem?_append_right (by simp [chunk])]; simpa [chunk] using hj)
        rwa [← Nat.add_assoc] at this) y h
theorem rowO_pend {ok : Nat → Prop} {w W : World} {d b : Nat} : ∀ {ks : List ByteArray} {l : List GV} {xs : List Value} {off : Nat}, RowO ok w ks l xs → (∀ (j : Nat) (u : Value), xs[j]? = some u → W.cell? ⟨b, off + j, none⟩ = some u) → ∀ y ∈ itemsAt d b 6 (off + 1) l,
    ∃ L O, W.cell? ⟨y.b, y.off, none⟩ = some (.int .u8 y.g.kind) ∧ W.cell? ⟨y.b, y.off + 1, none⟩ = some (.int .i64 y.g.num) ∧ W.cell? ⟨y.b, y.off + 2, none⟩ = some (.string y.g.str) ∧
    W.cell? ⟨y.b, y.off + 3, none⟩ = some L ∧ W.cell? ⟨y.b, y.off + 4, none⟩ = some O ∧ LstV ok w L y.g.items ∧ ObjV ok w O y.g.keys y.g.vals
  | [], [], _, _, _, _, y, h => by simp [itemsAt] at h
  | k :: ks, g :: r, _, off, ⟨L, O, ys, e, hL, hO, hr⟩, hc, y, h => by
    subst e
    simp only [itemsAt, List.mem_cons] at h
    rcases h with rfl | h
    · exact ⟨L, O, hc 1 _ rfl, hc 2 _ rfl, hc 3 _ rfl, hc 4 _ rfl, hc 5 _ rfl, hL, hO⟩
    · rw [show off + 1 + 6 = off + 6 + 1 by omega] at h
      exact rowO_pend hr (fun j u hj => by
        have := hc (6 + j) u (by rw [List.getElem?_append_right (by simp [chunk])]; simpa [chunk] using hj)
        rwa [← Nat.add_assoc] at this) y h
  | [], _ :: _, _, _, h, _, _, _ => h.elim
  | _ :: _, [], _, _, h, _, _, _ => h.elim

/-- A list, as fresh has laid it in block B; what it holds leads to what was there. -/
def NewL (n0 : Nat) (w W : World) (B : Nat) (l : List GV) (A : Option Addr) (c : Nat) : Prop :=
  (l = [] ∧ A = none ∧ c = 0) ∨ (A = some ⟨B, 0, none⟩ ∧ c = l.length ∧ ∃ xs, RowL (fun k => k < n0) w l xs ∧ Whole W B 27 xs.toArray)
def NewO (n0 : Nat) (w W : World) (B : Nat) (ks : List ByteArray) (l : List GV) (A : Option Addr) (c : Nat) : Prop :=
  (l = [] ∧ A = none ∧ c = 0) ∨ (A = some ⟨B, 0, none⟩ ∧ c = l.length ∧ ∃ xs, RowO (fun k => k < n0) w ks l xs ∧ Whole W B 79 xs.toArray)

/-- A round has given x lists of its own. -/
theorem copy_next {n0 : Nat} {w W W' : World} {g : GV} {rest : List Item} {x : Item} {B1 B2 c1 c2 : Nat} {A1 A2 : Option Addr} {e : TypeId} {cs : Array Value}
    (h : CopyJ n0 w g (rest ++ [x]) W) (he : VF e) (hcs : Whole W x.b e cs) (hsz : W.heap.size ≤ W'.heap.size) (hoth : ∀ k, k < W.heap.size → k ≠ x.b → W'.heap[k]? = W.heap[k]?) (hos : W'.os = W.os ∧ W'.tape = W.tape ∧ W'.output = W.output)
    (hx : Whole W' x.b e (((cs.setIfInBounds (x.off + 2) (.string x.g.str)).setIfInBounds (x.off + 3) (.slice A1 x.g.items.length c1)).setIfInBounds (x.off + 4) (.slice A2 x.g.vals.length c2)))
    (hB1 : W.heap.size ≤ B1) (hB2 : W.heap.size ≤ B2) (hB12 : x.g.items ≠ [] → x.g.vals ≠ [] → B1 ≠ B2) (hL : NewL n0 w W' B1 x.g.items A1 c1) (hO : NewO n0 w W' B2 x.g.keys x.g.vals A2 c2) (hkl : x.g.keys.length = x.g.vals.length) :
    KidsAt W' x 84 B1 0 B2 0 ∧ CopyJ n0 w g (rest ++ kids x B1 0 B2 0) W' := by
  have hpx := h.pend x (by simp)
  have hxlt : x.b < W.heap.size := hcs.lt
  obtain ⟨L, O, p0, p1, p2, p3, p4, hLo, hOo⟩ := hpx.val
  have hc : ∀ j, cs[j]? = W.cell? ⟨x.b, j, none⟩ := fun j => (hcs.cell j).symm
  have hlen : x.off + 4 < cs.size := by
    have := (hc (x.off + 4)).trans p4
    exact (Array.getElem?_eq_some_iff.1 this).1
  -- x's cells, now
  have hnc : ∀ j, W'.cell? ⟨x.b, j, none⟩ = (((cs.setIfInBounds (x.off + 2) (.string x.g.str)).setIfInBounds (x.off + 3) (.slice A1 x.g.items.length c1)).setIfInBounds (x.off + 4) (.slice A2 x.g.vals.length c2))[j]? := fun j => hx.cell j
  have q0 : W'.cell? ⟨x.b, x.off, none⟩ = some (.int .u8 x.g.kind) := by rw [hnc]; simp [hc, p0]
  have q1 : W'.cell? ⟨x.b, x.off + 1, none⟩ = some (.int .i64 x.g.num) := by rw [hnc]; simp [hc, p1]
  have q2 : W'.cell? ⟨x.b, x.off + 2, none⟩ = some (.string x.g.str) := by
    rw [hnc]; simp [Array.getElem?_setIfInBounds]; omega
  have q3 : W'.cell? ⟨x.b, x.off + 3, none⟩ = some (.slice A1 x.g.items.length c1) := by
    rw [hnc]; simp [Array.getElem?_setIfInBounds]; omega
  have q4 : W'.cell? ⟨x.b, x.off + 4, none⟩ = some (.slice A2 x.g.vals.length c2) := by
    rw [hnc]; simp [Array.getElem?_setIfInBounds]; omega
  have hother : ∀ (y : Item), y ∈ rest → Apart5 y x := fun y hy => (List.pairwise_append.1 h.disj).2.2 y hy x (by simp)
  -- a cell that is not x's stays
  have hstay : ∀ (b j : Nat) (v : Value), W.cell? ⟨b, j, none⟩ = some v → (b = x.b → j < x.off ∨ x.off + 5 ≤ j) → W'.cell? ⟨b, j, none⟩ = some v := fun b j v hv hne => by
    by_cases hb : b = x.b
    · subst hb
      have := hne rfl
      rw [hnc]
      rw [← hc] at hv
      have n2 : ¬ x.off + 2 = j := by omega
      have n3 : ¬ x.off + 3 = j := by omega
      have n4 : ¬ x.off + 4 = j := by omega
      simp [n2, n3, n4, hv]
    · exact (World.cell?_of_block (a := ⟨b, j, none⟩) (hoth b (World.block_lt_of_cell? W _ hv) hb)).trans hv
  have hwhole : ∀ (b : Nat) (t : TypeId) (ds : Array Value), Whole W b t ds → ∃ ds', Whole W' b t ds' ∧ ∀ (j : Nat) (v : Value), ds[j]? = some v → (b = x.b → j < x.off ∨ x.off + 5 ≤ j) → ds'[j]? = some v := fun b t ds hd => by
    by_cases hb : b = x.b
    · subst hb
      have e2 : some (Obj.cells ds t (0, 0)) = some (Obj.cells cs e (0, 0)) := (show W.heap[x.b]? = _ from hd).symm.trans hcs
      simp at e2
      obtain ⟨rfl, rfl⟩ := e2
      refine ⟨_, hx, fun j v hv hne => ?_⟩
      have h1 := hstay x.b j v (by rw [← hc]; exact hv) hne
      rw [hnc] at h1
      exact h1
    · exact ⟨ds, hd.of_eq (hoth b hd.lt hb), fun j v hv _ => hv⟩
  have hb' : Below n0 w W' := by
    refine h.below.trans ⟨hos.1, hos.2.1, hos.2.2, hsz, fun k hk => hoth k (by have := h.size; omega) ?_⟩
    have := hpx.big.1; omega
  -- the new rows hold what is in x
  have hpendL : ∀ y ∈ itemsAt (x.d + 1) B1 5 0 x.g.items, Pend n0 w W' y := fun y hy => by
    rcases hL with ⟨h0, _, _⟩ | ⟨_, _, xs, hr, hw⟩
    · rw [h0] at hy; simp [itemsAt] at hy
    · obtain ⟨hyb, _⟩ := mem_itemsAt hy
      exact ⟨by rw [hyb]; have := h.size; omega, ⟨_, _, .inl rfl, by rw [hyb]; exact hw⟩, rowL_pend hr (fun j u hj => by rw [Nat.zero_add, hw.cell]; simpa using hj) y hy⟩
  have hpendO : ∀ y ∈ itemsAt (x.d + 1) B2 6 (0 + 1) x.g.vals, Pend n0 w W' y := fun y hy => by
    rcases hO with ⟨h0, _, _⟩ | ⟨_, _, xs, hr, hw⟩
    · rw [h0] at hy; simp [itemsAt] at hy
    · obtain ⟨hyb, _⟩ := mem_itemsAt hy
      exact ⟨by rw [hyb]; have := h.size; omega, ⟨_, _, .inr rfl, by rw [hyb]; exact hw⟩, rowO_pend hr (fun j u hj => by rw [Nat.zero_add, hw.cell]; simpa using hj) y hy⟩
  refine ⟨⟨⟨e, _, he.spot, hx⟩, ⟨A1, c1, q3, fun hne => ?_⟩, ⟨A2, c2, q4, fun hne => ?_⟩⟩, hb', ?_, ?_, ?_, ?_, ?_, by have := h.size; omega⟩
  · rcases hL with ⟨h0, _, _⟩ | ⟨h1, _, _⟩
    · exact absurd h0 hne
    · exact h1
  · rcases hO with ⟨h0, _, _⟩ | ⟨h1, _, _⟩
    · exact absurd h0 hne
    · exact h1
  · intro y hy
    rcases List.mem_append.1 hy with hy | hy
    · have hp := h.pend y (by simp [hy])
      obtain ⟨L2, O2, r0, r1, r2, r3, r4, hL2, hO2⟩ := hp.val
      have hap := hother y hy
      obtain ⟨t, ds, ht, hd⟩ := hp.whole
      obtain ⟨ds', hd', _⟩ := hwhole _ _ _ hd
      exact ⟨hp.big, ⟨t, ds', ht, hd'⟩, L2, O2, hstay _ _ _ r0 (fun hb => by have := hap hb; omega), hstay _ _ _ r1 (fun hb => by have := hap hb; omega), hstay _ _ _ r2 (fun hb => by have := hap hb; omega), hstay _ _ _ r3 (fun hb => by have := hap hb; omega), hstay _ _ _ r4 (fun hb => by have := hap hb; omega), hL2, hO2⟩
    · unfold kids at hy
      rcases List.mem_append.1 hy with hy | hy
      · exact hpendL y hy
      · exact hpendO y hy
  · unfold kids
    refine List.pairwise_append.2 ⟨(List.pairwise_append.1 h.disj).1, List.pairwise_append.2 ⟨pairwise_items (by omega), pairwise_items (by omega), fun y hy z hz hb => ?_⟩, fun y hy z hz hb => ?_⟩
    · have h1 := (mem_itemsAt hy).1
      have h2 := (mem_itemsAt hz).1
      exact absurd (h1.symm.trans (hb.trans h2)) (hB12 (fun e' => by rw [e'] at hy; simp [itemsAt] at hy) (fun e' => by rw [e'] at hz; simp [itemsAt] at hz))
    · obtain ⟨t, ds, _, hd⟩ := (h.pend y (by simp [hy])).whole
      have h1 := hd.lt
      rcases List.mem_append.1 hz with hz | hz
      · have := (mem_itemsAt hz).1; omega
      · have := (mem_itemsAt hz).1; omega
  · intro W2 hK hat
    refine h.wand W2 (fun b t ds ht hd => ?_) (fun y hy => ?_)
    · obtain ⟨ds', hd', hs⟩ := hwhole b t ds hd
      obtain ⟨ds2, hd2, hs2⟩ := hK b t ds' ht hd'
      refine ⟨ds2, hd2, fun j v hv hne => hs2 j v (hs j v hv (fun hb => hne x (by simp) hb.symm)) (fun y hy hyb => ?_)⟩
      rcases List.mem_append.1 hy with hy | hy
      · exact hne y (by simp [hy]) hyb
      · have h1 := hd.lt
        unfold kids at hy
        rcases List.mem_append.1 hy with hy | hy
        · have := (mem_itemsAt hy).1; omega
        · have := (mem_itemsAt hy).1; omega
    · rcases List.mem_append.1 hy with hy | hy
      · exact hat y (by simp [hy])
      · simp only [List.mem_singleton] at hy
        subst hy
        obtain ⟨ds2, hd2, hs2⟩ := hK y.b e _ he hx
        have hcell : ∀ (j : Nat) (v : Value), y.off ≤ j → j < y.off + 5 → W'.cell? ⟨y.b, j, none⟩ = some v → W2.cell? ⟨y.b, j, none⟩ = some v := fun j v h1 h2 hv => by
          rw [hd2.cell]
          rw [hnc] at hv
          refine hs2 j v hv (fun z hz hzb => ?_)
          rcases List.mem_append.1 hz with hz | hz
          · have := hother z hz hzb; omega
          · unfold kids at hz
            rcases List.mem_append.1 hz with hz | hz
            · have := (mem_itemsAt hz).1; omega
            · have := (mem_itemsAt hz).1; omega
        have hwt : y.g.weight ≤ 1000000000 := Nat.le_trans (weight_le (S := rest ++ [y]) (by simp)) h.small
        have hsz1 := size_le_weight y.g
        have hsz2 := size_eq y.g
        have hl1 := len_sizes y.g.items
        have hl2 := len_sizes y.g.vals
        refine GV.at_iff.2 ⟨_, _, hcell _ _ (by omega) (by omega) q0, hcell _ _ (by omega) (by omega) q1, hcell _ _ (by omega) (by omega) q2, hcell _ _ (by omega) (by omega) q3, hcell _ _ (by omega) (by omega) q4, ?_, hkl, ?_⟩
        · rcases hL with ⟨h0, rfl, rfl⟩ | ⟨rfl, rfl, xs, hr, hw⟩
          · exact .inl ⟨h0, by rw [h0]; rfl⟩
          · obtain ⟨cs1, hw1, _⟩ := hK B1 _ _ (.inl rfl) hw
            exact .inr ⟨B1, 0, _, rfl, Nat.le_refl _, by unfold maxLen; omega, ⟨by have := h.size; omega, cs1, hw1⟩, els_of_items (d := y.d + 1) (fun z hz => hat z (by unfold kids; simp [hz]))⟩
        · rcases hO with ⟨h0, rfl, rfl⟩ | ⟨rfl, rfl, xs, hr, hw⟩
          · exact .inl ⟨h0, by rw [h0]; rfl⟩
          · obtain ⟨cs1, hw1, hs1⟩ := hK B2 _ _ (.inr rfl) hw
            refine .inr ⟨B2, 0, _, rfl, Nat.le_refl _, by unfold maxLen; omega, ⟨by have := h.size; omega, cs1, hw1⟩, KeysAt.of fun i k hk => ?_, els_of_items (d := y.d + 1) (fun z hz => hat z (by unfold kids; simp [hz]))⟩
            rw [Nat.zero_add, hw1.cell]
            refine hs1 _ _ (by simpa using rowO_key hr hk) (fun z hz hzb => ?_)
            rcases List.mem_append.1 hz with hz | hz
            · obtain ⟨t, ds, _, hd⟩ := (h.pend z (by simp [hz])).whole
              have := hd.lt
              omega
            · unfold kids at hz
              rcases List.mem_append.1 hz with hz | hz
              · have h1 := (mem_itemsAt hz).1
                exact absurd (h1.symm.trans hzb) (hB12 (fun e' => by rw [e'] at hz; simp [itemsAt] at hz) (fun e' => by
                  have h2 := hkl
                  rw [e'] at h2
                  rw [List.eq_nil_of_length_eq_zero h2] at hk
                  simp at hk))
              · obtain ⟨_, i', _, e'⟩ := mem_itemsAt hz
                omega
  · have h1 := h.small
    have h2 := weight_eq x B1 0 B2 0
    rw [wsum_append] at h1 ⊢
    simp only [wsum] at h1
    omega
  · refine h.res.of_eq (hoth _ h.res.lt (fun e' => hpx.big.2 e'.symm))

theorem CopyJ.but {n0 base : Nat} {w X Y : World} {g : GV} {S : List Item} (h : CopyJ n0 w g S X) (hb : But 84 base X Y) (hn : n0 ≤ base) : CopyJ n0 w g S Y := by
  have hw : ∀ (b : Nat) (e : TypeId) (cs : Array Value), VF e → Whole X b e cs → Whole Y b e cs := fun b e cs he hd => hb.whole hd he.spot
  refine ⟨h.below.trans (hb.below hn (by have := h.size; omega)), fun x hx => ?_, h.disj, fun W2 hK hat => h.wand W2 (fun b e cs he hd => hK b e cs he (hw b e cs he hd)) hat, h.small, hb.whole h.res (by decide), by have := h.size; have := hb.size; omega⟩
  have hp := h.pend x hx
  obtain ⟨t, ds, ht, hd⟩ := hp.whole
  obtain ⟨L2, O2, r0, r1, r2, r3, r4, hL2, hO2⟩ := hp.val
  have hd' := hw _ _ _ ht hd
  have hc : ∀ j, Y.cell? ⟨x.b, j, none⟩ = X.cell? ⟨x.b, j, none⟩ := fun j => (hd'.cell j).trans (hd.cell j).symm
  exact ⟨hp.big, ⟨t, ds, ht, hd'⟩, L2, O2, (hc _).trans r0, (hc _).trans r1, (hc _).trans r2, (hc _).trans r3, (hc _).trans r4, hL2, hO2⟩
theorem CopyJ.apart {n0 B : Nat} {w : World} {g : GV} (hB : n0 ≤ B) (S : List Item) : Apart B (CopyJ n0 w g S) := fun W l o o' hl hk ho ho' h => by
  have hw : ∀ (b : Nat) (e : TypeId) (cs : Array Value), Whole W b e cs → Whole (W.putObj l o') b e cs := fun b e cs hd => hd.apart hk ho o'
  refine ⟨below_apart h.below (by omega) hk o', fun x hx => ?_, h.disj, fun W2 hK hat => h.wand W2 (fun b e cs he hd => hK b e cs he (hw b e cs hd)) hat, h.small, hw _ _ _ h.res, by have := h.size; simpa using this⟩
  have hp := h.pend x hx
  obtain ⟨t, ds, ht, hd⟩ := hp.whole
  obtain ⟨L2, O2, r0, r1, r2, r3, r4, hL2, hO2⟩ := hp.val
  have hd' := hw _ _ _ hd
  have hc : ∀ j, (W.putObj l o').cell? ⟨x.b, j, none⟩ = W.cell? ⟨x.b, j, none⟩ := fun j => (hd'.cell j).trans (hd.cell j).symm
  exact ⟨hp.big, ⟨t, ds, ht, hd'⟩, L2, O2, (hc _).trans r0, (hc _).trans r1, (hc _).trans r2, (hc _).trans r3, (hc _).trans r4, hL2, hO2⟩
end Go.Proofs.Ytlgggalbngpelaa
