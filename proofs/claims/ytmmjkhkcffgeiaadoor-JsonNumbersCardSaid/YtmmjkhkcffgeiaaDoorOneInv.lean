/- What a value that is built of pieces is; nothing is walked here. -/
import Derived.Test.YtmmjkhkcffgeiaaDoorWith
import Derived.Test.YtmmjkhkcffgeiaaDoorPlain
import Derived.Test.YtmmjkhkcffgeiaaDoorRefO
import Derived.Test.YtmmjkhkcffgeiaaDoorBaseA
namespace Go.Proofs.YtmmjkhkcffgeiaaDoor
open Go Go.RowKit

theorem place_stop (key : ByteArray) : ∀ (ks : List ByteArray) (k : ByteArray), ks[place key ks]? = some k → less k key = false
  | [], _, h => by simp at h
  | x :: r, k, h => by
    unfold place at h
    by_cases hx : less x key = true
    · rw [if_pos hx, Nat.add_comm] at h
      exact place_stop key r k (by simpa using h)
    · rw [if_neg hx] at h
      simp at h
      subst h
      simpa using hx
theorem insK_get (key : ByteArray) (ks : List ByteArray) (i : Nat) : (insK key ks)[i]? = if i < place key ks then ks[i]? else if i = place key ks then some key else ks[insN key ks + (i - place key ks - 1)]? := by
  have hp := place_le key ks
  unfold insK
  rw [List.getElem?_append, List.length_take, Nat.min_eq_left hp]
  by_cases h : i < place key ks
  · rw [if_pos h, if_pos h, List.getElem?_take, if_pos h]
  · rw [if_neg h, if_neg h]
    by_cases e : i = place key ks
    · subst e; simp
    · rw [if_neg e]
      obtain ⟨j, hj⟩ : ∃ j, i - place key ks = j + 1 := ⟨i - place key ks - 1, by omega⟩
      rw [hj, List.getElem?_cons_succ, List.getElem?_drop]
      congr 1
theorem insK_len (key : ByteArray) (ks : List ByteArray) (ov : List GV) (g : GV) (h : ks.length = ov.length) : (insK key ks).length = (insV key ks ov g).length := by
  unfold insK insV
  simp [h]
theorem insV_len (key : ByteArray) (ks : List ByteArray) (ov : List GV) (g : GV) : (insV key ks ov g).length ≤ ov.length + 1 := by
  unfold insV insN
  simp
  split <;> omega
theorem insV_mem {key : ByteArray} {ks : List ByteArray} {ov : List GV} {g x : GV} (h : x ∈ insV key ks ov g) : x = g ∨ x ∈ ov := by
  unfold insV at h
  simp only [List.mem_append, List.mem_cons] at h
  rcases h with h | h | h
  · exact .inr (List.mem_of_mem_take h)
  · exact .inl h
  · exact .inr (List.mem_of_mem_drop h)
theorem insN_ge (key : ByteArray) (ks : List ByteArray) : place key ks ≤ insN key ks := by unfold insN; omega
theorem less_of_eq {a b c : ByteArray} (h : (a.toList == b.toList) = true) (hl : less' a c = true) : less' b c = true := by
  have : a.toList = b.toList := by simpa using h
  unfold less' at *
  rwa [← this]
theorem less_above {key k : ByteArray} (h : less k key = false) (hne : (k.toList == key.toList) = false) : less' key k = true := by
  have := leq_less key.toList k.toList
  unfold less at h
  unfold less'
  rw [h] at this
  have h2 : (key.toList == k.toList) = false := by
    have : ¬ k.toList = key.toList := by simpa using hne
    simpa using fun e => this e.symm
  rw [h2] at this
  simpa using this
theorem insK_ok {key : ByteArray} {ks : List ByteArray} (h : KeysOk ks) (hv : valid key = true) : KeysOk (insK key ks) := by
  have hp := place_le key ks
  have hq := insN_ge key ks
  intro i k _ hk
  rw [insK_get] at hk
  by_cases h1 : i < place key ks
  · rw [if_pos h1] at hk
    have hi : i < ks.length := by omega
    refine ⟨(h i k hi hk).1, fun j p e hj => ?_⟩
    rw [insK_get, if_pos (by omega)] at hj
    exact (h i k hi hk).2 j p e hj
  · rw [if_neg h1] at hk
    by_cases h2 : i = place key ks
    · rw [if_pos h2] at hk
      cases hk
      refine ⟨hv, fun j p e hj => ?_⟩
      rw [insK_get, if_pos (by omega)] at hj
      exact place_lt key ks j p hj (by omega)
    · rw [if_neg h2] at hk
      have hi : insN key ks + (i - place key ks - 1) < ks.length := (List.getElem?_eq_some_iff.1 hk).1
      have hh := h _ k hi hk
      refine ⟨hh.1, fun j p e hj => ?_⟩
      rw [insK_get, if_neg (by omega)] at hj
      by_cases h3 : j = place key ks
      · rw [if_pos h3] at hj
        cases hj
        have h0 : i - place key ks - 1 = 0 := by omega
        rw [h0, Nat.add_zero] at hk
        by_cases ht : there key ks = true
        · have hN : insN key ks = place key ks + 1 := by unfold insN; rw [if_pos ht]
          unfold there at ht
          cases hx : ks[place key ks]? with
          | none => rw [hx] at ht; simp at ht
          | some x =>
            rw [hx] at ht
            rw [hN] at hk
            exact less_of_eq ht ((h (place key ks + 1) k (by rw [hN] at hi; omega) hk).2 _ x rfl hx)
        · have hN : insN key ks = place key ks := by unfold insN; rw [if_neg ht]; rfl
          rw [hN] at hk
          refine less_above (place_stop key ks k hk) ?_
          unfold there at ht
          rw [hk] at ht
          simpa using ht
      · rw [if_neg h3] at hj
        exact hh.2 _ p (by omega) hj
mutual
/-- What a value's text may be long, in sixths. -/
def GV.mass : GV → Nat
  | .mk _ _ s l ks ov => 9 + s.size + GV.masses l + (ks.map (·.size)).sum + GV.masses ov
def GV.masses : List GV → Nat
  | [] => 0
  | g :: r => GV.mass g + GV.masses r
end
mutual
theorem weight_mass : ∀ (g : GV), g.weight ≤ g.mass
  | .mk k n s l ks ov => by
    have h1 := weights_mass l
    have h2 := weights_mass ov
    simp only [GV.weight, GV.mass]
    omega
theorem weights_mass : ∀ (l : List GV), GV.weights l ≤ GV.masses l
  | [] => by simp [GV.weights, GV.masses]
  | g :: r => by
    have h1 := weight_mass g
    have h2 := weights_mass r
    simp only [GV.weights, GV.masses]
    omega
end
theorem weights_cut : ∀ (l : List GV) (p q : Nat), p ≤ q → GV.weights (l.take p) + GV.weights (l.drop q) ≤ GV.weights l
  | [], _, _, _ => by simp [GV.weights]
  | x :: r, 0, 0, _ => by simp [GV.weights]
  | x :: r, 0, q + 1, _ => by have := weights_cut r 0 q (by omega); simp [GV.weights] at *; omega
  | x :: r, p + 1, 0, h => by omega
  | x :: r, p + 1, q + 1, h => by have := weights_cut r p q (by omega); simp only [List.take_succ_cons, List.drop_succ_cons, GV.weights] at *; omega
theorem masses_cut : ∀ (l : List GV) (p q : Nat), p ≤ q → GV.masses (l.take p) + GV.masses (l.drop q) ≤ GV.masses l
  | [], _, _, _ => by simp [GV.masses]
  | x :: r, 0, 0, _ => by simp [GV.masses]
  | x :: r, 0, q + 1, _ => by have := masses_cut r 0 q (by omega); simp [GV.masses] at *; omega
  | x :: r, p + 1, 0, h => by omega
  | x :: r, p + 1, q + 1, h => by have := masses_cut r p q (by omega); simp only [List.take_succ_cons, List.drop_succ_cons, GV.masses] at *; omega
theorem weights_app (a b : List GV) : GV.weights (a ++ b) = GV.weights a + GV.weights b := by
  induction a with
  | nil => simp [GV.weights]
  | cons x r ih => simp [GV.weights, ih]; omega
theorem masses_app (a b : List GV) : GV.masses (a ++ b) = GV.masses a + GV.masses b := by
  induction a with
  | nil => simp [GV.masses]
  | cons x r ih => simp [GV.masses, ih]; omega
theorem ksum_cut : ∀ (l : List ByteArray) (p q : Nat), p ≤ q → ksum (l.take p) + ksum (l.drop q) ≤ ksum l
  | [], _, _, _ => by simp [ksum]
  | x :: r, 0, 0, _ => by simp [ksum]
  | x :: r, 0, q + 1, _ => by have := ksum_cut r 0 q (by omega); simp [ksum] at *; omega
  | x :: r, p + 1, 0, h => by omega
  | x :: r, p + 1, q + 1, h => by have := ksum_cut r p q (by omega); simp [ksum] at *; omega
theorem insV_weights (key : ByteArray) (ks : List ByteArray) (ov : List GV) (g : GV) : GV.weights (insV key ks ov g) ≤ GV.weights ov + g.weight := by
  unfold insV
  have := weights_cut ov (place key ks) (insN key ks) (insN_ge key ks)
  rw [weights_app]
  simp only [GV.weights]
  omega
theorem insV_masses (key : ByteArray) (ks : List ByteArray) (ov : List GV) (g : GV) : GV.masses (insV key ks ov g) ≤ GV.masses ov + g.mass := by
  unfold insV
  have := masses_cut ov (place key ks) (insN key ks) (insN_ge key ks)
  rw [masses_app]
  simp only [GV.masses]
  omega
theorem insK_ksum (key : ByteArray) (ks : List ByteArray) : ksum (insK key ks) ≤ ksum ks + key.size := by
  unfold insK
  have := ksum_cut ks (place key ks) (insN key ks) (insN_ge key ks)
  simp [ksum] at *
  omega

/-- Each byte is ASCII. -/
def AscB (s : ByteArray) : Prop := ∀ b ∈ s.data.toList, b.toNat < 128
mutual
/-- Each text in it is ASCII. -/
def GV.Asc : GV → Prop
  | .mk _ _ s l _ ov => AscB s ∧ GV.Ascs l ∧ GV.Ascs ov
def GV.Ascs : List GV → Prop
  | [] => True
  | g :: r => GV.Asc g ∧ GV.Ascs r
end
theorem ascs_iff : ∀ (l : List GV), GV.Ascs l ↔ ∀ x ∈ l, x.Asc
  | [] => by simp [GV.Ascs]
  | x :: r => by simp [GV.Ascs, ascs_iff r]
theorem asc_none : AscB ⟨#[]⟩ := fun b hb => by simp at hb
theorem asc_plain (s : ByteArray) : AscB (plainB s) := fun b hb => by
  unfold plainB at hb
  rw [strOfNums_data] at hb
  obtain ⟨n, hn, rfl⟩ := List.mem_map.1 hb
  obtain ⟨c, _, rfl⟩ := List.mem_map.1 hn
  unfold low7
  have : ((c.toNat : Int) % 128).toNat < 128 := by omega
  rw [UInt8.toNat_ofNat']
  omega
/-- What a value of pieces is, at that depth. -/
def Good (d : Nat) (g : GV) : Prop := g.Sound ∧ g.deep + d ≤ 6 ∧ g.PosN ∧ g.Asc
theorem deeps_le {l : List GV} {m : Nat} (h : ∀ x ∈ l, 1 + x.deep ≤ m) : GV.deeps l ≤ m := by
  induction l with
  | nil => simp [GV.deeps]
  | cons x r ih =>
    have h1 := h x (by simp)
    have h2 := ih fun y hy => h y (by simp [hy])
    simp only [GV.deeps]
    omega
theorem keysOk_nil : KeysOk [] := fun i k h _ => by simp at h
theorem good_null (d : Nat) (hd : d ≤ 6) : Good d (.mk 0 0 ⟨#[]⟩ [] [] []) := ⟨by simp [GV.Sound, GV.Sounds, SelfP], by simp [GV.deep, GV.deeps]; exact hd, by simp [GV.PosN, GV.PosNs], by simp [GV.Asc, GV.Ascs, asc_none]⟩
theorem good_bool (d : Nat) (hd : d ≤ 6) (n : Int) (hn : n = 0 ∨ n = 1) : Good d (.mk 1 n ⟨#[]⟩ [] [] []) := ⟨by simp [GV.Sound, GV.Sounds, SelfP]; exact hn, by simp [GV.deep, GV.deeps]; exact hd, by simp [GV.PosN, GV.PosNs]; omega, by simp [GV.Asc, GV.Ascs, asc_none]⟩
theorem good_int (d : Nat) (hd : d ≤ 6) (n : Int) (hn : -9223372036854775808 ≤ n ∧ n ≤ 9223372036854775807) : Good d (.mk 2 n ⟨#[]⟩ [] [] []) := ⟨by simp [GV.Sound, GV.Sounds, SelfP], by simp [GV.deep, GV.deeps]; exact hd, by simp [GV.PosN, GV.PosNs]; exact hn, by simp [GV.Asc, GV.Ascs, asc_none]⟩
theorem good_text (d : Nat) (hd : d ≤ 6) (s : ByteArray) (hs : valid s = true) (ha : AscB s) : Good d (.mk 3 0 s [] [] []) := ⟨by simp [GV.Sound, GV.Sounds, SelfP, hs], by simp [GV.deep, GV.deeps]; exact hd, by simp [GV.PosN, GV.PosNs], by simp [GV.Asc, GV.Ascs, ha]⟩
theorem good_list (d : Nat) (hd : d ≤ 6) (l : List GV) (h : ∀ x ∈ l, Good (d + 1) x) : Good d (.mk 4 0 ⟨#[]⟩ l [] []) := by
  refine ⟨?_, ?_, ?_, ?_⟩
  · simp only [GV.Sound, GV.Sounds, and_true]
    exact ⟨⟨by simp, by simp, .inr ⟨by simp, by simp⟩, .inl rfl, .inr ⟨by simp, rfl⟩⟩, (sounds_iff l).2 fun x hx => (h x hx).1⟩
  · have : GV.deeps l ≤ 6 - d := deeps_le fun x hx => by have := (h x hx).2.1; omega
    simp only [GV.deep, GV.deeps]
    omega
  · simp only [GV.PosN, GV.PosNs, and_true]
    exact ⟨by omega, (posNs_iff l).2 fun x hx => (h x hx).2.2.1⟩
  · simp only [GV.Asc, GV.Ascs, and_true]
    exact ⟨asc_none, (ascs_iff l).2 fun x hx => (h x hx).2.2.2⟩
theorem good_obj (d : Nat) (hd : d ≤ 6) (ks : List ByteArray) (ov : List GV) (hk : KeysOk ks) (h : ∀ x ∈ ov, Good (d + 1) x) : Good d (.mk 5 0 ⟨#[]⟩ [] ks ov) := by
  refine ⟨?_, ?_, ?_, ?_⟩
  · simp only [GV.Sound, GV.Sounds, true_and]
    exact ⟨⟨by simp, by simp, .inr ⟨by simp, by simp⟩, .inr rfl, .inl ⟨rfl, hk⟩⟩, (sounds_iff ov).2 fun x hx => (h x hx).1⟩
  · have : GV.deeps ov ≤ 6 - d := deeps_le fun x hx => by have := (h x hx).2.1; omega
    simp only [GV.deep, GV.deeps]
    omega
  · simp only [GV.PosN, GV.PosNs, true_and]
    exact ⟨by omega, (posNs_iff ov).2 fun x hx => (h x hx).2.2.1⟩
  · simp only [GV.Asc, GV.Ascs, true_and]
    exact ⟨asc_none, (ascs_iff ov).2 fun x hx => (h x hx).2.2.2⟩

def OnePost (ts : List GTok) (d : Nat) (w : World) (e : Ending) (w' : World) : Prop :=
  ∃ (g : GV) (L O : Value) (n : Nat), e = .returned (.tuple #[.agg #[.int .u8 g.kind, .int .i64 g.num, .string g.str, L, O], .int .i64 n]) ∧
    LstV (fun k => w.heap.size ≤ k) w' L g.items ∧ ObjV (fun k => w.heap.size ≤ k) w' O g.keys g.vals ∧ Good d g ∧ n ≤ ts.length ∧ (ts ≠ [] → 1 ≤ n) ∧ (ts = [] → n = 0) ∧ g.mass + (if n = 0 then 0 else 40) ≤ 9 + 99 * n ∧ Below w.heap.size w w'

/-- What stands whatever the value is: the result's block and the piece's. -/
structure Ones (w : World) (t : GTok) (wr : World) : Prop where
  below : Below w.heap.size w wr
  tok : Whole wr (w.heap.size + 1) 58 #[.int .u8 t.k, .int .i64 t.n, .string t.s, .int .u8 t.m]
  res : ∃ cs, cs.size = 5 ∧ Whole wr w.heap.size 31 cs
/-- A list, so far. -/
structure OneL (w : World) (t : GTok) (ts : List GTok) (d u k : Nat) (l : List GV) (vL : Value) (xs : List Value) (wr : World) : Prop where
  ones : Ones w t wr
  val : Whole wr (w.heap.size + 2) 31 #[.int .u8 4, .int .i64 0, .string ⟨#[]⟩, vL, .slice none 0 0]
  own : wr.ownsRow (w.heap.size + 3) 31 5 vL l.length xs
  row : RowL (fun j => w.heap.size + 3 ≤ j ∧ vL.ownBlock ≠ some j) wr l xs
  good : ∀ x ∈ l, Good (d + 1) x
  weigh : GV.masses l ≤ 9 * k + 99 * (u - 1)
  len : l.length = k
/-- An object, so far. -/
structure OneO (w : World) (t : GTok) (ts : List GTok) (d u k : Nat) (ks : List ByteArray) (ov : List GV) (vO : Value) (wr : World) : Prop where
  ones : Ones w t wr
  val : Whole wr (w.heap.size + 2) 31 #[.int .u8 5, .int .i64 0, .string ⟨#[]⟩, .slice none 0 0, vO]
  obj : ObjV (fun j => w.heap.size + 3 ≤ j) wr vO ks ov
  keys : KeysOk ks
  good : ∀ x ∈ ov, Good (d + 1) x
  weigh : ksum ks + GV.masses ov ≤ 9 * k + 99 * (u - 1)
  len : ov.length ≤ k

section
variable {w wr W : World} {t : GTok} {ts : List GTok} {d u k : Nat} {l : List GV} {ks : List ByteArray} {ov : List GV} {vL vO : Value} {xs : List Value}
theorem Ones.step (h : Ones w t wr) (hb : Below wr.heap.size wr W) : Ones w t W :=
  ⟨h.below.trans (hb.mono h.below.size), h.tok.below hb h.tok.lt, by obtain ⟨cs, h1, h2⟩ := h.res; exact ⟨cs, h1, h2.below hb h2.lt⟩⟩
theorem Ones.far (h : Ones w t wr) {p : Addr} (hp : w.heap.size + 2 ≤ p.block) (v : Value) : Ones w t (wr.setCell p v) :=
  ⟨h.below.setCell (by omega) _, h.tok.far (by omega) _, by obtain ⟨cs, h1, h2⟩ := h.res; exact ⟨cs, h1, h2.far (by omega) _⟩⟩
theorem Ones.grown (h : Ones w t wr) {row : Option Nat} (hg : wr.grownBy W row) (hr : ∀ j, row = some j → w.heap.size + 3 ≤ j) : Ones w t W :=
  ⟨h.below.grown hg h.below.size (fun j hj => by have := hr j hj; omega), h.tok.grown hg (fun e => by have := hr _ e.symm; omega), by obtain ⟨cs, h1, h2⟩ := h.res; exact ⟨cs, h1, h2.grown hg (fun e => by have := hr _ e.symm; omega)⟩⟩
theorem OneL.step (h : OneL w t ts d u k l vL xs wr) (hb : Below wr.heap.size wr W) : OneL w t ts d u k l vL xs W :=
  ⟨h.ones.step hb, h.val.below hb h.val.lt, own_below h.own hb, h.row.keep (.of_below hb) (fun _ h _ => h), h.good, h.weigh, h.len⟩
theorem OneO.step (h : OneO w t ts d u k ks ov vO wr) (hb : Below wr.heap.size wr W) : OneO w t ts d u k ks ov vO W :=
  ⟨h.ones.step hb, h.val.below hb h.val.lt, h.obj.keep (.of_below hb) (fun _ h _ => h), h.keys, h.good, h.weigh, h.len⟩

theorem at_ne' {W : World} {v v' : Value} (hat : v'.ownBlock = v.ownBlock ∨ v'.ownBlock = some W.heap.size) {j : Nat} (h1 : v.ownBlock ≠ some j) (h2 : j < W.heap.size) : v'.ownBlock ≠ some j := by
  rcases hat with e | e
  · rwa [e]
  · rw [e]; intro h; cases h; omega
/-- A value more in the list. -/
theorem OneL.add (h : OneL w t ts d u k l vL xs wr) (hu : 1 ≤ u) {W1 W3 : World} {v' : Value} {g : GV} {L O : Value} {n : Nat} (hb1 : Below wr.heap.size wr W1)
    (hL : LstV (fun j => wr.heap.size ≤ j) W1 L g.items) (hO : ObjV (fun j => wr.heap.size ≤ j) W1 O g.keys g.vals) (hg : Good (d + 1) g) (hw : g.mass ≤ 9 + 99 * n)
    (hown : W3.ownsRow (w.heap.size + 3) 31 5 v' (l.length + 1) (xs ++ chunk g L O)) (hgrow : W1.grownBy W3 vL.ownBlock) (hat : v'.ownBlock = vL.ownBlock ∨ v'.ownBlock = some W1.heap.size) :
    OneL w t ts d (u + n) (k + 1) (l ++ [g]) v' (xs ++ chunk g L O) (W3.setCell ⟨w.heap.size + 2, 3, none⟩ v') := by
  have h1 := h.step hb1
  have hsz : w.heap.size + 3 ≤ wr.heap.size := by have := h.val.lt; omega
  have hrow : ∀ j, vL.ownBlock = some j → w.heap.size + 3 ≤ j := fun j hj => (h.own.lt j hj).1
  have hF : From (fun j => w.heap.size + 3 ≤ j ∧ vL.ownBlock ≠ some j) W1 (W3.setCell ⟨w.heap.size + 2, 3, none⟩ v') := fun j hj hlt =>
    (Below.heap_setCell W3 ⟨w.heap.size + 2, 3, none⟩ v' j (by simp only; omega)).trans (hgrow.block j hlt (fun e => hj.2 e.symm))
  have hfr : ∀ j, wr.heap.size ≤ j → w.heap.size + 3 ≤ j ∧ vL.ownBlock ≠ some j := fun j hj => ⟨by omega, fun e => by have := (h.own.lt j e).2; omega⟩
  refine ⟨(h1.ones.grown hgrow hrow).far (by simp) _, (h1.val.grown hgrow (fun e => by have := hrow _ e.symm; omega)).put 3 v', ?_, ?_, ?_, ?_, ?_⟩
  · rw [List.length_append]; exact ownsRow_setCell_below hown (by simp only; omega) _
  · exact (RowL.snoc (hL.keep (From.refl _ _) fun j hj _ => hfr j hj) (hO.keep (From.refl _ _) fun j hj _ => hfr j hj) h1.row).keep hF fun j hj hlt => ⟨hj.1, at_ne' hat hj.2 hlt⟩
  · intro x hx
    rcases List.mem_append.1 hx with hx | hx
    · exact h.good x hx
    · simp at hx; subst hx; exact hg
  · have := h.weigh
    rw [masses_app]
    simp only [GV.masses]
    omega
  · rw [List.length_append, h.len]; rfl
/-- A field more in the object. -/
theorem OneO.add (h : OneO w t ts d u k ks ov vO wr) (hu : 1 ≤ u) {W1 W3 : World} {v' : Value} {g : GV} {key : ByteArray} {n : Nat} (hb1 : Below wr.heap.size wr W1) (hb3 : Below W1.heap.size W1 W3)
    (hobj : ObjV (fun j => w.heap.size + 3 ≤ j) W3 v' (insK key ks) (insV key ks ov g)) (hv : valid key = true) (hg : Good (d + 1) g) (hw : g.mass + key.size ≤ 9 + 99 * n) :
    OneO w t ts d (u + n) (k + 1) (insK key ks) (insV key ks ov g) v' (W3.setCell ⟨w.heap.size + 2, 4, none⟩ v') := by
  have h3 := (h.step hb1).step hb3
  refine ⟨h3.ones.far (by simp) _, h3.val.put 4 v', ?_, insK_ok h.keys hv, ?_, ?_, ?_⟩
  · exact hobj.keep (fun j hj _ => Below.heap_setCell W3 ⟨w.heap.size + 2, 4, none⟩ v' j (by simp only; omega)) (fun _ h _ => h)
  · intro x hx
    rcases insV_mem hx with rfl | hx
    · exact hg
    · exact h.good x hx
  · have h1 := insV_masses key ks ov g
    have h2 := insK_ksum key ks
    have := h.weigh
    omega
  · have := insV_len key ks ov g
    have := h.len
    omega
/-- The ways out. -/
theorem put5_far (W : World) (b : Nat) (a0 a1 a2 a3 a4 : Value) : From (fun j => b + 1 ≤ j) W (put5 W b a0 a1 a2 a3 a4) := fun j hj _ => put5_block W b a0 a1 a2 a3 a4 j (by omega)
theorem OneL.done (h : OneL w t ts d u k l vL xs wr) (hd : d ≤ 6) (hu1 : 1 ≤ u) (hu2 : u ≤ ts.length) (hk : k ≤ 3) (hW : Below wr.heap.size wr W) (a0 a1 a2 a3 a4 : Value) :
    OnePost ts d w (.returned (.tuple #[.agg #[.int .u8 4, .int .i64 0, .string ⟨#[]⟩, vL, .slice none 0 0], .int .i64 u])) (put5 W w.heap.size a0 a1 a2 a3 a4) := by
  have h1 := h.step hW
  have hL : LstV (fun j => w.heap.size + 3 ≤ j) W vL l := LstV.of_own h1.own (h1.row.keep (From.refl _ _) fun j hj _ => hj.1) fun j hj => (h1.own.lt j hj).1
  refine ⟨.mk 4 0 ⟨#[]⟩ l [] [], vL, _, u, rfl, hL.keep (fun j hj hlt => put5_far W _ a0 a1 a2 a3 a4 j (by omega) hlt) (fun j hj _ => by omega), ⟨rfl, .inl ⟨rfl, rfl⟩⟩, good_list d hd l h.good, hu2, fun _ => hu1, fun e => ?_, ?_, put5_below h1.ones.below (Nat.le_refl _) _ _ _ _ _⟩
  · subst e; simp at hu2; omega
  · have := h.weigh
    rw [if_neg (by omega)]
    have e0 : (⟨#[]⟩ : ByteArray).size = 0 := rfl
    simp only [GV.mass, GV.masses, List.map_nil, List.sum_nil]
    omega
theorem OneO.done (h : OneO w t ts d u k ks ov vO wr) (hd : d ≤ 6) (hu1 : 1 ≤ u) (hu2 : u ≤ ts.length) (hk : k ≤ 3) (hW : Below wr.heap.size wr W) (a0 a1 a2 a3 a4 : Value) :
    OnePost ts d w (.returned (.tuple #[.agg #[.int .u8 5, .int .i64 0, .string ⟨#[]⟩, .slice none 0 0, vO], .int .i64 u])) (put5 W w.heap.size a0 a1 a2 a3 a4) := by
  have h1 := h.step hW
  refine ⟨.mk 5 0 ⟨#[]⟩ [] ks ov, _, vO, u, rfl, .inl ⟨rfl, rfl⟩, h1.obj.keep (fun j hj hlt => put5_far W _ a0 a1 a2 a3 a4 j (by omega) hlt) (fun j hj _ => by omega), good_obj d hd ks ov h.keys h.good, hu2, fun _ => hu1, fun e => ?_, ?_, put5_below h1.ones.below (Nat.le_refl _) _ _ _ _ _⟩
  · subst e; simp at hu2; omega
  · have := h.weigh
    rw [if_neg (by omega)]
    have e0 : (⟨#[]⟩ : ByteArray).size = 0 := rfl
    unfold ksum at this
    simp only [GV.mass, GV.masses]
    omega
/-- A value without others in it. -/
theorem one_leaf {g : GV} (hg : Good d g) (h1 : g.items = []) (h2 : g.keys = []) (h3 : g.vals = []) (h4 : g.str.size ≤ 40) (hts : ts ≠ []) (hW : Below w.heap.size w W) :
    OnePost ts d w (.returned (.tuple #[.agg #[.int .u8 g.kind, .int .i64 g.num, .string g.str, .slice none 0 0, .slice none 0 0], .int .i64 1])) W := by
  refine ⟨g, _, _, 1, rfl, .inl ⟨h1, rfl⟩, ⟨by rw [h2, h3]; rfl, .inl ⟨h3, rfl⟩⟩, hg, ?_, fun _ => Nat.le_refl _, fun e => absurd e hts, ?_, hW⟩
  · cases ts with
    | nil => exact absurd rfl hts
    | cons _ _ => simp
  · cases g with | mk k n s l ks ov =>
      simp only [GV.items, GV.keys, GV.vals, GV.str] at h1 h2 h3 h4
      subst h1 h2 h3
      simp [GV.mass, GV.masses]
      omega
end
end Go.Proofs.YtmmjkhkcffgeiaaDoor
