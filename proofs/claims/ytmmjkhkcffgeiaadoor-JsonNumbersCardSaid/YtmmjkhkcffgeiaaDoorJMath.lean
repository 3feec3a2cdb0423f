/- json's texts, as plain mathematics: what is written of a value; two values have one text just if they are one. -/
import Derived.Test.YtmmjkhkcffgeiaaDoorBaseA
import Derived.Lib.ItoaNum
import Derived.Lib.ParseIntB
namespace Go.Proofs.YtmmjkhkcffgeiaaDoor
open Go

theorem dd_small {u : Nat} (h : u < 10) : Lib.decDigits u = [UInt8.ofNat (48 + u)] := by rw [Lib.decDigits, dif_pos h]
theorem dd_big {u : Nat} (h : ¬ u < 10) : Lib.decDigits u = Lib.decDigits (u / 10) ++ [UInt8.ofNat (48 + u % 10)] := by rw [Lib.decDigits, dif_neg h]
/-- A digit. -/
def isD (c : UInt8) : Bool := decide (48 ≤ c.toNat ∧ c.toNat ≤ 57)
theorem dgt_nat {k : Nat} (h : k < 10) : (UInt8.ofNat (48 + k)).toNat = 48 + k := by
  simp [UInt8.toNat_ofNat']; omega
theorem isD_dgt {k : Nat} (h : k < 10) : isD (UInt8.ofNat (48 + k)) = true := by
  unfold isD
  rw [dgt_nat h]
  simp; omega
theorem dd_all (u : Nat) : ∀ c ∈ Lib.decDigits u, isD c = true := by
  induction u using Nat.strongRecOn with
  | _ u ih =>
    by_cases h : u < 10
    · rw [dd_small h]; intro c hc; have hc := List.mem_singleton.1 hc; rw [hc]; exact isD_dgt h
    · rw [dd_big h]
      intro c hc
      rcases List.mem_append.1 hc with hc | hc
      · exact ih _ (by omega) c hc
      · have hc := List.mem_singleton.1 hc; rw [hc]; exact isD_dgt (Nat.mod_lt _ (by decide))
theorem dd_ne (u : Nat) : Lib.decDigits u ≠ [] := by
  by_cases h : u < 10
  · rw [dd_small h]; simp
  · rw [dd_big h]; simp
theorem parse_dd (M : Nat) (hM : M < 18446744073709551620) (u : Nat) (hu : u ≤ M) (r : List UInt8) : Lib.parseUintM M 0 (Lib.decDigits u ++ r) = Lib.parseUintM M u r := by
  induction u using Nat.strongRecOn generalizing r with
  | _ u ih =>
    by_cases h : u < 10
    · rw [dd_small h, List.singleton_append, Lib.parseUintM, dgt_nat h, if_pos (by omega), if_neg (by omega), if_neg (by omega)]
      congr 1; omega
    · have hm : u % 10 < 10 := Nat.mod_lt _ (by decide)
      rw [dd_big h, List.append_assoc, ih (u / 10) (by omega) (by omega), List.singleton_append, Lib.parseUintM, dgt_nat hm, if_pos (by omega), if_neg (by omega), if_neg (by omega)]
      congr 1; omega
theorem parseB_dd (u : Nat) (hu : u < 18446744073709551616) : Lib.parseUintB 64 (Lib.decDigits u) = .ok u := by
  have h := parse_dd (2 ^ 64 - 1) (by omega) u (by omega) []
  rw [List.append_nil] at h
  rw [Lib.parseUintB, if_neg (dd_ne u), h, Lib.parseUintM]
theorem itoa_parse (n : Int) (h0 : -9223372036854775808 ≤ n) (h1 : n ≤ 9223372036854775807) : Lib.parseIntB 64 (Lib.itoa n) = .ok n := by
  unfold Lib.itoa
  by_cases hn : n < 0
  · rw [if_pos hn]
    have h45 : (45 : UInt8).toNat = 45 := rfl
    simp only [Lib.parseIntB, h45]
    rw [if_pos (by simp), parseB_dd _ (by omega)]
    simp only
    rw [if_neg (by simp), if_neg (by simp; omega), if_pos trivial]
    congr 1; omega
  · rw [if_neg hn]
    obtain ⟨c, r, hc⟩ := List.exists_cons_of_ne_nil (dd_ne n.toNat)
    have hd : isD c = true := dd_all n.toNat c (by rw [hc]; simp)
    simp only [isD, decide_eq_true_eq] at hd
    have hp := parseB_dd n.toNat (by omega)
    rw [hc] at hp ⊢
    simp only [Lib.parseIntB]
    rw [if_neg (by omega), hp]
    simp only
    rw [if_neg (by simp; omega), if_neg (by omega), if_neg (by omega)]
    congr 1; omega
theorem parse_range {l : List UInt8} {v : Int} (h : Lib.parseIntB 64 l = .ok v) : -9223372036854775808 ≤ v ∧ v ≤ 9223372036854775807 := by
  unfold Lib.parseIntB at h
  split at h
  · cases h
  · simp only at h
    split at h
    · cases h
    · cases h
    · split at h
      · cases h
      · split at h
        · cases h
        · rename_i h1 h2
          simp only [Lib.NumEnd.ok.injEq] at h
          subst h
          split <;> rename_i h3
          · simp [h3] at h2; omega
          · simp [h3] at h1; omega
/-- No digit stands ahead. -/
def Nd (r : List UInt8) : Prop := ∀ c, r.head? = some c → isD c = false
theorem span_dd {l r : List UInt8} (hl : ∀ c ∈ l, isD c = true) (hr : Nd r) : (l ++ r).takeWhile isD = l ∧ (l ++ r).dropWhile isD = r := by
  have h1 : r.takeWhile isD = [] := by
    cases r with
    | nil => rfl
    | cons c r => have := hr c rfl; simp [List.takeWhile, this]
  have h2 : r.dropWhile isD = r := by
    cases r with
    | nil => rfl
    | cons c r => have := hr c rfl; simp [List.dropWhile, this]
  exact ⟨by rw [List.takeWhile_append_of_pos hl, h1, List.append_nil], by rw [List.dropWhile_append_of_pos hl, h2]⟩
theorem itoa_apart {n m : Int} {r r' : List UInt8} (hn : -9223372036854775808 ≤ n ∧ n ≤ 9223372036854775807) (hm : -9223372036854775808 ≤ m ∧ m ≤ 9223372036854775807) (hr : Nd r) (hr' : Nd r') (e : Lib.itoa n ++ r = Lib.itoa m ++ r') : n = m ∧ r = r' := by
  have key : Lib.itoa n = Lib.itoa m ∧ r = r' := by
    unfold Lib.itoa at e ⊢
    have hne : ∀ u (x : List UInt8) (y : List UInt8), 45 :: x ≠ Lib.decDigits u ++ y := fun u x y e => by
      obtain ⟨c, s, hc⟩ := List.exists_cons_of_ne_nil (dd_ne u)
      have hd := dd_all u c (by rw [hc]; simp)
      rw [hc] at e
      simp at e
      rw [← e.1] at hd
      exact absurd hd (by decide)
    have main : ∀ u v : Nat, Lib.decDigits u ++ r = Lib.decDigits v ++ r' → Lib.decDigits u = Lib.decDigits v ∧ r = r' := fun u v e => by
      have h1 := span_dd (dd_all u) hr
      have h2 := span_dd (dd_all v) hr'
      rw [e] at h1
      exact ⟨h1.1.symm.trans h2.1, h1.2.symm.trans h2.2⟩
    by_cases h1 : n < 0 <;> by_cases h2 : m < 0
    · rw [if_pos h1, if_pos h2] at *
      simp only [List.cons_append, List.cons.injEq, true_and] at e ⊢
      exact main _ _ e
    · rw [if_pos h1, if_neg h2] at e
      exact absurd e (hne _ _ _)
    · rw [if_neg h1, if_pos h2] at e
      exact absurd e.symm (hne _ _ _)
    · rw [if_neg h1, if_neg h2] at *
      exact main _ _ e
  have h := itoa_parse n hn.1 hn.2
  rw [key.1, itoa_parse m hm.1 hm.2] at h
  exact ⟨(Lib.NumEnd.ok.inj h).symm, key.2⟩
/-- A small hex digit. -/
def hexD (n : Nat) : UInt8 := if n < 10 then UInt8.ofNat (48 + n) else UInt8.ofNat (87 + n)
/-- What is written of a byte of a text. -/
def encLetter (c : UInt8) : List UInt8 := if c = 34 ∨ c = 92 then [92, c] else if c < 32 then [92, 117, 48, 48, hexD (c.toNat / 16), hexD (c.toNat % 16)] else [c]
def encL (t : List UInt8) : List UInt8 := t.flatMap encLetter
def encText (t : List UInt8) : List UInt8 := 34 :: (encL t ++ [34])

theorem hexD_inj : ∀ a, a < 16 → ∀ b, b < 16 → hexD a = hexD b → a = b := by decide
theorem letter_apart {c d : UInt8} {s t : List UInt8} (e : encLetter c ++ s = encLetter d ++ t) : c = d ∧ s = t := by
  unfold encLetter at e
  by_cases h1 : c = 34 ∨ c = 92
  · rw [if_pos h1] at e
    by_cases h2 : d = 34 ∨ d = 92
    · rw [if_pos h2] at e
      simp only [List.cons_append, List.nil_append, List.cons.injEq, true_and] at e
      exact e
    · rw [if_neg h2] at e
      by_cases h3 : d < 32
      · rw [if_pos h3] at e
        simp only [List.cons_append, List.nil_append, List.cons.injEq, true_and] at e
        exfalso
        rcases h1 with rfl | rfl <;> exact absurd e.1 (by decide)
      · rw [if_neg h3] at e
        simp only [List.cons_append, List.nil_append, List.cons.injEq] at e
        exact absurd (.inr e.1.symm) h2
  · rw [if_neg h1] at e
    by_cases h4 : c < 32
    · rw [if_pos h4] at e
      by_cases h2 : d = 34 ∨ d = 92
      · rw [if_pos h2] at e
        simp only [List.cons_append, List.nil_append, List.cons.injEq, true_and] at e
        exfalso
        rcases h2 with rfl | rfl <;> exact absurd e.1 (by decide)
      · rw [if_neg h2] at e
        by_cases h3 : d < 32
        · rw [if_pos h3] at e
          simp only [List.cons_append, List.nil_append, List.cons.injEq, true_and] at e
          have hc := UInt8.lt_iff_toNat_lt.1 h4
          have hd := UInt8.lt_iff_toNat_lt.1 h3
          have h32 : (32 : UInt8).toNat = 32 := rfl
          rw [h32] at hc hd
          have ha := hexD_inj _ (by omega) _ (by omega) e.1
          have hb := hexD_inj _ (by omega) _ (by omega) e.2.1
          exact ⟨UInt8.toNat_inj.1 (by omega), e.2.2⟩
        · rw [if_neg h3] at e
          simp only [List.cons_append, List.nil_append, List.cons.injEq] at e
          exact absurd (.inr e.1.symm) h2
    · rw [if_neg h4] at e
      by_cases h2 : d = 34 ∨ d = 92
      · rw [if_pos h2] at e
        simp only [List.cons_append, List.nil_append, List.cons.injEq] at e
        exact absurd (.inr e.1) h1
      · rw [if_neg h2] at e
        by_cases h3 : d < 32
        · rw [if_pos h3] at e
          simp only [List.cons_append, List.nil_append, List.cons.injEq] at e
          exact absurd (.inr e.1) h1
        · rw [if_neg h3] at e
          simp only [List.cons_append, List.nil_append, List.cons.injEq] at e
          exact e
theorem letter_quote {c : UInt8} {s t : List UInt8} : encLetter c ++ s ≠ 34 :: t := by
  unfold encLetter
  intro e
  split at e
  · simp at e
  · split at e
    · simp at e
    · rename_i h _
      simp only [List.cons_append, List.nil_append, List.cons.injEq] at e
      exact h (.inl e.1)
theorem encL_cons (c : UInt8) (t : List UInt8) : encL (c :: t) = encLetter c ++ encL t := rfl
theorem encL_append (s t : List UInt8) : encL (s ++ t) = encL s ++ encL t := List.flatMap_append
theorem encL_apart : ∀ {s t r r' : List UInt8}, encL s ++ 34 :: r = encL t ++ 34 :: r' → s = t ∧ r = r'
  | [], [], r, r', e => by simpa [encL] using e
  | [], c :: t, r, r', e => by
    rw [encL_cons, List.append_assoc] at e
    exact absurd e.symm letter_quote
  | c :: s, [], r, r', e => by
    rw [encL_cons, List.append_assoc] at e
    exact absurd e letter_quote
  | c :: s, d :: t, r, r', e => by
    rw [encL_cons, encL_cons, List.append_assoc, List.append_assoc] at e
    obtain ⟨rfl, h⟩ := letter_apart e
    obtain ⟨rfl, h2⟩ := encL_apart h
    exact ⟨rfl, h2⟩
mutual
/-- A value's text. -/
def GV.enc : GV → List UInt8
  | .mk k n s l ks ov =>
    if k = 0 then [110, 117, 108, 108] else if k = 1 then (if n = 1 then [116, 114, 117, 101] else [102, 97, 108, 115, 101]) else if k = 2 then Lib.itoa n
    else if k = 3 then encText s.data.toList else if k = 4 then 91 :: (GV.encs true l ++ [93]) else 123 :: (GV.encFs true ks ov ++ [125])
/-- The texts of values, with commas between; ahead of the first, too, unless it is the first of all. -/
def GV.encs : Bool → List GV → List UInt8
  | _, [] => []
  | b, g :: r => (if b then [] else [44]) ++ (GV.enc g ++ GV.encs false r)
def GV.encFs : Bool → List ByteArray → List GV → List UInt8
  | _, _, [] => []
  | b, ks, g :: r => (if b then [] else [44]) ++ (encText (ks.headD ⟨#[]⟩).data.toList ++ 58 :: (GV.enc g ++ GV.encFs false ks.tail r))
end
theorem enc_0 (n : Int) (s : ByteArray) (l : List GV) (ks : List ByteArray) (ov : List GV) : (GV.mk 0 n s l ks ov).enc = [110, 117, 108, 108] := by rw [GV.enc, if_pos rfl]
theorem enc_1 (n : Int) (s : ByteArray) (l : List GV) (ks : List ByteArray) (ov : List GV) : (GV.mk 1 n s l ks ov).enc = if n = 1 then [116, 114, 117, 101] else [102, 97, 108, 115, 101] := by rw [GV.enc, if_neg (by decide), if_pos rfl]
theorem enc_2 (n : Int) (s : ByteArray) (l : List GV) (ks : List ByteArray) (ov : List GV) : (GV.mk 2 n s l ks ov).enc = Lib.itoa n := by rw [GV.enc, if_neg (by decide), if_neg (by decide), if_pos rfl]
theorem enc_3 (n : Int) (s : ByteArray) (l : List GV) (ks : List ByteArray) (ov : List GV) : (GV.mk 3 n s l ks ov).enc = encText s.data.toList := by rw [GV.enc, if_neg (by decide), if_neg (by decide), if_neg (by decide), if_pos rfl]
theorem enc_4 (n : Int) (s : ByteArray) (l : List GV) (ks : List ByteArray) (ov : List GV) : (GV.mk 4 n s l ks ov).enc = 91 :: (GV.encs true l ++ [93]) := by rw [GV.enc, if_neg (by decide), if_neg (by decide), if_neg (by decide), if_neg (by decide), if_pos rfl]
theorem enc_5 (n : Int) (s : ByteArray) (l : List GV) (ks : List ByteArray) (ov : List GV) : (GV.mk 5 n s l ks ov).enc = 123 :: (GV.encFs true ks ov ++ [125]) := by rw [GV.enc, if_neg (by decide), if_neg (by decide), if_neg (by decide), if_neg (by decide), if_neg (by decide)]
theorem encs_cons (b : Bool) (g : GV) (r : List GV) : GV.encs b (g :: r) = (if b then [] else [44]) ++ (g.enc ++ GV.encs false r) := by rw [GV.encs]
theorem encs_nil (b : Bool) : GV.encs b [] = [] := by rw [GV.encs]
theorem encFs_nil (b : Bool) (ks : List ByteArray) : GV.encFs b ks [] = [] := by rw [GV.encFs]
theorem encFs_cons (b : Bool) (k : ByteArray) (ks : List ByteArray) (g : GV) (r : List GV) : GV.encFs b (k :: ks) (g :: r) = (if b then [] else [44]) ++ (encText k.data.toList ++ 58 :: (g.enc ++ GV.encFs false ks r)) := by rw [GV.encFs]; rfl
theorem encs_snoc : ∀ (b : Bool) (l : List GV) (g : GV), GV.encs b (l ++ [g]) = GV.encs b l ++ ((if b && l.isEmpty then [] else [44]) ++ g.enc)
  | b, [], g => by rw [List.nil_append, encs_cons, encs_nil, encs_nil, List.append_nil, List.nil_append]; cases b <;> rfl
  | b, x :: l, g => by
    rw [List.cons_append, encs_cons, encs_cons, encs_snoc false l g]
    simp [List.append_assoc]
theorem encFs_snoc : ∀ (b : Bool) (ks : List ByteArray) (l : List GV) (k : ByteArray) (g : GV), ks.length = l.length → GV.encFs b (ks ++ [k]) (l ++ [g]) = GV.encFs b ks l ++ ((if b && l.isEmpty then [] else [44]) ++ (encText k.data.toList ++ 58 :: g.enc))
  | b, [], [], k, g, _ => by rw [List.nil_append, List.nil_append, encFs_cons, encFs_nil, encFs_nil, List.append_nil, List.nil_append]; cases b <;> rfl
  | b, y :: ks, x :: l, k, g, h => by
    rw [List.cons_append, List.cons_append, encFs_cons, encFs_cons, encFs_snoc false ks l k g (by simpa using h)]
    simp [List.append_assoc]
  | _, [], _ :: _, _, _, h => by simp at h
  | _, _ :: _, [], _, _, h => by simp at h

/-- A value as one may be written, apart from the values in it: its texts may be any bytes, its keys stand in any order. -/
def RSelf (k n : Int) (s : ByteArray) (l : List GV) (ks : List ByteArray) (ov : List GV) : Prop :=
  (k = 0 ∨ k = 1 ∨ k = 2 ∨ k = 3 ∨ k = 4 ∨ k = 5) ∧ (k = 2 ∧ -9223372036854775808 ≤ n ∧ n ≤ 9223372036854775807 ∨ n = 0 ∨ k = 1 ∧ n = 1) ∧ (k = 3 ∨ s = ⟨#[]⟩) ∧ (k = 4 ∨ l = []) ∧ (k = 5 ∨ ov = []) ∧ ks.length = ov.length
mutual
def GV.RS : GV → Prop
  | .mk k n s l ks ov => RSelf k n s l ks ov ∧ GV.RSs l ∧ GV.RSs ov
def GV.RSs : List GV → Prop
  | [] => True
  | g :: r => GV.RS g ∧ GV.RSs r
end
/-- What a value's text begins with tells its kind. -/
def headKind (c : UInt8) : Int := if c = 110 then 0 else if c = 116 ∨ c = 102 then 1 else if c = 34 then 3 else if c = 91 then 4 else if c = 123 then 5 else if c = 45 ∨ isD c = true then 2 else 9
theorem itoa_head (n : Int) : ∃ c t, Lib.itoa n = c :: t ∧ headKind c = 2 := by
  unfold Lib.itoa
  split
  · exact ⟨45, _, rfl, by decide⟩
  · obtain ⟨c, r, hc⟩ := List.exists_cons_of_ne_nil (dd_ne n.toNat)
    have hd : isD c = true := dd_all n.toNat c (by rw [hc]; simp)
    refine ⟨c, r, hc, ?_⟩
    have hn : ∀ x : UInt8, isD x = false → c ≠ x := fun x hx e => by rw [e, hx] at hd; cases hd
    unfold headKind
    rw [if_neg (hn 110 rfl), if_neg (by rintro (h | h); exact hn 116 rfl h; exact hn 102 rfl h), if_neg (hn 34 rfl), if_neg (hn 91 rfl), if_neg (hn 123 rfl), if_pos (.inr hd)]
theorem enc_head {g : GV} (hg : g.RS) : ∃ c t, g.enc = c :: t ∧ headKind c = g.kind := by
  cases g with
  | mk k n s l ks ov =>
    simp only [GV.RS] at hg
    simp only [GV.kind]
    rcases hg.1.1 with rfl | rfl | rfl | rfl | rfl | rfl
    · rw [enc_0]; exact ⟨_, _, rfl, rfl⟩
    · rw [enc_1]
      split
      · exact ⟨_, _, rfl, rfl⟩
      · exact ⟨_, _, rfl, rfl⟩
    · rw [enc_2]
      exact itoa_head n
    · rw [enc_3]
      exact ⟨_, _, rfl, rfl⟩
    · rw [enc_4]
      exact ⟨_, _, rfl, rfl⟩
    · rw [enc_5]
      exact ⟨_, _, rfl, rfl⟩
theorem enc_not {g : GV} (hg : g.RS) (c : UInt8) (hc : headKind c = 9) (s t : List UInt8) : g.enc ++ s ≠ c :: t := fun e => by
  obtain ⟨d, u, h, hk⟩ := enc_head hg
  rw [h, List.cons_append] at e
  obtain ⟨rfl, _⟩ := List.cons.inj e
  rw [hc] at hk
  cases g with
  | mk k n s l ks ov =>
    simp only [GV.RS] at hg
    simp only [GV.kind] at hk
    have := hg.1.1
    omega
theorem nd_cons {c : UInt8} {r : List UInt8} (h : isD c = false) : Nd (c :: r) := fun d e => by simp at e; subst e; exact h
theorem nd_encs (l : List GV) (r : List UInt8) : Nd (GV.encs false l ++ 93 :: r) := by
  cases l with
  | nil => rw [encs_nil, List.nil_append]; exact nd_cons (by decide)
  | cons x l => rw [encs_cons]; exact nd_cons (by decide)
theorem nd_encFs (ks : List ByteArray) (l : List GV) (r : List UInt8) : Nd (GV.encFs false ks l ++ 125 :: r) := by
  cases l with
  | nil => rw [encFs_nil, List.nil_append]; exact nd_cons (by decide)
  | cons x l => rw [GV.encFs]; exact nd_cons (by decide)
theorem ba_ext {s t : ByteArray} (h : s.data.toList = t.data.toList) : s = t := by
  cases s; cases t; simp at h; rw [h]

mutual
theorem enc_apart : ∀ (g g' : GV) (r r' : List UInt8), g.RS → g'.RS → (g.kind = 2 → Nd r) → (g'.kind = 2 → Nd r') → g.enc ++ r = g'.enc ++ r' → g = g' ∧ r = r'
  | .mk k n s l ks ov, .mk k' n' s' l' ks' ov', r, r', hg, hg', hr, hr', e => by
    have hk : k = k' := by
      obtain ⟨c, t, h, h1⟩ := enc_head hg
      obtain ⟨c', t', h', h1'⟩ := enc_head hg'
      rw [h, h', List.cons_append, List.cons_append] at e
      rw [(List.cons.inj e).1] at h1
      exact h1.symm.trans h1'
    subst hk
    simp only [GV.RS] at hg hg'
    simp only [GV.kind] at hr hr'
    obtain ⟨⟨h1, h2, h3, h4, h5, h6⟩, hl, ho⟩ := hg
    obtain ⟨⟨_, h2', h3', h4', h5', h6'⟩, hl', ho'⟩ := hg'
    have kn : ov = [] → ks = [] := fun h => List.length_eq_zero_iff.1 (by rw [h6, h]; rfl)
    have kn' : ov' = [] → ks' = [] := fun h => List.length_eq_zero_iff.1 (by rw [h6', h]; rfl)
    rcases h1 with rfl | rfl | rfl | rfl | rfl | rfl
    · simp at h2 h3 h4 h5 h2' h3' h4' h5'
      have a := kn h5
      have b := kn' h5'
      subst h2 h3 h4 h5 h2' h3' h4' h5' a b
      rw [enc_0] at e
      simpa using e
    · simp at h3 h4 h5 h3' h4' h5'
      have a := kn h5
      have b := kn' h5'
      subst h3 h4 h5 h3' h4' h5' a b
      rw [enc_1, enc_1] at e
      by_cases hn : n = 1 <;> by_cases hn' : n' = 1
      · subst hn hn'
        simpa using e
      · rw [if_pos hn, if_neg hn'] at e
        simp at e
      · rw [if_neg hn, if_pos hn'] at e
        simp at e
      · rw [if_neg hn, if_neg hn'] at e
        have a : n = 0 := by omega
        have b : n' = 0 := by omega
        subst a b
        simpa using e
    · simp at h3 h4 h5 h3' h4' h5'
      have a := kn h5
      have b := kn' h5'
      subst h3 h4 h5 h3' h4' h5' a b
      rw [enc_2, enc_2] at e
      obtain ⟨rfl, rfl⟩ := itoa_apart (by omega) (by omega) (hr rfl) (hr' rfl) e
      exact ⟨rfl, rfl⟩
    · simp at h2 h4 h5 h2' h4' h5'
      have a := kn h5
      have b := kn' h5'
      subst h2 h4 h5 h2' h4' h5' a b
      rw [enc_3, enc_3] at e
      simp only [encText, List.cons_append, List.append_assoc, List.nil_append, List.cons.injEq, true_and] at e
      obtain ⟨h, rfl⟩ := encL_apart e
      rw [ba_ext h]
      exact ⟨rfl, rfl⟩
    · simp at h2 h3 h5 h2' h3' h5'
      have a := kn h5
      have b := kn' h5'
      subst h2 h3 h5 h2' h3' h5' a b
      rw [enc_4, enc_4] at e
      simp only [List.cons_append, List.append_assoc, List.nil_append, List.cons.injEq, true_and] at e
      obtain ⟨rfl, rfl⟩ := encs_apart l l' true r r' hl hl' e
      exact ⟨rfl, rfl⟩
    · simp at h2 h3 h4 h2' h3' h4'
      subst h2 h3 h4 h2' h3' h4'
      rw [enc_5, enc_5] at e
      simp only [List.cons_append, List.append_assoc, List.nil_append, List.cons.injEq, true_and] at e
      obtain ⟨rfl, rfl, rfl⟩ := encFs_apart ov ov' ks ks' true r r' ho ho' h6 h6' e
      exact ⟨rfl, rfl⟩
theorem encs_apart : ∀ (l l' : List GV) (b : Bool) (r r' : List UInt8), GV.RSs l → GV.RSs l' → GV.encs b l ++ 93 :: r = GV.encs b l' ++ 93 :: r' → l = l' ∧ r = r'
  | [], [], b, r, r', _, _, e => by simpa [encs_nil] using e
  | [], y :: l', b, r, r', _, h', e => by
    simp only [GV.RSs] at h'
    rw [encs_nil, List.nil_append, encs_cons] at e
    cases b with
    | true =>
      simp only [if_true, List.nil_append, List.append_assoc] at e
      exact absurd e.symm (enc_not h'.1 93 (by decide) _ _)
    | false => simp at e
  | x :: l, [], b, r, r', h, _, e => by
    simp only [GV.RSs] at h
    rw [encs_nil, List.nil_append, encs_cons] at e
    cases b with
    | true =>
      simp only [if_true, List.nil_append, List.append_assoc] at e
      exact absurd e (enc_not h.1 93 (by decide) _ _)
    | false => simp at e
  | x :: l, y :: l', b, r, r', h, h', e => by
    simp only [GV.RSs] at h h'
    rw [encs_cons, encs_cons] at e
    simp only [List.append_assoc] at e
    have e := List.append_cancel_left e
    obtain ⟨rfl, e2⟩ := enc_apart x y _ _ h.1 h'.1 (fun _ => nd_encs l r) (fun _ => nd_encs l' r') e
    obtain ⟨rfl, rfl⟩ := encs_apart l l' false r r' h.2 h'.2 e2
    exact ⟨rfl, rfl⟩
theorem encFs_apart : ∀ (l l' : List GV) (ks ks' : List ByteArray) (b : Bool) (r r' : List UInt8), GV.RSs l → GV.RSs l' → ks.length = l.length → ks'.length = l'.length → GV.encFs b ks l ++ 125 :: r = GV.encFs b ks' l' ++ 125 :: r' → ks = ks' ∧ l = l' ∧ r = r'
  | [], [], ks, ks', b, r, r', _, _, hk, hk', e => by
    rw [List.length_eq_zero_iff.1 hk, List.length_eq_zero_iff.1 hk'] at *
    simpa [encFs_nil] using e
  | [], y :: l', ks, ks', b, r, r', _, h', hk, hk', e => by
    rw [encFs_nil, List.nil_append, GV.encFs] at e
    cases b with
    | true => simp [encText] at e
    | false => simp at e
  | x :: l, [], ks, ks', b, r, r', h, _, hk, hk', e => by
    rw [encFs_nil, List.nil_append, GV.encFs] at e
    cases b with
    | true => simp [encText] at e
    | false => simp at e
  | x :: l, y :: l', k :: ks, k' :: ks', b, r, r', h, h', hk, hk', e => by
    simp only [GV.RSs] at h h'
    rw [encFs_cons, encFs_cons] at e
    simp only [List.append_assoc, encText, List.cons_append, List.nil_append] at e
    have e := List.append_cancel_left e
    simp only [List.cons.injEq, true_and] at e
    obtain ⟨hkk, e⟩ := encL_apart e
    simp only [List.cons.injEq, true_and] at e
    obtain ⟨rfl, e2⟩ := enc_apart x y _ _ h.1 h'.1 (fun _ => nd_encFs ks l r) (fun _ => nd_encFs ks' l' r') e
    obtain ⟨rfl, rfl, rfl⟩ := encFs_apart l l' ks ks' false r r' h.2 h'.2 (by simpa using hk) (by simpa using hk') e2
    rw [ba_ext hkk]
    exact ⟨rfl, rfl, rfl⟩
  | _ :: _, _, [], _, _, _, _, _, _, hk, _, _ => by simp at hk
  | _, _ :: _, _, [], _, _, _, _, _, _, hk', _ => by simp at hk'
end

/-! How long a text may be. -/
theorem encLetter_len (c : UInt8) : (encLetter c).length ≤ 6 := by unfold encLetter; split <;> (try split) <;> simp
theorem encL_len : ∀ t : List UInt8, (encL t).length ≤ 6 * t.length
  | [] => by simp [encL]
  | c :: t => by
    have h1 := encLetter_len c
    have h2 := encL_len t
    rw [encL_cons, List.length_append, List.length_cons]
    omega
theorem dd_len (u : Nat) : ∀ k, u < 10 ^ (k + 1) → (Lib.decDigits u).length ≤ k + 1 := by
  induction u using Nat.strongRecOn with
  | _ u ih =>
    intro k hk
    by_cases h : u < 10
    · rw [dd_small h]; simp
    · rw [dd_big h, List.length_append]
      cases k with
      | zero => simp at hk; omega
      | succ k =>
        have := ih (u / 10) (by omega) k (by rw [Nat.pow_succ] at hk; omega)
        simp; omega
theorem itoa_len {n : Int} (h0 : -9223372036854775808 ≤ n) (h1 : n ≤ 9223372036854775807) : (Lib.itoa n).length ≤ 20 := by
  unfold Lib.itoa
  split
  · have := dd_len n.natAbs 18 (by omega)
    simp; omega
  · have := dd_len n.toNat 18 (by omega)
    omega
mutual
theorem enc_len : ∀ (g : GV), g.RS → g.enc.length + 4 ≤ 32 * g.weight
  | .mk k n s l ks ov, hg => by
    simp only [GV.RS] at hg
    obtain ⟨⟨h1, h2, h3, h4, h5, h6⟩, hl, ho⟩ := hg
    have e1 := encs_len l true hl
    have e2 := encFs_len ov ks true ho h6
    have e3 := encL_len s.data.toList
    have e4 : s.data.toList.length = s.size := by simp
    rw [GV.weight]
    rcases h1 with rfl | rfl | rfl | rfl | rfl | rfl
    · rw [enc_0]; simp; omega
    · rw [enc_1]
      split <;> (simp; omega)
    · rw [enc_2]
      have : (Lib.itoa n).length ≤ 20 := by
        rcases h2 with h | rfl | h
        · exact itoa_len h.2.1 h.2.2
        · exact itoa_len (by decide) (by decide)
        · omega
      omega
    · rw [enc_3]
      simp only [encText, List.length_cons, List.length_append, List.length_nil]
      omega
    · rw [enc_4]
      simp only [List.length_cons, List.length_append, List.length_nil]
      omega
    · rw [enc_5]
      simp only [List.length_cons, List.length_append, List.length_nil]
      omega
theorem encs_len : ∀ (l : List GV) (b : Bool), GV.RSs l → (GV.encs b l).length ≤ 32 * GV.weights l
  | [], b, _ => by simp [encs_nil]
  | g :: r, b, h => by
    simp only [GV.RSs] at h
    have h1 := enc_len g h.1
    have h2 := encs_len r false h.2
    rw [encs_cons, GV.weights, List.length_append, List.length_append]
    cases b <;> simp <;> omega
theorem encFs_len : ∀ (l : List GV) (ks : List ByteArray) (b : Bool), GV.RSs l → ks.length = l.length → (GV.encFs b ks l).length ≤ 32 * ((ks.map (·.size)).sum + GV.weights l)
  | [], ks, b, _, _ => by simp [encFs_nil]
  | g :: r, [], b, _, hk => by simp at hk
  | g :: r, k :: ks, b, h, hk => by
    simp only [GV.RSs] at h
    have h1 := enc_len g h.1
    have h2 := encFs_len r ks false h.2 (by simpa using hk)
    have h3 := encL_len k.data.toList
    have h4 : k.data.toList.length = k.size := by simp
    rw [encFs_cons, GV.weights]
    simp only [encText, List.length_append, List.length_cons, List.length_nil, List.map_cons, List.sum_cons]
    cases b <;> simp <;> omega
end
end Go.Proofs.YtmmjkhkcffgeiaaDoor
