/- Check sums, plain mathematics: a step, eight of them, the sum of bytes; a step tells numbers apart, and goes with exclusive or. -/
import GoSem.Core.Value
namespace Go.Proofs.Ytdagpmmachaeaaa
set_option linter.unusedVariables false
set_option linter.unusedSimpArgs false

def st (n : Nat) : Nat := if n % 2 = 1 then n / 2 ^^^ 3988292384 else n / 2
def stN : Nat → Nat → Nat
  | 0, n => n
  | k + 1, n => st (stN k n)
def eightN (n : Nat) : Nat := stN 8 n
def crcN (n : Nat) (bs : List Int) : Nat := bs.foldl (fun n b => eightN (n ^^^ b.toNat)) n
def crcL (n : Nat) (ls : List (List Int)) : Nat := ls.foldl crcN n
def sumN (ls : List (List Int)) : Nat := 4294967295 - crcL 4294967295 ls
def Byte (bs : List Int) : Prop := ∀ x ∈ bs, 0 ≤ x ∧ x ≤ 255

theorem xor_lt {a b : Nat} (ha : a < 4294967296) (hb : b < 4294967296) : a ^^^ b < 4294967296 :=
  Nat.xor_lt_two_pow (n := 32) ha hb
theorem st_lt {n : Nat} (h : n < 4294967296) : st n < 4294967296 := by
  unfold st; split
  · exact xor_lt (by omega) (by omega)
  · omega
theorem stN_lt (k : Nat) {n : Nat} (h : n < 4294967296) : stN k n < 4294967296 := by
  induction k with
  | zero => exact h
  | succ k ih => exact st_lt ih
theorem eight_lt {n : Nat} (h : n < 4294967296) : eightN n < 4294967296 := stN_lt 8 h
theorem crcN_lt {n : Nat} (h : n < 4294967296) {bs : List Int} (hb : Byte bs) : crcN n bs < 4294967296 := by
  induction bs generalizing n with
  | nil => exact h
  | cons b r ih =>
    have := hb b (by simp)
    exact ih (eight_lt (xor_lt h (by omega))) (fun x hx => hb x (by simp [hx]))
theorem crcL_lt {n : Nat} (h : n < 4294967296) {ls : List (List Int)} (hb : ∀ l ∈ ls, Byte l) : crcL n ls < 4294967296 := by
  induction ls generalizing n with
  | nil => exact h
  | cons b r ih => exact ih (crcN_lt h (hb b (by simp))) (fun x hx => hb x (by simp [hx]))
theorem crcN_append (n : Nat) (a b : List Int) : crcN n (a ++ b) = crcN (crcN n a) b := List.foldl_append ..
theorem crcL_append (n : Nat) (a b : List (List Int)) : crcL n (a ++ b) = crcL (crcL n a) b := List.foldl_append ..
theorem crcL_flat (n : Nat) (ls : List (List Int)) : crcL n ls = crcN n ls.flatten := by
  induction ls generalizing n with
  | nil => rfl
  | cons l r ih => rw [List.flatten_cons, crcN_append]; exact ih _
theorem sumN_flat {a b : List (List Int)} (h : a.flatten = b.flatten) : sumN a = sumN b := by
  unfold sumN; rw [crcL_flat, crcL_flat, h]

theorem xor_mod (a b : Nat) : (a ^^^ b) % 2 = (a % 2) ^^^ (b % 2) := Nat.xor_mod_two_pow (n := 1)
theorem xor_div (a b : Nat) : (a ^^^ b) / 2 = (a / 2) ^^^ (b / 2) := by
  simpa [Nat.shiftRight_eq_div_pow] using Nat.shiftRight_xor_distrib (a := a) (b := b) (i := 1)
theorem st_xor (a b : Nat) : st (a ^^^ b) = st a ^^^ st b := by
  have h1 := xor_mod a b
  have h2 := xor_div a b
  rcases Nat.mod_two_eq_zero_or_one a with ha | ha <;> rcases Nat.mod_two_eq_zero_or_one b with hb | hb <;> simp only [ha, hb] at h1 <;> simp [st, ha, hb, h1, h2]
  · rw [Nat.xor_assoc]
  · rw [Nat.xor_assoc, Nat.xor_assoc]; congr 1; exact Nat.xor_comm _ _
  · rw [show ∀ x y z : Nat, (x ^^^ z) ^^^ (y ^^^ z) = x ^^^ y from fun x y z => by rw [Nat.xor_assoc, Nat.xor_comm y z, ← Nat.xor_assoc z z y, Nat.xor_self, Nat.zero_xor]]
theorem st_zero {n : Nat} (h : n < 4294967296) (e : st n = 0) : n = 0 := by
  unfold st at e; split at e
  · have h31 : (n / 2 ^^^ 3988292384).testBit 31 = true := by
      rw [Nat.testBit_xor, Nat.testBit_lt_two_pow (i := 31) (by omega)]; rfl
    rw [e] at h31; simp at h31
  · omega
theorem xor_eq_zero {a b : Nat} (h : a ^^^ b = 0) : a = b := by
  have := Nat.xor_assoc a b b
  rw [h, Nat.xor_self, Nat.zero_xor, Nat.xor_zero] at this
  exact this.symm
theorem st_inj {a b : Nat} (ha : a < 4294967296) (hb : b < 4294967296) (e : st a = st b) : a = b :=
  xor_eq_zero (st_zero (xor_lt ha hb) (by rw [st_xor, e, Nat.xor_self]))
theorem stN_xor (k a b : Nat) : stN k (a ^^^ b) = stN k a ^^^ stN k b := by
  induction k with
  | zero => rfl
  | succ k ih => simp only [stN]; rw [ih, st_xor]
theorem stN_inj (k : Nat) {a b : Nat} (ha : a < 4294967296) (hb : b < 4294967296) (e : stN k a = stN k b) : a = b := by
  induction k with
  | zero => exact e
  | succ k ih => exact ih (st_inj (stN_lt k ha) (stN_lt k hb) e)
theorem eight_xor (a b : Nat) : eightN (a ^^^ b) = eightN a ^^^ eightN b := stN_xor 8 a b
theorem eight_inj {a b : Nat} (ha : a < 4294967296) (hb : b < 4294967296) (e : eightN a = eightN b) : a = b := stN_inj 8 ha hb e
theorem xor_left_inj {a b c : Nat} (h : a ^^^ b = a ^^^ c) : b = c := by
  have := congrArg (a ^^^ ·) h
  simpa [← Nat.xor_assoc] using this
theorem xor_right_inj {a b c : Nat} (h : b ^^^ a = c ^^^ a) : b = c := xor_left_inj (by rwa [Nat.xor_comm a b, Nat.xor_comm a c])
theorem crcN_inj {a b : Nat} {bs : List Int} (hs : Byte bs) (ha : a < 4294967296) (hb : b < 4294967296) (e : crcN a bs = crcN b bs) : a = b := by
  induction bs generalizing a b with
  | nil => exact e
  | cons x r ih =>
    have hx := hs x (by simp)
    exact xor_right_inj (eight_inj (xor_lt ha (by omega)) (xor_lt hb (by omega)) (ih (fun y hy => hs y (by simp [hy])) (eight_lt (xor_lt ha (by omega))) (eight_lt (xor_lt hb (by omega))) e))
theorem Byte.append {a b : List Int} (ha : Byte a) (hb : Byte b) : Byte (a ++ b) := fun x hx => (List.mem_append.1 hx).elim (ha x) (hb x)
theorem Byte.left {a b : List Int} (h : Byte (a ++ b)) : Byte a := fun x hx => h x (List.mem_append_left _ hx)
theorem Byte.right {a b : List Int} (h : Byte (a ++ b)) : Byte b := fun x hx => h x (List.mem_append_right _ hx)
theorem Byte.one {x : Int} (h0 : 0 ≤ x) (h1 : x ≤ 255) : Byte [x] := fun y hy => by simp at hy; omega
theorem Byte.take {a : List Int} (h : Byte a) (k : Nat) : Byte (a.take k) := fun x hx => h x (List.mem_of_mem_take hx)
theorem Byte.drop {a : List Int} (h : Byte a) (k : Nat) : Byte (a.drop k) := fun x hx => h x (List.mem_of_mem_drop hx)
theorem sub_inj {a b : Nat} (ha : a < 4294967296) (hb : b < 4294967296) (e : 4294967295 - a = 4294967295 - b) : a = b := by omega
/-- Another byte makes another sum. -/
theorem sum_other {p q : List Int} {x y : Int} (hp : Byte p) (hq : Byte q) (hx : 0 ≤ x ∧ x ≤ 255) (hy : 0 ≤ y ∧ y ≤ 255) (h : sumN [p ++ x :: q] = sumN [p ++ y :: q]) : x = y := by
  have hc := crcN_lt (n := 4294967295) (by omega) hp
  have hb : ∀ z : Int, 0 ≤ z ∧ z ≤ 255 → Byte (p ++ z :: q) := fun z hz => hp.append (fun u hu => by rcases List.mem_cons.1 hu with rfl | hu; exact hz; exact hq u hu)
  have e := sub_inj (crcL_lt (by omega) (ls := [p ++ x :: q]) (by simpa using hb x hx)) (crcL_lt (by omega) (ls := [p ++ y :: q]) (by simpa using hb y hy)) h
  simp only [crcL, List.foldl_cons, List.foldl_nil] at e
  rw [crcN_append, crcN_append] at e
  have e2 : crcN (eightN (crcN 4294967295 p ^^^ x.toNat)) q = crcN (eightN (crcN 4294967295 p ^^^ y.toNat)) q := e
  have e3 := crcN_inj hq (eight_lt (xor_lt hc (by omega))) (eight_lt (xor_lt hc (by omega))) e2
  have e4 := xor_left_inj (eight_inj (xor_lt hc (by omega)) (xor_lt hc (by omega)) e3)
  omega
theorem xor_all {n : Nat} (h : n < 4294967296) : n ^^^ 4294967295 = 4294967295 - n := by
  have e : (BitVec.ofNat 32 n ^^^ BitVec.allOnes 32).toNat = (~~~ BitVec.ofNat 32 n).toNat := by rw [BitVec.xor_allOnes]
  rw [BitVec.toNat_xor, BitVec.toNat_not, BitVec.toNat_allOnes, BitVec.toNat_ofNat, Nat.mod_eq_of_lt (by omega)] at e
  omega
theorem not_xor {a b : Nat} (ha : a < 4294967296) (hb : b < 4294967296) : (4294967295 - a) ^^^ (4294967295 - b) = a ^^^ b := by
  rw [← xor_all ha, ← xor_all hb]
  rw [Nat.xor_assoc, Nat.xor_comm b, ← Nat.xor_assoc 4294967295, Nat.xor_self, Nat.zero_xor]
def zer : Nat → Nat → Nat
  | 0, n => n
  | k + 1, n => zer k (eightN n)
theorem crcN_xor (q : List Int) (a b : Nat) : crcN (a ^^^ b) q = crcN a q ^^^ zer q.length b := by
  induction q generalizing a b with
  | nil => rfl
  | cons x r ih =>
    show crcN (eightN ((a ^^^ b) ^^^ x.toNat)) r = crcN (eightN (a ^^^ x.toNat)) r ^^^ zer r.length (eightN b)
    rw [← ih, ← eight_xor]
    congr 2
    rw [Nat.xor_assoc, Nat.xor_comm b, ← Nat.xor_assoc]
def xorB (u x : Int) : Int := ((u.toNat ^^^ x.toNat : Nat) : Int)
theorem xorB_byte {u x : Int} (hu : 0 ≤ u ∧ u ≤ 255) (hx : 0 ≤ x ∧ x ≤ 255) : 0 ≤ xorB u x ∧ xorB u x ≤ 255 := by
  unfold xorB
  have := Nat.xor_lt_two_pow (n := 8) (x := u.toNat) (y := x.toNat) (by omega) (by omega)
  omega
theorem sum_lt (ls : List (List Int)) : sumN ls < 4294967296 := by unfold sumN; omega
/-- What a byte that is turned turns of the sum: by what is turned, and by how much stands behind it. -/
theorem sum_diff {p q : List Int} {u x : Int} (hp : Byte p) (hq : Byte q) (hu : 0 ≤ u ∧ u ≤ 255) (hx : 0 ≤ x ∧ x ≤ 255) :
    sumN [p ++ u :: q] ^^^ sumN [p ++ xorB u x :: q] = zer q.length (eightN x.toNat) := by
  have hc := crcN_lt (n := 4294967295) (by omega) hp
  have hb : ∀ z : Int, 0 ≤ z ∧ z ≤ 255 → Byte (p ++ z :: q) := fun z hz => hp.append (fun v hv => by rcases List.mem_cons.1 hv with rfl | hv; exact hz; exact hq v hv)
  unfold sumN
  rw [not_xor (crcL_lt (by omega) (by simpa using hb u hu)) (crcL_lt (by omega) (by simpa using hb _ (xorB_byte hu hx)))]
  simp only [crcL, List.foldl_cons, List.foldl_nil]
  rw [crcN_append, crcN_append]
  show crcN (eightN (crcN 4294967295 p ^^^ u.toNat)) q ^^^ crcN (eightN (crcN 4294967295 p ^^^ (xorB u x).toNat)) q = _
  have e : (xorB u x).toNat = u.toNat ^^^ x.toNat := by unfold xorB; omega
  rw [e, ← Nat.xor_assoc]
  generalize crcN 4294967295 p ^^^ u.toNat = m
  rw [eight_xor m, crcN_xor, ← Nat.xor_assoc, Nat.xor_self, Nat.zero_xor]
/-- A byte behind tells bytes apart. -/
theorem sum_end {a : List Int} {x y : Int} (ha : Byte a) (hx : 0 ≤ x ∧ x ≤ 255) (hy : 0 ≤ y ∧ y ≤ 255) : sumN [a, [x]] = sumN [a, [y]] ↔ x = y := by
  constructor
  · intro h
    have h2 : sumN [a ++ x :: []] = sumN [a ++ y :: []] := by
      rw [sumN_flat (a := [a ++ x :: []]) (b := [a, [x]]) (by simp), sumN_flat (a := [a ++ y :: []]) (b := [a, [y]]) (by simp)]; exact h
    exact sum_other ha (fun _ h => by simp at h) hx hy h2
  · rintro rfl; rfl
theorem sum_none : sumN [] = 0 := rfl
theorem sum_nine : sumN [[49, 50, 51, 52, 53, 54, 55, 56, 57]] = 3421780262 := by decide +kernel
end Go.Proofs.Ytdagpmmachaeaaa
