/- Frames: the number that four bytes are. -/
import Derived.Test.YtdagpmmachaeaaaFrmC
import Derived.Deep.QuietTactic
import Derived.BigQuiet
import Derived.Laws.BitsAllLaws
namespace Go.Proofs.Ytdagpmmachaeaaa
open Go Go.RowKit
set_option linter.unusedVariables false
set_option linter.unusedSimpArgs false

theorem or_join {x y : Nat} {X Y : Int} (i : Nat) (hX : X = x) (hY : Y = y) (hx : x % 2 ^ i = 0) (hy : y < 2 ^ i) (h1 : x < 4294967296) (h2 : y < 4294967296) : bits .or .u32 X Y = X + Y := by
  subst hX hY
  rw [u32_or_nat _ _ h1 h2, nat_join i x y hx hy]; rfl
def numN (bs : List Int) : Nat := (bs.getD 0 0).toNat * 16777216 + (bs.getD 1 0).toNat * 65536 + (bs.getD 2 0).toNat * 256 + (bs.getD 3 0).toNat
theorem numN_lt {bs : List Int} (h : Byte bs) : numN bs < 4294967296 := by
  have hg : ∀ i, (bs.getD i 0).toNat < 256 := fun i => by
    rw [List.getD_eq_getElem?_getD]
    rcases Nat.lt_or_ge i bs.length with hi | hi
    · rw [List.getElem?_eq_getElem hi]; have := h _ (List.getElem_mem hi); simp; omega
    · rw [List.getElem?_eq_none hi]; simp
  have h0 := hg 0; have h1 := hg 1; have h2 := hg 2; have h3 := hg 3
  unfold numN; omega
theorem numN_num4 {n : Nat} (h : n < 4294967296) (r : List Int) : numN (num4 n ++ r) = n := by
  simp [numN, num4]; omega
set_option maxHeartbeats 4000000 in
set_option maxRecDepth 100000 in
theorem number_any {hi : Nat} {A : Option Addr} (ca n : Nat) (bs : List Int) (w : World) (hA : Bytes hi w A bs) (hs : Short bs) (h4 : 4 ≤ bs.length) (hn : n = bs.length) :
    Calls Try.prog 29 #[.slice A n ca] w fun e w' => e = .returned (.int .u32 (numN bs)) ∧ ∃ k, w' = w.drewN k := by
  subst hn
  match bs, h4 with
  | a :: b :: c :: d :: r, _ =>
    obtain ⟨B, o, rfl, _, hc⟩ := hA (by simp)
    have c0 := hc 0 a rfl
    have c1 := hc 1 b rfl
    have c2 := hc 2 c rfl
    have c3 := hc 3 d rfl
    have b0 := hs.1 a (by simp)
    have b1 := hs.1 b (by simp)
    have b2 := hs.1 c (by simp)
    have b3 := hs.1 d (by simp)
    have hl := hs.2
    clear hA hc hs
    obtain ⟨a, rfl⟩ : ∃ y : Nat, a = y := ⟨a.toNat, by omega⟩
    obtain ⟨b, rfl⟩ : ∃ y : Nat, b = y := ⟨b.toNat, by omega⟩
    obtain ⟨c, rfl⟩ : ∃ y : Nat, c = y := ⟨c.toNat, by omega⟩
    obtain ⟨d, rfl⟩ : ∃ y : Nat, d = y := ⟨d.toNat, by omega⟩
    have hlen : 4 ≤ ((a : Int) :: (b : Int) :: (c : Int) :: (d : Int) :: r).length := by simp
    generalize hL : ((a : Int) :: (b : Int) :: (c : Int) :: (d : Int) :: r).length = L at hl hlen ⊢
    have o1 : bits .or .u32 ((a : Int) * 16777216) ((b : Int) * 65536) = (a : Int) * 16777216 + (b : Int) * 65536 := or_join (x := a * 16777216) (y := b * 65536) 24 (by omega) (by omega) (by omega) (by omega) (by omega) (by omega)
    have o2 : bits .or .u32 ((a : Int) * 16777216 + (b : Int) * 65536) ((c : Int) * 256) = (a : Int) * 16777216 + (b : Int) * 65536 + (c : Int) * 256 := or_join (x := a * 16777216 + b * 65536) (y := c * 256) 16 (by omega) (by omega) (by omega) (by omega) (by omega) (by omega)
    have o3 : bits .or .u32 ((a : Int) * 16777216 + (b : Int) * 65536 + (c : Int) * 256) (d : Int) = (a : Int) * 16777216 + (b : Int) * 65536 + (c : Int) * 256 + (d : Int) := or_join (x := a * 16777216 + b * 65536 + c * 256) (y := d) 8 (by omega) (by omega) (by omega) (by omega) (by omega) (by omega)
    have HN : Hid (((numN ((a : Int) :: (b : Int) :: (c : Int) :: (d : Int) :: r) : Nat) : Int) = (a : Int) * 16777216 + (b : Int) * 65536 + (c : Int) * 256 + (d : Int)) := Lib.hid (by simp [numN])
    clear hL
    have i0 : 0 < L := by omega
    have i1 : 1 < L := by omega
    have i2 : 2 < L := by omega
    have i3 : 3 < L := by omega
    have j1 : (1 : Int) < (L : Int) := by omega
    have j2 : (2 : Int) < (L : Int) := by omega
    have j3 : (3 : Int) < (L : Int) := by omega
    have w1 : IntKind.u32.wrap ((a : Int) * 16777216) = (a : Int) * 16777216 := by rw [IntKind.wrap_u32']; omega
    have w2 : IntKind.u32.wrap ((b : Int) * 65536) = (b : Int) * 65536 := by rw [IntKind.wrap_u32']; omega
    have w3 : IntKind.u32.wrap ((c : Int) * 256) = (c : Int) * 256 := by rw [IntKind.wrap_u32']; omega
    rw [Nat.add_zero] at c0
    go_enter Try.func29, Try.ntmps29
    go_wp2
    go_quiet (fail)
    go_wp2
    go_ret
    exact ⟨ret_u32 HN.out.symm, _, rfl⟩
set_option maxHeartbeats 4000000 in
set_option maxRecDepth 100000 in
theorem rnumber_any {hi : Nat} {A : Option Addr} (ca n : Nat) (bs : List Int) (w : World) (hA : Bytes hi w A bs) (hs : Short bs) (h4 : 4 ≤ bs.length) (hn : n = bs.length) :
    Calls Try.prog 31 #[.slice A n ca] w fun e w' => e = .returned (.int .u32 (numN bs)) ∧ ∃ k, w' = w.drewN k := by
  subst hn
  match bs, h4 with
  | a :: b :: c :: d :: r, _ =>
    obtain ⟨B, o, rfl, _, hc⟩ := hA (by simp)
    have c0 := hc 0 a rfl
    have c1 := hc 1 b rfl
    have c2 := hc 2 c rfl
    have c3 := hc 3 d rfl
    have b0 := hs.1 a (by simp)
    have b1 := hs.1 b (by simp)
    have b2 := hs.1 c (by simp)
    have b3 := hs.1 d (by simp)
    have hl := hs.2
    clear hA hc hs
    obtain ⟨a, rfl⟩ : ∃ y : Nat, a = y := ⟨a.toNat, by omega⟩
    obtain ⟨b, rfl⟩ : ∃ y : Nat, b = y := ⟨b.toNat, by omega⟩
    obtain ⟨c, rfl⟩ : ∃ y : Nat, c = y := ⟨c.toNat, by omega⟩
    obtain ⟨d, rfl⟩ : ∃ y : Nat, d = y := ⟨d.toNat, by omega⟩
    have hlen : 4 ≤ ((a : Int) :: (b : Int) :: (c : Int) :: (d : Int) :: r).length := by simp
    generalize hL : ((a : Int) :: (b : Int) :: (c : Int) :: (d : Int) :: r).length = L at hl hlen ⊢
    have o1 : bits .or .u32 ((a : Int) * 16777216) ((b : Int) * 65536) = (a : Int) * 16777216 + (b : Int) * 65536 := or_join (x := a * 16777216) (y := b * 65536) 24 (by omega) (by omega) (by omega) (by omega) (by omega) (by omega)
    have o2 : bits .or .u32 ((a : Int) * 16777216 + (b : Int) * 65536) ((c : Int) * 256) = (a : Int) * 16777216 + (b : Int) * 65536 + (c : Int) * 256 := or_join (x := a * 16777216 + b * 65536) (y := c * 256) 16 (by omega) (by omega) (by omega) (by omega) (by omega) (by omega)
    have o3 : bits .or .u32 ((a : Int) * 16777216 + (b : Int) * 65536 + (c : Int) * 256) (d : Int) = (a : Int) * 16777216 + (b : Int) * 65536 + (c : Int) * 256 + (d : Int) := or_join (x := a * 16777216 + b * 65536 + c * 256) (y := d) 8 (by omega) (by omega) (by omega) (by omega) (by omega) (by omega)
    have HN : Hid (((numN ((a : Int) :: (b : Int) :: (c : Int) :: (d : Int) :: r) : Nat) : Int) = (a : Int) * 16777216 + (b : Int) * 65536 + (c : Int) * 256 + (d : Int)) := Lib.hid (by simp [numN])
    clear hL
    have i0 : 0 < L := by omega
    have i1 : 1 < L := by omega
    have i2 : 2 < L := by omega
    have i3 : 3 < L := by omega
    have j1 : (1 : Int) < (L : Int) := by omega
    have j2 : (2 : Int) < (L : Int) := by omega
    have j3 : (3 : Int) < (L : Int) := by omega
    have w1 : IntKind.u32.wrap ((a : Int) * 16777216) = (a : Int) * 16777216 := by rw [IntKind.wrap_u32']; omega
    have w2 : IntKind.u32.wrap ((b : Int) * 65536) = (b : Int) * 65536 := by rw [IntKind.wrap_u32']; omega
    have w3 : IntKind.u32.wrap ((c : Int) * 256) = (c : Int) * 256 := by rw [IntKind.wrap_u32']; omega
    rw [Nat.add_zero] at c0
    go_enter Try.func31, Try.ntmps31
    go_wp2
    go_quiet (fail)
    go_wp2
    go_ret
    exact ⟨ret_u32 HN.out.symm, _, rfl⟩
end Go.Proofs.Ytdagpmmachaeaaa
