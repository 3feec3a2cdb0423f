/- Check sums, the program's: eight steps; the sum of lists of bytes. -/
import Derived.Test.YtdagpmmachaeaaaProg
import Derived.Test.YtdagpmmachaeaaaSumM
import Derived.WalkKit
import Derived.WalkSpells
import Derived.WalkLawsBesides
import Derived.Laws.BitsAllLaws
import Derived.Lib.Hide
namespace Go.Proofs.Ytdagpmmachaeaaa
open Go Go.RowKit
set_option linter.unusedVariables false
set_option linter.unusedSimpArgs false

theorem ret_u32 {a b : Int} (h : a = b) : Ending.returned (.int .u32 a) = .returned (.int .u32 b) := by rw [h]
def EightRel (m : Nat) (n i : Value) : Prop := ∃ k : Nat, k ≤ 8 ∧ i = .int .i64 k ∧ n = .int .u32 (stN k m)
set_option maxHeartbeats 1000000 in
theorem eight_any (m : Nat) (w : World) (hm : m < 4294967296) : Calls Try.prog 26 #[.int .u32 m] w fun e w' => e = .returned (.int .u32 (eightN m)) ∧ w = w' := by
  go_enter Try.func26, Try.ntmps26
  go_wp2
  go_loop [0, 4] (EightRel m) (fun _ i => 8 - (intOf i).toNat)
  case atStart => exact ⟨0, by omega, rfl, rfl⟩
  case round =>
    obtain ⟨k, hk, rfl, rfl⟩ := hrel
    have hlt := stN_lt k hm
    have hstep : stN (k + 1) m = st (stN k m) := rfl
    generalize hj : stN k m = j at hlt hstep ⊢
    have HS := Lib.hid hstep
    have HJ := Lib.hid hj
    clear hstep hj
    by_cases h8 : k < 8
    · by_cases hodd : j % 2 = 1
      · have hand : bits .and .u32 (j : Int) 1 = 1 := by
          rw [show (1 : Int) = ((1 : Nat) : Int) from rfl, u32_and_nat _ _ hlt (by omega), nat_mask1, hodd]
        have hx : bits .xor .u32 ((j : Int) / 2) 3988292384 = ((st j : Nat) : Int) := by
          rw [show ((j : Int) / 2) = ((j / 2 : Nat) : Int) by omega, show (3988292384 : Int) = ((3988292384 : Nat) : Int) from rfl, u32_xor_nat _ _ (by omega) (by omega)]
          simp [st, hodd]
        clear hodd
        go_wp2
        go_round
        case rel => exact ⟨k + 1, by omega, by go_num, by rw [HS.out]⟩
        case measure => simp [intOf]; omega
      · have hand : bits .and .u32 (j : Int) 1 = 0 := by
          rw [show (1 : Int) = ((1 : Nat) : Int) from rfl, u32_and_nat _ _ hlt (by omega), nat_mask1]; omega
        have hst : st j = j / 2 := by simp [st, hodd]
        have HT := Lib.hid hst
        clear hodd hst
        go_wp2
        go_round
        case rel => exact ⟨k + 1, by omega, by go_num, by rw [HS.out, HT.out]; go_num⟩
        case measure => simp [intOf]; omega
    · go_wp2
      go_ret
      exact ⟨by obtain rfl : k = 8 := by omega
                rw [← HJ.out]; rfl, rfl⟩

/-- Where bytes stand. -/
def Bytes (hi : Nat) (W : World) (A : Option Addr) (bs : List Int) : Prop :=
  bs ≠ [] → ∃ b o, A = some ⟨b, o, none⟩ ∧ b < hi ∧ ∀ i x, bs[i]? = some x → W.cell? ⟨b, o + i, none⟩ = some (.int .u8 x)
/-- Where lists of bytes stand. -/
def Lists (hi : Nat) (W : World) (A : Option Addr) (ls : List (List Int)) : Prop :=
  ls ≠ [] → ∃ b o, A = some ⟨b, o, none⟩ ∧ b < hi ∧ ∀ i l, ls[i]? = some l → ∃ B c, W.cell? ⟨b, o + i, none⟩ = some (.slice B l.length c) ∧ Bytes hi W B l
def Small (ls : List (List Int)) : Prop := ls.length ≤ 9223372036854775807 ∧ ∀ l ∈ ls, Byte l ∧ l.length ≤ 9223372036854775807
theorem crcN_snoc (n : Nat) (bs : List Int) (k : Nat) (h : k < bs.length) : crcN n (bs.take (k + 1)) = eightN (crcN n (bs.take k) ^^^ (bs[k]).toNat) := by
  rw [List.take_succ_eq_append_getElem h, crcN_append]; rfl
theorem crcL_snoc (n : Nat) (ls : List (List Int)) (k : Nat) (h : k < ls.length) : crcL n (ls.take (k + 1)) = crcN (crcL n (ls.take k)) ls[k] := by
  rw [List.take_succ_eq_append_getElem h, crcL_append]; rfl
theorem u32_not {n : Nat} (h : n < 4294967296) : bits .xor .u32 IntKind.u32.max (n : Int) = ((4294967295 - n : Nat) : Int) := by
  rw [show IntKind.u32.max = ((4294967295 : Nat) : Int) from rfl, u32_xor_nat _ _ (by omega) h, Nat.xor_comm, xor_all h]
theorem u32_not' {n : Nat} (h : n < 4294967296) : bits .xor .u32 (n : Int) 4294967295 = ((4294967295 - n : Nat) : Int) := by
  rw [show (4294967295 : Int) = ((4294967295 : Nat) : Int) from rfl, u32_xor_nat _ _ h (by omega), xor_all h]
def WorkRel (ls : List (List Int)) (n i : Value) : Prop := ∃ k : Nat, k ≤ ls.length ∧ i = .int .i64 k ∧ n = .int .u32 (crcL 4294967295 (ls.take k))
def WorkIn (m : Nat) (bs : List Int) (n i : Value) : Prop := ∃ k : Nat, k ≤ bs.length ∧ i = .int .i64 k ∧ n = .int .u32 (crcN m (bs.take k))
set_option maxHeartbeats 2000000 in
theorem sum_any (hi : Nat) (A : Option Addr) (cap : Nat) (ls : List (List Int)) (w : World) (hR : Lists hi w A ls) (hs : Small ls) :
    Calls Try.prog 14 #[.slice A ls.length cap] w fun e w' => e = .returned (.int .u32 (sumN ls)) ∧ w = w' := by
  obtain ⟨hlen, hb⟩ := hs
  have HR := Lib.hid hR
  have HB := Lib.hid hb
  clear hR hb
  go_enter Try.func14, Try.ntmps14
  go_wp2
  go_loop [3, 10] (WorkRel ls) (fun _ i => ls.length - (intOf i).toNat)
  case atStart => exact ⟨0, Nat.zero_le _, rfl, rfl⟩
  case round =>
    obtain ⟨k, hk, rfl, rfl⟩ := hrel
    have hlt := crcL_lt (n := 4294967295) (ls := ls.take k) (by omega) (fun l hl => (HB.out l (List.mem_of_mem_take hl)).1)
    by_cases hlk : k < ls.length
    · obtain ⟨b, o, rfl, hbh, hrow⟩ := HR.out (by intro e; simp [e] at hlk)
      obtain ⟨B, c, hcell, hbytes⟩ := hrow k ls[k] (List.getElem?_eq_getElem hlk)
      have hbk := HB.out ls[k] (List.getElem_mem hlk)
      have HS := Lib.hid (crcL_snoc 4294967295 ls k hlk)
      generalize hbs : ls[k] = bs at hcell hbytes hbk HS
      generalize hm : crcL 4294967295 (ls.take k) = m at hlt HS ⊢
      have HY := Lib.hid hbytes
      have HK := Lib.hid hbk.1
      obtain ⟨_, hbl⟩ := hbk
      clear hbs hm hrow hbytes
      go_wp2
      go_loop [3, 16] (WorkIn m bs) (fun _ i => bs.length - (intOf i).toNat)
      case atStart => exact ⟨0, Nat.zero_le _, rfl, rfl⟩
      case round =>
        obtain ⟨j, hj, rfl, rfl⟩ := hrel
        have hlt2 := crcN_lt (n := m) (bs := bs.take j) hlt (HK.out.take j)
        by_cases hjl : j < bs.length
        · obtain ⟨b2, o2, rfl, _, hc2⟩ := HY.out (by intro e; simp [e] at hjl)
          have hc3 := hc2 j bs[j] (List.getElem?_eq_getElem hjl)
          have hx := HK.out bs[j] (List.getElem_mem hjl)
          have HS2 := Lib.hid (crcN_snoc m bs j hjl)
          generalize hxx : bs[j] = x at hc3 hx HS2
          generalize hmm : crcN m (bs.take j) = n at hlt2 HS2 ⊢
          clear hc2 hxx hmm
          obtain ⟨x, rfl⟩ : ∃ y : Nat, x = y := ⟨x.toNat, by omega⟩
          have hxor : bits .xor .u32 (n : Int) (x : Int) = ((n ^^^ x : Nat) : Int) := u32_xor_nat _ _ hlt2 (by omega)
          have H8 := Lib.hid (fun W => eight_any (n ^^^ x) W (xor_lt hlt2 (by omega)))
          go_wp2_with (go_at_call 26; refine (H8.out _).mono ?_; rintro e w' ⟨rfl, rfl⟩)
          go_round
          case rel => exact ⟨j + 1, by omega, by go_num, by rw [HS2.out]; rfl⟩
          case measure => simp [intOf]; omega
        · obtain rfl : j = bs.length := by omega
          go_wp2
          go_round
          case rel => exact ⟨k + 1, by omega, by go_num, by rw [HS.out, List.take_length]⟩
          case measure => simp [intOf]; omega
    · obtain rfl : k = ls.length := by omega
      go_wp2
      go_ret
      rw [List.take_length] at hlt
      exact ⟨ret_u32 (by first | (rw [u32_not hlt]; rfl) | (rw [List.take_length, u32_not hlt]; rfl)), rfl⟩
def StepRel (m : Nat) (n i : Value) : Prop := ∃ k : Nat, k ≤ 8 ∧ i = .int .i64 k ∧ n = .int .u32 (stN k m)
set_option maxHeartbeats 4000000 in
theorem rsum_any (hi : Nat) (A : Option Addr) (cap : Nat) (ls : List (List Int)) (w : World) (hR : Lists hi w A ls) (hs : Small ls) :
    Calls Try.prog 15 #[.slice A ls.length cap] w fun e w' => e = .returned (.int .u32 (sumN ls)) ∧ w = w' := by
  obtain ⟨hlen, hb⟩ := hs
  have HR := Lib.hid hR
  have HB := Lib.hid hb
  clear hR hb
  go_enter Try.func15, Try.ntmps15
  go_wp2
  go_loop [3, 4] (WorkRel ls) (fun _ i => ls.length - (intOf i).toNat)
  case atStart => exact ⟨0, Nat.zero_le _, rfl, rfl⟩
  case round =>
    obtain ⟨k, hk, rfl, rfl⟩ := hrel
    have hlt := crcL_lt (n := 4294967295) (ls := ls.take k) (by omega) (fun l hl => (HB.out l (List.mem_of_mem_take hl)).1)
    by_cases hlk : k < ls.length
    · obtain ⟨b, o, rfl, hbh, hrow⟩ := HR.out (by intro e; simp [e] at hlk)
      obtain ⟨B, c, hcell, hbytes⟩ := hrow k ls[k] (List.getElem?_eq_getElem hlk)
      have hbk := HB.out ls[k] (List.getElem_mem hlk)
      have HS := Lib.hid (crcL_snoc 4294967295 ls k hlk)
      generalize hbs : ls[k] = bs at hcell hbytes hbk HS
      generalize hm : crcL 4294967295 (ls.take k) = m at hlt HS ⊢
      have HY := Lib.hid hbytes
      have HK := Lib.hid hbk.1
      obtain ⟨_, hbl⟩ := hbk
      clear hbs hm hrow hbytes
      go_wp2
      go_loop [3, 5] (WorkIn m bs) (fun _ i => bs.length - (intOf i).toNat)
      case atStart => exact ⟨0, Nat.zero_le _, rfl, rfl⟩
      case round =>
        obtain ⟨j, hj, rfl, rfl⟩ := hrel
        have hlt2 := crcN_lt (n := m) (bs := bs.take j) hlt (HK.out.take j)
        by_cases hjl : j < bs.length
        · obtain ⟨b2, o2, rfl, _, hc2⟩ := HY.out (by intro e; simp [e] at hjl)
          have hc3 := hc2 j bs[j] (List.getElem?_eq_getElem hjl)
          have hx := HK.out bs[j] (List.getElem_mem hjl)
          have HS2 := Lib.hid (crcN_snoc m bs j hjl)
          generalize hxx : bs[j] = x at hc3 hx HS2
          generalize hmm : crcN m (bs.take j) = n at hlt2 HS2 ⊢
          clear hc2 hxx hmm
          obtain ⟨x, rfl⟩ : ∃ y : Nat, x = y := ⟨x.toNat, by omega⟩
          have hxor : bits .xor .u32 (n : Int) (x : Int) = ((n ^^^ x : Nat) : Int) := u32_xor_nat _ _ hlt2 (by omega)
          have hlt3 : n ^^^ x < 4294967296 := xor_lt hlt2 (by omega)
          go_wp2
          go_loop [3, 6] (StepRel (n ^^^ x)) (fun _ i => 8 - (intOf i).toNat)
          case atStart => exact ⟨0, by omega, rfl, rfl⟩
          case round =>
            obtain ⟨q, hq, rfl, rfl⟩ := hrel
            have hlt4 := stN_lt q hlt3
            have hstep : stN (q + 1) (n ^^^ x) = st (stN q (n ^^^ x)) := rfl
            have H8 : Hid (q = 8 → eightN (n ^^^ x) = stN q (n ^^^ x)) := Lib.hid (by rintro rfl; rfl)
            clear hxor hlt3
            generalize stN q (n ^^^ x) = z at hlt4 hstep H8 ⊢
            have HZ := Lib.hid hstep
            clear hstep
            by_cases h8 : q < 8
            · by_cases hodd : z % 2 = 1
              · have hand : bits .and .u32 (z : Int) 1 = 1 := by
                  rw [show (1 : Int) = ((1 : Nat) : Int) from rfl, u32_and_nat _ _ hlt4 (by omega), nat_mask1, hodd]
                have hx2 : bits .xor .u32 ((z : Int) / 2) 3988292384 = ((st z : Nat) : Int) := by
                  rw [show ((z : Int) / 2) = ((z / 2 : Nat) : Int) by omega, show (3988292384 : Int) = ((3988292384 : Nat) : Int) from rfl, u32_xor_nat _ _ (by omega) (by omega)]
                  simp [st, hodd]
                clear hodd
                go_wp2
                go_round
                case rel => exact ⟨q + 1, by omega, by go_num, by rw [HZ.out]⟩
                case measure => simp [intOf]; omega
              · have hand : bits .and .u32 (z : Int) 1 = 0 := by
                  rw [show (1 : Int) = ((1 : Nat) : Int) from rfl, u32_and_nat _ _ hlt4 (by omega), nat_mask1]; omega
                have hst : st z = z / 2 := by simp [st, hodd]
                have HT := Lib.hid hst
                clear hodd hst
                go_wp2
                go_round
                case rel => exact ⟨q + 1, by omega, by go_num, by rw [HZ.out, HT.out]; go_num⟩
                case measure => simp [intOf]; omega
            · go_wp2
              go_round
              case rel => exact ⟨j + 1, by omega, by go_num, by rw [HS2.out, show (↑x : Int).toNat = x from rfl, H8.out (by omega)]⟩
              case measure => simp [intOf]; omega
        · obtain rfl : j = bs.length := by omega
          go_wp2
          go_round
          case rel => exact ⟨k + 1, by omega, by go_num, by rw [HS.out, List.take_length]⟩
          case measure => simp [intOf]; omega
    · obtain rfl : k = ls.length := by omega
      go_wp2
      go_ret
      rw [List.take_length] at hlt
      exact ⟨ret_u32 (by first | (rw [u32_not' hlt]; rfl) | (rw [List.take_length, u32_not' hlt]; rfl)), rfl⟩
end Go.Proofs.Ytdagpmmachaeaaa
