/- Texts in one: TextA, TextB. -/
import Derived.Test.YthnljaheplhbkaaDoorCompM
import Derived.Laws.RangeString
import Derived.Laws.RangeAny
import Derived.Lib.RuneCount
import Derived.LoopTactic
import Derived.WalkSmall
import Derived.Test.YthnljaheplhbkaaDoorCompS
/- Len and offset: how many characters, and where one begins. -/
namespace Go.Proofs.YthnljaheplhbkaaDoor
open Go Go.RowKit
set_option linter.unusedVariables false
set_option linter.unusedSimpArgs false

theorem ret_intA {k : IntKind} {a b : Int} (h : a = b) : Ending.returned (.int k a) = .returned (.int k b) := by rw [h]
theorem iter_below (w : World) (s : ByteArray) (pos : Nat) : Below w.heap.size w (w.iter s pos) := by
  show Below w.heap.size w _
  unfold World.iter
  exact (Below.refl _ w).alloc (Nat.le_refl _) _

set_option maxRecDepth 100000 in
set_option maxHeartbeats 2000000 in
theorem text_Len (s : ByteArray) (w : World) (hs : s.size ≤ 9223372036854775807) :
    Calls Tryd.prog 146 #[.string s] w fun e w' => e = .returned (.int .i64 (nChars s)) ∧ Below w.heap.size w w' := by
  obtain ⟨hch, hle⟩ := nChars_chars s
  have HC := Lib.hid hch
  clear hch
  generalize hc : nChars s = c at *
  clear hc
  go_enter Tryd.func146, Tryd.ntmps146
  go_wp2
  go_loopw [3] (fun n w' => ∃ k : Nat, w' = w.iter s (cutS s k) ∧ n = .int .i64 k ∧ k ≤ c) (fun _ w' => s.size - w'.iterPos w.heap.size)
  case atStart => exact ⟨0, rfl, rfl, Nat.zero_le _⟩
  case round =>
    obtain ⟨k, rfl, rfl, hk⟩ := hrel
    by_cases hp : cutS s k < s.size
    · have hkc : k < c := (Chars.iff HC.out).1 hp
      have hnx : ∀ ty, (Instr.next (.pointer (some ⟨w.heap.size, 0, none⟩)) true ty).run Tryd.prog (w.iter s (cutS s k)) = _ := fun ty => run_next_any w s (cutS s k) ty hp
      have hnext : cutS s (k + 1) = cutS s k + (Utf8.decode s (cutS s k)).2 := cut_next hp
      have hwd := Lib.decode_width_pos s (cutS s k) hp
      have HN := Lib.hid hnext
      have HP := Lib.hid hp
      clear hnext
      generalize cutS s k = pos at *
      go_wp2
      go_roundw
      case rel => exact ⟨k + 1, by rw [HN.out], by go_num, hkc⟩
      case measure =>
        simp
        omega
    · have hkc : k = c := by
        have h1 : ¬ k < c := fun h => hp ((Chars.iff HC.out).2 h)
        omega
      have hnx : ∀ ty, (Instr.next (.pointer (some ⟨w.heap.size, 0, none⟩)) true ty).run Tryd.prog (w.iter s (cutS s k)) = _ := fun ty => run_next_end w s (cutS s k) ty hp
      have HK := Lib.hid hkc
      clear hkc
      generalize cutS s k = pos at *
      go_wp2
      go_ret
      exact ⟨ret_intA (by have := HK.out; omega), iter_below w s pos⟩

set_option maxRecDepth 100000 in
set_option maxHeartbeats 2000000 in
theorem text_offset (s : ByteArray) (i : Nat) (w : World) (hs : s.size ≤ 9223372036854775807) (hi : i ≤ 9223372036854775807) :
    Calls Tryd.prog 112 #[.string s, .int .i64 i] w fun e w' => e = .returned (.int .i64 (cutS s i)) ∧ Below w.heap.size w w' := by
  go_enter Tryd.func112, Tryd.ntmps112
  go_wp2
  go_loopw [1, 5] (fun n _ w' => ∃ k : Nat, w' = w.iter s (cutS s k) ∧ k ≤ i ∧ n = .int .i64 ((i - k : Nat) : Int)) (fun _ _ w' => s.size - w'.iterPos w.heap.size)
  case atStart => exact ⟨0, rfl, Nat.zero_le _, rfl⟩
  case round =>
    obtain ⟨k, rfl, hk, rfl⟩ := hrel
    by_cases hp : cutS s k < s.size
    · have hnx : ∀ ty, (Instr.next (.pointer (some ⟨w.heap.size, 0, none⟩)) true ty).run Tryd.prog (w.iter s (cutS s k)) = _ := fun ty => run_next_any w s (cutS s k) ty hp
      have hnext : cutS s (k + 1) = cutS s k + (Utf8.decode s (cutS s k)).2 := cut_next hp
      have hwd := Lib.decode_width_pos s (cutS s k) hp
      have HN := Lib.hid hnext
      clear hnext
      generalize hpos : cutS s k = pos at *
      have HPOS := Lib.hid hpos
      clear hpos
      by_cases hki : k < i
      · obtain ⟨d, hd⟩ : ∃ d, i - k = d + 1 := ⟨i - k - 1, by omega⟩
        rw [hd]
        have HD := Lib.hid (show i - (k + 1) = d by omega)
        have hz : (((d + 1 : Nat) : Int) == 0) = false := by simp; omega
        have hd9 : d ≤ 9223372036854775806 := by omega
        clear hd
        go_wp2
        go_roundw
        case rel => exact ⟨k + 1, by rw [HN.out], hki, by rw [HD.out] <;> go_num⟩
        case measure =>
          simp
          omega
      · have hik : i - k = 0 := by omega
        have HK := Lib.hid (show k = i by omega)
        rw [hik]
        clear hki hik hk
        go_wp2
        go_ret
        exact ⟨ret_intA (by have h1 := HPOS.out; have h2 := HK.out; subst h2; omega), iter_below w s _⟩
    · have hend : cutS s i = s.size := by
        have h1 : cutS s k = s.size := by have := cutS_le s k; omega
        obtain ⟨j, rfl⟩ := Nat.exists_eq_add_of_le hk
        exact cut_end h1 j
      have hnx : ∀ ty, (Instr.next (.pointer (some ⟨w.heap.size, 0, none⟩)) true ty).run Tryd.prog (w.iter s (cutS s k)) = _ := fun ty => run_next_end w s (cutS s k) ty hp
      have HE := Lib.hid hend
      clear hend
      generalize cutS s k = pos at *
      go_wp2
      go_ret
      exact ⟨ret_intA (by have := HE.out; omega), iter_below w s pos⟩
end Go.Proofs.YthnljaheplhbkaaDoor

/- Check of a text. -/
namespace Go.Proofs.YthnljaheplhbkaaDoor
open Go Go.RowKit
set_option linter.unusedVariables false
set_option linter.unusedSimpArgs false

def chkN (c : Nat) (k i n : Int) : Int := chkT c k.toNat i n

set_option maxRecDepth 100000 in
set_option maxHeartbeats 2000000 in
theorem check_ins_ok (s : ByteArray) (c : GC) (A AL AO : Option Addr) (cp cL cO : Nat) (w : World) (hs : s.size ≤ 9223372036854775807) (hk : c.kind = 8) (h0 : ¬ c.i < 0) (h1 : ¬ (nChars s : Int) < c.i) :
    Calls Tryd.prog 107 #[.string s, .agg #[.int .u8 c.kind, .slice A c.path.length cp, .string c.key, .int .i64 c.i, .int .i64 c.j, .int .i64 c.n, .int .u8 c.v.kind, .int .i64 c.v.num, .string c.v.str, .slice AL c.v.items.length cL, .slice AO c.v.vals.length cO, .string c.s]] w fun e w' => e = .returned (.int .u16 (chkT (nChars s) c.kind.toNat c.i c.n)) ∧ Below w.heap.size w w' := by
  have HL := Lib.hid (fun W => text_Len s W hs)
  have hle : nChars s ≤ 9223372036854775807 := Nat.le_trans (nChars_chars s).2 hs
  have H0 := Lib.hid (Whole.new w 34 #[.int .u8 c.kind, .slice A c.path.length cp, .string c.key, .int .i64 c.i, .int .i64 c.j, .int .i64 c.n, .int .u8 c.v.kind, .int .i64 c.v.num, .string c.v.str, .slice AL c.v.items.length cL, .slice AO c.v.vals.length cO, .string c.s])
  have HB := Lib.hid (below_alloc w (.cells #[.int .u8 c.kind, .slice A c.path.length cp, .string c.key, .int .i64 c.i, .int .i64 c.j, .int .i64 c.n, .int .u8 c.v.kind, .int .i64 c.v.num, .string c.v.str, .slice AL c.v.items.length cL, .slice AO c.v.vals.length cO, .string c.s] 34))
  have hk8 : (c.kind != 8) = false := by simp; omega
  have hk9 : (c.kind == 9) = false := by simp; omega
  have HR := Lib.hid (show chkT (nChars s) c.kind.toNat c.i c.n = 0 by unfold chkT; rw [show c.kind.toNat = 8 by omega]; simp; omega)
  have HK := Lib.hid hk
  clear hk
  rw [HR.out]
  generalize nChars s = m at *
  go_enter Tryd.func107, Tryd.ntmps107
  go_wp2_with (go_at_call 146; refine (HL.out _).mono ?_; rintro e w1 ⟨rfl, hb⟩; have H1 := Lib.hid (H0.out.below hb (by simp)); have HB1 := Lib.hid (HB.out.trans (hb.mono (by simp))); obtain ⟨c0, c1, c2, c3, c4, c5, c6, c7, c8, c9, c10, c11, _⟩ := H1.out.tw; clear hb)
  go_ret
  exact ⟨HR.out ▸ rfl, HB1.out⟩

set_option maxRecDepth 100000 in
set_option maxHeartbeats 2000000 in
theorem check_ins_low (s : ByteArray) (c : GC) (A AL AO : Option Addr) (cp cL cO : Nat) (w : World) (hs : s.size ≤ 9223372036854775807) (hk : c.kind = 8) (h0 : c.i < 0) :
    Calls Tryd.prog 107 #[.string s, .agg #[.int .u8 c.kind, .slice A c.path.length cp, .string c.key, .int .i64 c.i, .int .i64 c.j, .int .i64 c.n, .int .u8 c.v.kind, .int .i64 c.v.num, .string c.v.str, .slice AL c.v.items.length cL, .slice AO c.v.vals.length cO, .string c.s]] w fun e w' => e = .returned (.int .u16 (chkT (nChars s) c.kind.toNat c.i c.n)) ∧ Below w.heap.size w w' := by
  have HL := Lib.hid (fun W => text_Len s W hs)
  have hle : nChars s ≤ 9223372036854775807 := Nat.le_trans (nChars_chars s).2 hs
  have H0 := Lib.hid (Whole.new w 34 #[.int .u8 c.kind, .slice A c.path.length cp, .string c.key, .int .i64 c.i, .int .i64 c.j, .int .i64 c.n, .int .u8 c.v.kind, .int .i64 c.v.num, .string c.v.str, .slice AL c.v.items.length cL, .slice AO c.v.vals.length cO, .string c.s])
  have HB := Lib.hid (below_alloc w (.cells #[.int .u8 c.kind, .slice A c.path.length cp, .string c.key, .int .i64 c.i, .int .i64 c.j, .int .i64 c.n, .int .u8 c.v.kind, .int .i64 c.v.num, .string c.v.str, .slice AL c.v.items.length cL, .slice AO c.v.vals.length cO, .string c.s] 34))
  have hk8 : (c.kind != 8) = false := by simp; omega
  have hk9 : (c.kind == 9) = false := by simp; omega
  have HR := Lib.hid (show chkT (nChars s) c.kind.toNat c.i c.n = 32 by unfold chkT; rw [show c.kind.toNat = 8 by omega]; simp; omega)
  have HK := Lib.hid hk
  clear hk
  rw [HR.out]
  generalize nChars s = m at *
  go_enter Tryd.func107, Tryd.ntmps107
  go_wp2_with (go_at_call 146; refine (HL.out _).mono ?_; rintro e w1 ⟨rfl, hb⟩; have H1 := Lib.hid (H0.out.below hb (by simp)); have HB1 := Lib.hid (HB.out.trans (hb.mono (by simp))); obtain ⟨c0, c1, c2, c3, c4, c5, c6, c7, c8, c9, c10, c11, _⟩ := H1.out.tw; clear hb)
  go_ret
  exact ⟨HR.out ▸ rfl, HB1.out⟩

set_option maxRecDepth 100000 in
set_option maxHeartbeats 2000000 in
theorem check_ins_high (s : ByteArray) (c : GC) (A AL AO : Option Addr) (cp cL cO : Nat) (w : World) (hs : s.size ≤ 9223372036854775807) (hk : c.kind = 8) (h0 : ¬ c.i < 0) (h1 : (nChars s : Int) < c.i) :
    Calls Tryd.prog 107 #[.string s, .agg #[.int .u8 c.kind, .slice A c.path.length cp, .string c.key, .int .i64 c.i, .int .i64 c.j, .int .i64 c.n, .int .u8 c.v.kind, .int .i64 c.v.num, .string c.v.str, .slice AL c.v.items.length cL, .slice AO c.v.vals.length cO, .string c.s]] w fun e w' => e = .returned (.int .u16 (chkT (nChars s) c.kind.toNat c.i c.n)) ∧ Below w.heap.size w w' := by
  have HL := Lib.hid (fun W => text_Len s W hs)
  have hle : nChars s ≤ 9223372036854775807 := Nat.le_trans (nChars_chars s).2 hs
  have H0 := Lib.hid (Whole.new w 34 #[.int .u8 c.kind, .slice A c.path.length cp, .string c.key, .int .i64 c.i, .int .i64 c.j, .int .i64 c.n, .int .u8 c.v.kind, .int .i64 c.v.num, .string c.v.str, .slice AL c.v.items.length cL, .slice AO c.v.vals.length cO, .string c.s])
  have HB := Lib.hid (below_alloc w (.cells #[.int .u8 c.kind, .slice A c.path.length cp, .string c.key, .int .i64 c.i, .int .i64 c.j, .int .i64 c.n, .int .u8 c.v.kind, .int .i64 c.v.num, .string c.v.str, .slice AL c.v.items.length cL, .slice AO c.v.vals.length cO, .string c.s] 34))
  have hk8 : (c.kind != 8) = false := by simp; omega
  have hk9 : (c.kind == 9) = false := by simp; omega
  have HR := Lib.hid (show chkT (nChars s) c.kind.toNat c.i c.n = 32 by unfold chkT; rw [show c.kind.toNat = 8 by omega]; simp; omega)
  have HK := Lib.hid hk
  clear hk
  rw [HR.out]
  generalize nChars s = m at *
  go_enter Tryd.func107, Tryd.ntmps107
  go_wp2_with (go_at_call 146; refine (HL.out _).mono ?_; rintro e w1 ⟨rfl, hb⟩; have H1 := Lib.hid (H0.out.below hb (by simp)); have HB1 := Lib.hid (HB.out.trans (hb.mono (by simp))); obtain ⟨c0, c1, c2, c3, c4, c5, c6, c7, c8, c9, c10, c11, _⟩ := H1.out.tw; clear hb)
  go_ret
  exact ⟨HR.out ▸ rfl, HB1.out⟩

set_option maxRecDepth 100000 in
set_option maxHeartbeats 2000000 in
theorem check_del_low (s : ByteArray) (c : GC) (A AL AO : Option Addr) (cp cL cO : Nat) (w : World) (hs : s.size ≤ 9223372036854775807) (hk : c.kind = 9) (h0 : c.i < 0) :
    Calls Tryd.prog 107 #[.string s, .agg #[.int .u8 c.kind, .slice A c.path.length cp, .string c.key, .int .i64 c.i, .int .i64 c.j, .int .i64 c.n, .int .u8 c.v.kind, .int .i64 c.v.num, .string c.v.str, .slice AL c.v.items.length cL, .slice AO c.v.vals.length cO, .string c.s]] w fun e w' => e = .returned (.int .u16 (chkT (nChars s) c.kind.toNat c.i c.n)) ∧ Below w.heap.size w w' := by
  have HL := Lib.hid (fun W => text_Len s W hs)
  have hle : nChars s ≤ 9223372036854775807 := Nat.le_trans (nChars_chars s).2 hs
  have H0 := Lib.hid (Whole.new w 34 #[.int .u8 c.kind, .slice A c.path.length cp, .string c.key, .int .i64 c.i, .int .i64 c.j, .int .i64 c.n, .int .u8 c.v.kind, .int .i64 c.v.num, .string c.v.str, .slice AL c.v.items.length cL, .slice AO c.v.vals.length cO, .string c.s])
  have HB := Lib.hid (below_alloc w (.cells #[.int .u8 c.kind, .slice A c.path.length cp, .string c.key, .int .i64 c.i, .int .i64 c.j, .int .i64 c.n, .int .u8 c.v.kind, .int .i64 c.v.num, .string c.v.str, .slice AL c.v.items.length cL, .slice AO c.v.vals.length cO, .string c.s] 34))
  have hk8 : (c.kind != 8) = true := by simp; omega
  have hk9n : (c.kind != 9) = false := by simp; omega
  have hk9 : (c.kind == 9) = true := by simp; omega
  have HR := Lib.hid (show chkT (nChars s) c.kind.toNat c.i c.n = 32 by unfold chkT; rw [show c.kind.toNat = 9 by omega]; simp; omega)
  have HK := Lib.hid hk
  clear hk
  rw [HR.out]
  generalize nChars s = m at *
  go_enter Tryd.func107, Tryd.ntmps107
  go_wp2_with (go_at_call 146; refine (HL.out _).mono ?_; rintro e w1 ⟨rfl, hb⟩; have H1 := Lib.hid (H0.out.below hb (by simp)); have HB1 := Lib.hid (HB.out.trans (hb.mono (by simp))); obtain ⟨c0, c1, c2, c3, c4, c5, c6, c7, c8, c9, c10, c11, _⟩ := H1.out.tw; clear hb)
  go_ret
  exact ⟨HR.out ▸ rfl, HB1.out⟩

set_option maxRecDepth 100000 in
set_option maxHeartbeats 2000000 in
theorem check_del_high (s : ByteArray) (c : GC) (A AL AO : Option Addr) (cp cL cO : Nat) (w : World) (hs : s.size ≤ 9223372036854775807) (hk : c.kind = 9) (h0 : ¬ c.i < 0) (h1 : (nChars s : Int) < c.i) :
    Calls Tryd.prog 107 #[.string s, .agg #[.int .u8 c.kind, .slice A c.path.length cp, .string c.key, .int .i64 c.i, .int .i64 c.j, .int .i64 c.n, .int .u8 c.v.kind, .int .i64 c.v.num, .string c.v.str, .slice AL c.v.items.length cL, .slice AO c.v.vals.length cO, .string c.s]] w fun e w' => e = .returned (.int .u16 (chkT (nChars s) c.kind.toNat c.i c.n)) ∧ Below w.heap.size w w' := by
  have HL := Lib.hid (fun W => text_Len s W hs)
  have hle : nChars s ≤ 9223372036854775807 := Nat.le_trans (nChars_chars s).2 hs
  have H0 := Lib.hid (Whole.new w 34 #[.int .u8 c.kind, .slice A c.path.length cp, .string c.key, .int .i64 c.i, .int .i64 c.j, .int .i64 c.n, .int .u8 c.v.kind, .int .i64 c.v.num, .string c.v.str, .slice AL c.v.items.length cL, .slice AO c.v.vals.length cO, .string c.s])
  have HB := Lib.hid (below_alloc w (.cells #[.int .u8 c.kind, .slice A c.path.length cp, .string c.key, .int .i64 c.i, .int .i64 c.j, .int .i64 c.n, .int .u8 c.v.kind, .int .i64 c.v.num, .string c.v.str, .slice AL c.v.items.length cL, .slice AO c.v.vals.length cO, .string c.s] 34))
  have hk8 : (c.kind != 8) = true := by simp; omega
  have hk9n : (c.kind != 9) = false := by simp; omega
  have hk9 : (c.kind == 9) = true := by simp; omega
  have HR := Lib.hid (show chkT (nChars s) c.kind.toNat c.i c.n = 32 by unfold chkT; rw [show c.kind.toNat = 9 by omega]; simp; omega)
  have HK := Lib.hid hk
  clear hk
  rw [HR.out]
  generalize nChars s = m at *
  go_enter Tryd.func107, Tryd.ntmps107
  go_wp2_with (go_at_call 146; refine (HL.out _).mono ?_; rintro e w1 ⟨rfl, hb⟩; have H1 := Lib.hid (H0.out.below hb (by simp)); have HB1 := Lib.hid (HB.out.trans (hb.mono (by simp))); obtain ⟨c0, c1, c2, c3, c4, c5, c6, c7, c8, c9, c10, c11, _⟩ := H1.out.tw; clear hb)
  go_ret
  exact ⟨HR.out ▸ rfl, HB1.out⟩

set_option maxRecDepth 100000 in
set_option maxHeartbeats 2000000 in
theorem check_del_none (s : ByteArray) (c : GC) (A AL AO : Option Addr) (cp cL cO : Nat) (w : World) (hs : s.size ≤ 9223372036854775807) (hk : c.kind = 9) (h0 : ¬ c.i < 0) (h1 : ¬ (nChars s : Int) < c.i) (h2 : c.n < 1) :
    Calls Tryd.prog 107 #[.string s, .agg #[.int .u8 c.kind, .slice A c.path.length cp, .string c.key, .int .i64 c.i, .int .i64 c.j, .int .i64 c.n, .int .u8 c.v.kind, .int .i64 c.v.num, .string c.v.str, .slice AL c.v.items.length cL, .slice AO c.v.vals.length cO, .string c.s]] w fun e w' => e = .returned (.int .u16 (chkT (nChars s) c.kind.toNat c.i c.n)) ∧ Below w.heap.size w w' := by
  have HL := Lib.hid (fun W => text_Len s W hs)
  have hle : nChars s ≤ 9223372036854775807 := Nat.le_trans (nChars_chars s).2 hs
  have H0 := Lib.hid (Whole.new w 34 #[.int .u8 c.kind, .slice A c.path.length cp, .string c.key, .int .i64 c.i, .int .i64 c.j, .int .i64 c.n, .int .u8 c.v.kind, .int .i64 c.v.num, .string c.v.str, .slice AL c.v.items.length cL, .slice AO c.v.vals.length cO, .string c.s])
  have HB := Lib.hid (below_alloc w (.cells #[.int .u8 c.kind, .slice A c.path.length cp, .string c.key, .int .i64 c.i, .int .i64 c.j, .int .i64 c.n, .int .u8 c.v.kind, .int .i64 c.v.num, .string c.v.str, .slice AL c.v.items.length cL, .slice AO c.v.vals.length cO, .string c.s] 34))
  have hk8 : (c.kind != 8) = true := by simp; omega
  have hk9n : (c.kind != 9) = false := by simp; omega
  have hk9 : (c.kind == 9) = true := by simp; omega
  have HR := Lib.hid (show chkT (nChars s) c.kind.toNat c.i c.n = 32 by unfold chkT; rw [show c.kind.toNat = 9 by omega]; simp; omega)
  have HK := Lib.hid hk
  clear hk
  rw [HR.out]
  generalize nChars s = m at *
  go_enter Tryd.func107, Tryd.ntmps107
  go_wp2_with (go_at_call 146; refine (HL.out _).mono ?_; rintro e w1 ⟨rfl, hb⟩; have H1 := Lib.hid (H0.out.below hb (by simp)); have HB1 := Lib.hid (HB.out.trans (hb.mono (by simp))); obtain ⟨c0, c1, c2, c3, c4, c5, c6, c7, c8, c9, c10, c11, _⟩ := H1.out.tw; clear hb)
  go_ret
  exact ⟨HR.out ▸ rfl, HB1.out⟩

set_option maxRecDepth 100000 in
set_option maxHeartbeats 2000000 in
theorem check_del_many (s : ByteArray) (c : GC) (A AL AO : Option Addr) (cp cL cO : Nat) (w : World) (hs : s.size ≤ 9223372036854775807) (hk : c.kind = 9) (h0 : ¬ c.i < 0) (h1 : ¬ (nChars s : Int) < c.i) (h2 : ¬ c.n < 1) (h3 : (nChars s : Int) - c.i < c.n) :
    Calls Tryd.prog 107 #[.string s, .agg #[.int .u8 c.kind, .slice A c.path.length cp, .string c.key, .int .i64 c.i, .int .i64 c.j, .int .i64 c.n, .int .u8 c.v.kind, .int .i64 c.v.num, .string c.v.str, .slice AL c.v.items.length cL, .slice AO c.v.vals.length cO, .string c.s]] w fun e w' => e = .returned (.int .u16 (chkT (nChars s) c.kind.toNat c.i c.n)) ∧ Below w.heap.size w w' := by
  have HL := Lib.hid (fun W => text_Len s W hs)
  have hle : nChars s ≤ 9223372036854775807 := Nat.le_trans (nChars_chars s).2 hs
  have H0 := Lib.hid (Whole.new w 34 #[.int .u8 c.kind, .slice A c.path.length cp, .string c.key, .int .i64 c.i, .int .i64 c.j, .int .i64 c.n, .int .u8 c.v.kind, .int .i64 c.v.num, .string c.v.str, .slice AL c.v.items.length cL, .slice AO c.v.vals.length cO, .string c.s])
  have HB := Lib.hid (below_alloc w (.cells #[.int .u8 c.kind, .slice A c.path.length cp, .string c.key, .int .i64 c.i, .int .i64 c.j, .int .i64 c.n, .int .u8 c.v.kind, .int .i64 c.v.num, .string c.v.str, .slice AL c.v.items.length cL, .slice AO c.v.vals.length cO, .string c.s] 34))
  have hk8 : (c.kind != 8) = true := by simp; omega
  have hk9n : (c.kind != 9) = false := by simp; omega
  have hk9 : (c.kind == 9) = true := by simp; omega
  have HR := Lib.hid (show chkT (nChars s) c.kind.toNat c.i c.n = 32 by unfold chkT; rw [show c.kind.toNat = 9 by omega]; simp; omega)
  have HK := Lib.hid hk
  clear hk
  rw [HR.out]
  generalize nChars s = m at *
  go_enter Tryd.func107, Tryd.ntmps107
  go_wp2_with (go_at_call 146; refine (HL.out _).mono ?_; rintro e w1 ⟨rfl, hb⟩; have H1 := Lib.hid (H0.out.below hb (by simp)); have HB1 := Lib.hid (HB.out.trans (hb.mono (by simp))); obtain ⟨c0, c1, c2, c3, c4, c5, c6, c7, c8, c9, c10, c11, _⟩ := H1.out.tw; clear hb)
  go_ret
  exact ⟨HR.out ▸ rfl, HB1.out⟩

set_option maxRecDepth 100000 in
set_option maxHeartbeats 2000000 in
theorem check_del_ok (s : ByteArray) (c : GC) (A AL AO : Option Addr) (cp cL cO : Nat) (w : World) (hs : s.size ≤ 9223372036854775807) (hk : c.kind = 9) (h0 : ¬ c.i < 0) (h1 : ¬ (nChars s : Int) < c.i) (h2 : ¬ c.n < 1) (h3 : ¬ (nChars s : Int) - c.i < c.n) :
    Calls Tryd.prog 107 #[.string s, .agg #[.int .u8 c.kind, .slice A c.path.length cp, .string c.key, .int .i64 c.i, .int .i64 c.j, .int .i64 c.n, .int .u8 c.v.kind, .int .i64 c.v.num, .string c.v.str, .slice AL c.v.items.length cL, .slice AO c.v.vals.length cO, .string c.s]] w fun e w' => e = .returned (.int .u16 (chkT (nChars s) c.kind.toNat c.i c.n)) ∧ Below w.heap.size w w' := by
  have HL := Lib.hid (fun W => text_Len s W hs)
  have hle : nChars s ≤ 9223372036854775807 := Nat.le_trans (nChars_chars s).2 hs
  have H0 := Lib.hid (Whole.new w 34 #[.int .u8 c.kind, .slice A c.path.length cp, .string c.key, .int .i64 c.i, .int .i64 c.j, .int .i64 c.n, .int .u8 c.v.kind, .int .i64 c.v.num, .string c.v.str, .slice AL c.v.items.length cL, .slice AO c.v.vals.length cO, .string c.s])
  have HB := Lib.hid (below_alloc w (.cells #[.int .u8 c.kind, .slice A c.path.length cp, .string c.key, .int .i64 c.i, .int .i64 c.j, .int .i64 c.n, .int .u8 c.v.kind, .int .i64 c.v.num, .string c.v.str, .slice AL c.v.items.length cL, .slice AO c.v.vals.length cO, .string c.s] 34))
  have hk8 : (c.kind != 8) = true := by simp; omega
  have hk9n : (c.kind != 9) = false := by simp; omega
  have hk9 : (c.kind == 9) = true := by simp; omega
  have HR := Lib.hid (show chkT (nChars s) c.kind.toNat c.i c.n = 0 by unfold chkT; rw [show c.kind.toNat = 9 by omega]; simp; omega)
  have HK := Lib.hid hk
  clear hk
  rw [HR.out]
  generalize nChars s = m at *
  go_enter Tryd.func107, Tryd.ntmps107
  go_wp2_with (go_at_call 146; refine (HL.out _).mono ?_; rintro e w1 ⟨rfl, hb⟩; have H1 := Lib.hid (H0.out.below hb (by simp)); have HB1 := Lib.hid (HB.out.trans (hb.mono (by simp))); obtain ⟨c0, c1, c2, c3, c4, c5, c6, c7, c8, c9, c10, c11, _⟩ := H1.out.tw; clear hb)
  go_ret
  exact ⟨HR.out ▸ rfl, HB1.out⟩

theorem text_Check (s : ByteArray) (c : GC) (A AL AO : Option Addr) (cp cL cO : Nat) (w : World) (hs : s.size ≤ 9223372036854775807) (hk : c.kind = 8 ∨ c.kind = 9) :
    Calls Tryd.prog 107 #[.string s, .agg #[.int .u8 c.kind, .slice A c.path.length cp, .string c.key, .int .i64 c.i, .int .i64 c.j, .int .i64 c.n, .int .u8 c.v.kind, .int .i64 c.v.num, .string c.v.str, .slice AL c.v.items.length cL, .slice AO c.v.vals.length cO, .string c.s]] w fun e w' => e = .returned (.int .u16 (chkT (nChars s) c.kind.toNat c.i c.n)) ∧ Below w.heap.size w w' := by
  rcases hk with hk | hk
  · by_cases h0 : c.i < 0
    · exact check_ins_low s c A AL AO cp cL cO w hs hk h0
    · by_cases h1 : (nChars s : Int) < c.i
      · exact check_ins_high s c A AL AO cp cL cO w hs hk h0 h1
      · exact check_ins_ok s c A AL AO cp cL cO w hs hk h0 h1
  · by_cases h0 : c.i < 0
    · exact check_del_low s c A AL AO cp cL cO w hs hk h0
    · by_cases h1 : (nChars s : Int) < c.i
      · exact check_del_high s c A AL AO cp cL cO w hs hk h0 h1
      · by_cases h2 : c.n < 1
        · exact check_del_none s c A AL AO cp cL cO w hs hk h0 h1 h2
        · by_cases h3 : (nChars s : Int) - c.i < c.n
          · exact check_del_many s c A AL AO cp cL cO w hs hk h0 h1 h2 h3
          · exact check_del_ok s c A AL AO cp cL cO w hs hk h0 h1 h2 h3
end Go.Proofs.YthnljaheplhbkaaDoor
