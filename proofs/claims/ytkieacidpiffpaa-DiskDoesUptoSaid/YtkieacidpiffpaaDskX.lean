/- The document's own disk: find, call, Used, Halted, New, Full, Halt. -/
import Derived.Test.YtkieacidpiffpaaDskW
namespace Go.Proofs.Ytkieacidpiffpaa
open Go Go.RowKit Go.Shelf
set_option linter.unusedVariables false
set_option linter.unusedSimpArgs false

theorem rvs_get {fs : List Rf} {i : Nat} {f : Rf} (h : fs[i]? = some f) : (rvs fs)[i]? = some f.vw := by unfold rvs; rw [List.getElem?_map, h]; rfl
theorem rvs_got {fs : List Rf} {i : Nat} {v : Vw} (h : (rvs fs)[i]? = some v) : ∃ f, fs[i]? = some f ∧ f.vw = v := by
  unfold rvs at h; rw [List.getElem?_map] at h
  cases hf : fs[i]? with
  | none => rw [hf] at h; cases h
  | some f => rw [hf] at h; exact ⟨f, rfl, by simpa using h⟩
theorem name_beq (a b : ByteArray) : (a.toList == b.toList) = decide (a = b) := by
  rw [ByteArray.toList_eq, ByteArray.toList_eq, Bool.eq_iff_iff]
  simp only [beq_iff_eq, decide_eq_true_eq]
  constructor
  · intro h
    cases a; cases b
    exact congrArg ByteArray.mk (Array.toList_inj.1 h)
  · intro h; rw [h]
set_option maxHeartbeats 1000000 in
theorem rfind_any {w : World} {r : Rk} (h : RkAt w r) (s : ByteArray) : Calls Try.prog 57 #[.pointer (some ⟨r.B, 0, none⟩), .string s] w fun e w' => e = .returned (.int .i64 (idxI (idxR (rvs r.fs) s))) ∧ w' = w := by
  obtain ⟨A, c, hF, c0, c1, c2, c3, c4, cf⟩ := h.shape
  have H := Lib.hid h
  have hm := h.many
  obtain ⟨n, hn⟩ : ∃ n, n = r.fs.length := ⟨_, rfl⟩
  rw [← hn] at c1 hm
  have HN := Lib.hid hn
  clear c0 c2 c3 c4 cf h hF hn
  go_enter Try.func57, Try.ntmps57
  go_wp2
  go_loopw [5] (fun i W => ∃ k : Nat, k ≤ n ∧ i = .int .i64 k ∧ W = w ∧ ∀ j f, j < k → (rvs r.fs)[j]? = some f → f.name ≠ s) (fun i _ => n - (intOf i).toNat)
  case atStart => exact ⟨0, Nat.zero_le _, rfl, rfl, fun j f hj => by omega⟩
  case round =>
    obtain ⟨k, hk, rfl, rfl, hnone⟩ := hrel
    have HZ := Lib.hid hnone
    clear hnone
    by_cases hlt : k < n
    · have hks : k < r.fs.length := by have := HN.out; omega
      obtain ⟨f, hf⟩ : ∃ f, r.fs[k]? = some f := ⟨_, List.getElem?_eq_getElem hks⟩
      obtain ⟨g, c', hF, d1, f0, f1, f2, ff, hg⟩ := H.out.file hf
      rw [← HN.out, c1] at d1
      simp only [Option.some.injEq, Value.slice.injEq] at d1
      obtain ⟨rfl, _, rfl⟩ := d1
      have HF := Lib.hid hf
      clear hF f1 f2 ff hg hks hf
      by_cases he : f.vw.name = s
      · have HR := Lib.hid (idxR_at (s := s) HZ.out ⟨f.vw, rvs_get HF.out, he⟩)
        have hd : (f.vw.name.toList == s.toList) = true := by rw [name_beq]; exact decide_eq_true he
        clear he
        go_wp2
        go_ret
        rw [HR.out]
        exact ⟨rfl, rfl⟩
      · have HE := Lib.hid he
        have hd : (f.vw.name.toList == s.toList) = false := by rw [name_beq]; exact decide_eq_false he
        clear he
        go_wp2
        go_roundw
        case rel =>
          refine ⟨k + 1, by omega, by go_num, by first | rfl | trivial, fun j f2 hj hf2 => ?_⟩
          by_cases e : j = k
          · subst e
            rw [rvs_get HF.out] at hf2; cases hf2
            exact HE.out
          · exact HZ.out j f2 (by omega) hf2
        case measure => simp [intOf]; omega
    · obtain rfl : k = n := by omega
      have HR := Lib.hid (idxR_none (s := s) (fs := rvs r.fs) (fun j f hf => HZ.out j f (by have h1 := (List.getElem?_eq_some_iff.1 hf).1; have h2 := HN.out; unfold rvs at h1; rw [List.length_map] at h1; omega) hf))
      clear hlt hk
      go_wp2
      go_ret
      rw [HR.out]
      exact ⟨rfl, rfl⟩
def Rk.tick (r : Rk) : Rk := if r.left = 0 then { r with dead := true } else if 0 < r.left then { r with left := r.left - 1 } else r
def Rm.tick (m : Rm) : Rm := if m.left = 0 then { m with dead := true } else if 0 < m.left then { m with left := m.left - 1 } else m
theorem tick_rm (r : Rk) : r.tick.rm = r.rm.tick := by
  unfold Rk.tick Rm.tick
  show _ = if r.left = 0 then _ else if 0 < r.left then _ else _
  split
  · rfl
  · split <;> rfl
theorem tick_parts (r : Rk) : r.tick.B = r.B ∧ r.tick.F = r.F ∧ r.tick.fs = r.fs ∧ r.tick.own = r.own ∧ r.tick.room = r.room ∧ r.tick.on = r.on := by
  unfold Rk.tick
  split
  · exact ⟨rfl, rfl, rfl, rfl, rfl, rfl⟩
  · split <;> exact ⟨rfl, rfl, rfl, rfl, rfl, rfl⟩
set_option maxHeartbeats 1000000 in
theorem rcall_any {w : World} {r : Rk} (h : RkAt w r) : Calls Try.prog 56 #[.pointer (some ⟨r.B, 0, none⟩)] w fun e w' => e = .returned (.bool (decide (r.left ≠ 0))) ∧ RkAt w' r.tick ∧ Kp r.own w w' := by
  obtain ⟨A, c, hF, c0, c1, c2, c3, c4, cf⟩ := h.shape
  have f3 := cf 3
  have f4 := cf 4
  have hl := h.left
  have H := Lib.hid h
  clear c0 c1 c2 cf h hF
  by_cases h0 : r.left = 0
  · have hd : (r.left == 0) = true := by simpa using h0
    have HR : Hid (RkAt (w.setCell ⟨r.B, 4, none⟩ (.bool true)) r.tick ∧ Kp r.own w (w.setCell ⟨r.B, 4, none⟩ (.bool true))) := Lib.hid (by
      have := H.out.put r.on r.left true hl (i := 4) (u := .bool true) rfl
      unfold Rk.tick; rw [if_pos h0]
      exact ⟨this, Kp.setCell _ _ _ (.inl (.inl rfl))⟩)
    have HD := Lib.hid (show decide (r.left ≠ 0) = false from decide_eq_false (by simpa using h0))
    clear h0 hl
    go_enter Try.func56, Try.ntmps56
    go_wp2
    go_ret
    rw [HD.out]
    exact ⟨rfl, HR.out⟩
  · have hd : (r.left == 0) = false := by simpa using h0
    have HD := Lib.hid (show decide (r.left ≠ 0) = true from decide_eq_true (by simpa using h0))
    by_cases h1 : 0 < r.left
    · have hp : decide (0 < r.left) = true := decide_eq_true h1
      have HR : Hid (RkAt (w.setCell ⟨r.B, 3, none⟩ (.int .i64 (r.left - 1))) r.tick ∧ Kp r.own w (w.setCell ⟨r.B, 3, none⟩ (.int .i64 (r.left - 1)))) := Lib.hid (by
        have := H.out.put r.on (r.left - 1) r.dead (by omega) (i := 3) (u := .int .i64 (r.left - 1)) rfl
        unfold Rk.tick; rw [if_neg h0, if_pos h1]
        exact ⟨this, Kp.setCell _ _ _ (.inl (.inl rfl))⟩)
      have hw : IntKind.i64.wrap (r.left - 1) = r.left - 1 := by rw [IntKind.wrap_i64]; omega
      clear h0 h1 hl
      go_enter Try.func56, Try.ntmps56
      go_wp2
      go_ret
      rw [HD.out]
      exact ⟨rfl, HR.out⟩
    · have hp : decide (0 < r.left) = false := decide_eq_false h1
      have HR : Hid (RkAt w r.tick) := Lib.hid (by
        unfold Rk.tick; rw [if_neg h0, if_neg h1]; exact H.out)
      clear h0 h1 hl
      go_enter Try.func56, Try.ntmps56
      go_wp2
      go_ret
      rw [HD.out]
      exact ⟨rfl, HR.out, Kp.refl _ _⟩
theorem sizes_take {fs : List Vw} {k : Nat} {f : Vw} (h : fs[k]? = some f) : sizes (fs.take (k + 1)) = sizes (fs.take k) + f.has.length := by
  rw [List.take_add_one, h, sizes_append]; simp [sizes]
theorem sizes_take_le (fs : List Vw) (k : Nat) : sizes (fs.take k) ≤ sizes fs := by
  conv => rhs; rw [← List.take_append_drop k fs, sizes_append]
  omega
set_option maxHeartbeats 1000000 in
theorem rused_any {w : World} {r : Rk} (h : RkAt w r) : Calls Try.prog 47 #[.pointer (some ⟨r.B, 0, none⟩)] w fun e w' => e = .returned (.int .i64 (sizes (rvs r.fs) : Nat)) ∧ w' = w := by
  obtain ⟨A, c, hF, c0, c1, c2, c3, c4, cf⟩ := h.shape
  have H := Lib.hid h
  have hm := h.many
  have hu := h.used
  have hr := h.room
  obtain ⟨n, hn⟩ : ∃ n, n = r.fs.length := ⟨_, rfl⟩
  rw [← hn] at c1 hm
  have HN := Lib.hid hn
  have HU := Lib.hid (And.intro hu hr)
  clear c0 c2 c3 c4 cf h hF hn hu hr
  go_enter Try.func47, Try.ntmps47
  go_wp2
  go_loopw [3, 4] (fun v i W => ∃ k : Nat, k ≤ n ∧ i = .int .i64 k ∧ v = .int .i64 (sizes ((rvs r.fs).take k) : Nat) ∧ W = w) (fun _ i _ => n - (intOf i).toNat)
  case atStart => exact ⟨0, Nat.zero_le _, rfl, rfl, rfl⟩
  case round =>
    obtain ⟨k, hk, rfl, rfl, rfl⟩ := hrel
    by_cases hlt : k < n
    · have hks : k < r.fs.length := by have := HN.out; omega
      obtain ⟨f, hf⟩ : ∃ f, r.fs[k]? = some f := ⟨_, List.getElem?_eq_getElem hks⟩
      obtain ⟨g, c', hF, d1, f0, f1, f2, ff, hg⟩ := H.out.file hf
      rw [← HN.out, c1] at d1
      simp only [Option.some.injEq, Value.slice.injEq] at d1
      obtain ⟨rfl, _, rfl⟩ := d1
      have hst := sizes_take (rvs_get hf)
      have hle := sizes_take_le (rvs r.fs) (k + 1)
      have HS := Lib.hid hst
      have hb1 : ((sizes ((rvs r.fs).take k) : Nat) : Int) + (f.vw.has.length : Nat) ≤ 9223372036854775807 := by have := HU.out; omega
      clear hF f0 f2 ff hg hks hf hst hle
      generalize sizes ((rvs r.fs).take k) = z at hb1 HS ⊢
      go_wp2
      go_roundw
      case rel => exact ⟨k + 1, by omega, by go_num, by rw [HS.out]; go_num, by first | rfl | trivial⟩
      case measure => simp [intOf]; omega
    · obtain rfl : k = n := by omega
      have HE := Lib.hid (show (rvs r.fs).take k = rvs r.fs from List.take_of_length_le (by unfold rvs; rw [List.length_map]; have := HN.out; omega))
      clear hlt hk
      go_wp2
      go_ret
      rw [HE.out]
      exact ⟨rfl, rfl⟩
theorem rhalted_any {w : World} {r : Rk} (h : RkAt w r) : Calls Try.prog 48 #[.pointer (some ⟨r.B, 0, none⟩)] w fun e w' => e = .returned (.bool (r.dead || decide (r.left = 0))) ∧ w' = w := by
  obtain ⟨A, c, hF, c0, c1, c2, c3, c4, cf⟩ := h.shape
  clear c0 c1 c2 cf h hF
  cases hd : r.dead with
  | true =>
    rw [hd] at c4
    go_enter Try.func48, Try.ntmps48
    go_wp2
    go_ret
    exact ⟨by simp, rfl⟩
  | false =>
    rw [hd] at c4
    have hz : (r.left == 0) = decide (r.left = 0) := rfl
    go_enter Try.func48, Try.ntmps48
    go_wp2
    go_ret
    exact ⟨by simp [hz], rfl⟩
def RNewOut (room : Nat) (w : World) (e : Ending) (w' : World) : Prop :=
  ∃ r, e = .returned (.pointer (some ⟨r.B, 0, none⟩)) ∧ RkAt w' r ∧ r.rm = ⟨room, [], false, -1, false⟩ ∧ (∀ i, r.own i → w.heap.size ≤ i) ∧ Below w.heap.size w w'
theorem rnew_at (w : World) (room : Nat) (hr : room ≤ 1048576) : RNewOut room w (.returned (.pointer (some ⟨w.heap.size, 0, none⟩))) (w.alloc (.cells #[.int .i64 room, .slice none 0 0, .bool false, .int .i64 (-1), .bool false] 74)) := by
  refine ⟨⟨w.heap.size, .slice none 0 0, room, [], false, -1, false⟩, rfl, ⟨Whole.new w _ _, World.ownsRow_nil _ _ _ _, by simp [Value.ownBlock], by simp, by simp, by simp, by simp, by simp, by show sizes [] ≤ room; rw [sizes_nil]; exact Nat.zero_le _, hr, by simp, by simp⟩, rfl, fun i hi => ?_, (Below.refl _ _).alloc (Nat.le_refl _) _⟩
  rcases hi with (hi | hi) | ⟨f, hf, _⟩
  · exact Nat.le_of_eq hi.symm
  · cases hi
  · cases hf
theorem rnew_any (w : World) (room : Nat) (hr : room ≤ 1048576) (z : Int) (hz : z = room) : Calls Try.prog 18 #[.int .i64 z] w (RNewOut room w) := by
  subst hz
  have h1 : decide ((room : Int) < 0) = false := decide_eq_false (by omega)
  have h2 : decide ((1048576 : Int) < (room : Int)) = false := decide_eq_false (by omega)
  have HR := Lib.hid (rnew_at w room hr)
  clear hr
  go_enter Try.func18, Try.ntmps18
  go_wp2
  go_ret
  exact HR.out
theorem rnew_no (w : World) (z : Int) (hz : z < 0 ∨ 1048576 < z) : Calls Try.prog 18 #[.int .i64 z] w fun e w' => e = .returned (.pointer none) ∧ w = w' := by
  by_cases h0 : z < 0
  · have h1 : decide (z < 0) = true := decide_eq_true h0
    clear hz h0
    go_enter Try.func18, Try.ntmps18
    go_wp2
    go_ret
    exact ⟨rfl, rfl⟩
  · have h1 : decide (z < 0) = false := decide_eq_false h0
    have h2 : decide (1048576 < z) = true := decide_eq_true (by omega)
    clear hz h0
    go_enter Try.func18, Try.ntmps18
    go_wp2
    go_ret
    exact ⟨rfl, rfl⟩
theorem rfull_any {w : World} {r : Rk} (h : RkAt w r) (on : Bool) : Calls Try.prog 43 #[.pointer (some ⟨r.B, 0, none⟩), .bool on] w fun e w' => e = .returned (.tuple #[]) ∧ RkAt w' { r with on := on } ∧ Kp r.own w w' := by
  obtain ⟨A, c, hF, c0, c1, c2, c3, c4, cf⟩ := h.shape
  have f2 := cf 2
  have HR := Lib.hid (And.intro (h.put on r.left r.dead h.left (i := 2) (u := .bool on) rfl) (Kp.setCell (own := r.own) w ⟨r.B, 2, none⟩ (.bool on) (.inl (.inl rfl))))
  clear h c0 c1 c3 c4 cf hF
  go_enter Try.func43, Try.ntmps43
  go_wp2
  go_end0
  exact ⟨rfl, HR.out⟩
theorem rhalt_any {w : World} {r : Rk} (h : RkAt w r) (n : Int) (hn : n ≤ 9223372036854775807) : Calls Try.prog 44 #[.pointer (some ⟨r.B, 0, none⟩), .int .i64 n] w fun e w' => e = .returned (.tuple #[]) ∧ RkAt w' { r with left := max n (-1), dead := decide (n = 0) } ∧ Kp r.own w w' := by
  obtain ⟨A, c, hF, c0, c1, c2, c3, c4, cf⟩ := h.shape
  have f3 := cf 3
  have f4 := cf 4
  have h1 := h.put r.on (max n (-1)) r.dead (by omega) (i := 3) (u := .int .i64 (max n (-1))) rfl
  have h2 := h1.put r.on (max n (-1)) (decide (n = 0)) (by omega) (i := 4) (u := .bool (decide (n = 0))) rfl
  have HR := Lib.hid (And.intro h2 ((Kp.setCell (own := r.own) w ⟨r.B, 3, none⟩ (.int .i64 (max n (-1))) (.inl (.inl rfl))).trans (Kp.setCell (own := r.own) _ ⟨r.B, 4, none⟩ (.bool (decide (n = 0))) (.inl (.inl rfl))) fun i hi => .inl hi))
  have hz : (n == 0) = decide (n = 0) := rfl
  clear h c0 c1 c2 cf hF h1 h2
  go_enter Try.func44, Try.ntmps44
  go_wp2
  go_end0
  exact ⟨rfl, HR.out⟩
end Go.Proofs.Ytkieacidpiffpaa
