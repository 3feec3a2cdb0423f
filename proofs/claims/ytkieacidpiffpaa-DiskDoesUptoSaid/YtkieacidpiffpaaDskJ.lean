/- Read, New, Full, Halt, Crash. -/
import Derived.Test.YtkieacidpiffpaaDskI
namespace Go.Proofs.Ytkieacidpiffpaa
open Go Go.RowKit Go.Shelf
set_option linter.unusedVariables false
set_option linter.unusedSimpArgs false

def readB (m : Md) (s : ByteArray) : List Int := match m.look s with | none => [] | some f => f.has
def readC (m : Md) (s : ByteArray) : Int := match m.look s with | none => 131 | some _ => 0
def ReadOut (m : Md) (s : ByteArray) (w : World) (e : Ending) (w' : World) : Prop :=
  ∃ B c, e = .returned (.tuple #[.slice B (readB m s).length c, .int .u16 (readC m s)]) ∧ OwnB w.heap.size w' (.slice B (readB m s).length c) (readB m s) ∧ Below w.heap.size w w'
set_option maxHeartbeats 1000000 in
theorem read_any {w : World} {d : Dk} (h : DkAt w d) (s : ByteArray) (hs : s.size ≤ maxLen) : Calls Try.prog 14 #[.pointer (some ⟨d.B, 0, none⟩), .string s] w (ReadOut d.md s w) := by
  obtain ⟨c0, c1, c2, c3, cf⟩ := h.cells
  have hlook := h.look hs
  have hu := h.used
  have hr := h.room
  cases hl : lookF d.fs s with
  | none =>
    have h1 : d.md.look s = none := by show (vws d.fs).find? _ = _; rw [look_vws, hl]; rfl
    have HR : Hid (ReadOut d.md s w (.returned (.tuple #[.slice none 0 0, .int .u16 131])) w) := Lib.hid (by
      unfold ReadOut readB readC; rw [h1]; exact ⟨none, 0, rfl, World.ownsRow_nil _ _ _ _, Below.refl _ _⟩)
    rw [hl, Option.map_none] at hlook
    unfold ptrV at hlook
    rw [Option.map_none] at hlook
    clear h hs c0 c2 c3 cf hl h1 hu hr
    go_enter Try.func14, Try.ntmps14
    go_wp2
    refine bodyPost_ret (v := .tuple #[.slice none 0 0, .int .u16 131]) (by simp [results, Try.results14, go_sem]) rfl ?_
    exact HR.out
  | some f =>
    have h1 : d.md.look s = some f.vw := by show (vws d.fs).find? _ = _; rw [look_vws, hl]; rfl
    have hf := h.files f (lookF_some hl).1
    obtain ⟨A, c, hrow, hc, e0, e1, ef, hB⟩ := hf.shape
    have hle : f.vw.has.length ≤ sizes (vws d.fs) := sizes_mem (f := f.vw) (List.mem_map.2 ⟨f, (lookF_some hl).1, rfl⟩)
    have HCL := Lib.hid (clone_own A c f.vw.has.length f.vw.has w hB (Nat.le_refl _) (by omega) rfl)
    have HR : Hid (∀ e w', CloneOwn f.vw.has w e w' → ∃ B c, e = .returned (.slice B f.vw.has.length c) ∧ ReadOut d.md s w (.returned (.tuple #[.slice B f.vw.has.length c, .int .u16 0])) w') := Lib.hid (by
      rintro e w' ⟨B, c, rfl, ho, hb⟩
      refine ⟨B, c, rfl, ?_⟩
      unfold ReadOut readB readC; rw [h1]; exact ⟨B, c, rfl, ho, hb⟩)
    rw [hl, Option.map_some] at hlook
    unfold ptrV at hlook
    rw [Option.map_some] at hlook
    clear h hs c0 c2 c3 cf hl h1 hf hrow hc e1 ef hB hle hu hr
    go_enter Try.func14, Try.ntmps14
    go_wp2_with (go_at_call 35; refine HCL.out.mono ?_; intro e w1 hq; obtain ⟨B, c9, rfl, hq2⟩ := HR.out e w1 hq; have HX := Lib.hid hq2; clear hq hq2)
    refine bodyPost_ret (v := .tuple #[.slice B f.vw.has.length c9, .int .u16 0]) (by simp [results, Try.results14, go_sem]) rfl ?_
    exact HX.out
def NewOut (room : Nat) (w : World) (e : Ending) (w' : World) : Prop :=
  ∃ d, e = .returned (.pointer (some ⟨d.B, 0, none⟩)) ∧ DkAt w' d ∧ d.md = ⟨room, false, -1, []⟩ ∧ (∀ i, d.own i → w.heap.size ≤ i) ∧ Below w.heap.size w w'
theorem new_at (w : World) (room : Nat) (hr : room ≤ 1048576) (W : World) (hW : W = ((w.alloc (.map #[] 0)).alloc (.cells #[.int .i64 room, .map (some w.heap.size), .bool false, .int .i64 (-1)] 60))) :
    NewOut room w (.returned (.pointer (some ⟨w.heap.size + 1, 0, none⟩))) W := by
  subst hW
  have hm := World.ownsMap_made w Try.prog 9 ptrE
  have hb1 : Below w.heap.size w (w.alloc (.map #[] 0)) := (Below.refl _ _).alloc (Nat.le_refl _) _
  have hb2 := hb1.alloc (by simp) (.cells #[.int .i64 room, .map (some w.heap.size), .bool false, .int .i64 (-1)] 60)
  refine ⟨⟨w.heap.size + 1, w.heap.size, room, false, -1, []⟩, rfl, ⟨?_, ⟨_, ownsMap_of_eq hm (Below.heap_alloc _ _ _ (by simp)), Rd.made⟩, by simp, by simp, by simp, List.Pairwise.nil, by simp, by show sizes [] ≤ room; rw [sizes_nil]; exact Nat.zero_le _, hr, by simp, by simp⟩, rfl, fun i hi => ?_, hb2⟩
  · have := Whole.new (w.alloc (.map #[] 0)) 60 #[.int .i64 room, .map (some w.heap.size), .bool false, .int .i64 (-1)]
    simpa using this
  · rcases hi with hi | hi | ⟨f, hf, _⟩
    · show w.heap.size ≤ i; rw [hi]; exact Nat.le_succ _
    · rw [hi]; exact Nat.le_refl _
    · cases hf
set_option maxHeartbeats 1000000 in
theorem new_any (w : World) (room : Nat) (hr : room ≤ 1048576) (z : Int) (hz : z = room) : Calls Try.prog 10 #[.int .i64 z] w (NewOut room w) := by
  subst hz
  have hmm := @run_makeMap Try.prog
  have hst := fun (W : World) (h : W.cell? ⟨w.heap.size + 1, 3, none⟩ = some (.int .i64 0)) (hf : W.frozen? ⟨w.heap.size + 1, 3, none⟩ = false) => astore (y := -1) h hf
  have HS := Lib.hid hst
  have h1 : decide ((room : Int) < 0) = false := decide_eq_false (by omega)
  have h2 : decide ((1048576 : Int) < (room : Int)) = false := decide_eq_false (by omega)
  have HR := Lib.hid (new_at w room hr)
  clear hst hr
  go_enter Try.func10, Try.ntmps10
  go_wp2_with (go_at_call 26; refine (HS.out _ (by simp) (by simp)).mono ?_; rintro e w1 ⟨rfl, rfl⟩)
  go_ret
  exact HR.out _ rfl
theorem new_no (w : World) (z : Int) (hz : z < 0 ∨ 1048576 < z) : Calls Try.prog 10 #[.int .i64 z] w fun e w' => e = .returned (.pointer none) ∧ w = w' := by
  by_cases h0 : z < 0
  · have h1 : decide (z < 0) = true := decide_eq_true h0
    clear hz h0
    go_enter Try.func10, Try.ntmps10
    go_wp2
    go_ret
    exact ⟨rfl, rfl⟩
  · have h1 : decide (z < 0) = false := decide_eq_false h0
    have h2 : decide (1048576 < z) = true := decide_eq_true (by omega)
    clear hz h0
    go_enter Try.func10, Try.ntmps10
    go_wp2
    go_ret
    exact ⟨rfl, rfl⟩
theorem full_any {w : World} {d : Dk} (h : DkAt w d) (on : Bool) : Calls Try.prog 37 #[.pointer (some ⟨d.B, 0, none⟩), .bool on] w fun e w' => e = .returned (.tuple #[]) ∧ DkAt w' { d with full := on } ∧ Kp d.own w w' := by
  obtain ⟨c0, c1, c2, c3, cf⟩ := h.cells
  have f2 := cf 2
  have HR := Lib.hid (And.intro (h.put on d.left h.left (i := 2) (u := .bool on) rfl) (Kp.setCell (own := d.own) w ⟨d.B, 2, none⟩ (.bool on) (.inl rfl)))
  clear h c0 c1 c3 cf
  go_enter Try.func37, Try.ntmps37
  go_wp2
  go_end0
  exact ⟨rfl, HR.out⟩
theorem halt_any {w : World} {d : Dk} (h : DkAt w d) (n : Int) (hn : n ≤ 9223372036854775807) : Calls Try.prog 21 #[.pointer (some ⟨d.B, 0, none⟩), .int .i64 n] w fun e w' => e = .returned (.tuple #[]) ∧ DkAt w' { d with left := max n (-1) } ∧ Kp d.own w w' := by
  obtain ⟨c0, c1, c2, c3, cf⟩ := h.cells
  have f3 := cf 3
  have HS := Lib.hid (astore (y := max n (-1)) c3 f3)
  have HR := Lib.hid (And.intro (h.put d.full (max n (-1)) (by omega) (i := 3) (u := .int .i64 (max n (-1))) rfl) (Kp.setCell (own := d.own) w ⟨d.B, 3, none⟩ (.int .i64 (max n (-1))) (.inl rfl)))
  clear h c0 c1 c2 cf
  go_enter Try.func21, Try.ntmps21
  go_wp2_with (go_at_call 26; refine HS.out.mono ?_; rintro e w1 ⟨rfl, rfl⟩)
  go_end0
  exact ⟨rfl, HR.out⟩
end Go.Proofs.Ytkieacidpiffpaa
