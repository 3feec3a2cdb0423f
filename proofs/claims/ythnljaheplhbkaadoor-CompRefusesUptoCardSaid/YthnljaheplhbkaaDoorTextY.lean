/- Texts in one: TextC, TextD. -/
import Derived.Test.YthnljaheplhbkaaDoorBldX
import Derived.Test.YthnljaheplhbkaaDoorBaseD
import Derived.Test.YthnljaheplhbkaaDoorLays
import Derived.Test.YthnljaheplhbkaaDoorTextX
import Derived.Lib.QuietBelow
/- join: three texts, one behind the other. -/
namespace Go.Proofs.YthnljaheplhbkaaDoor
open Go Go.RowKit Go.Shelf
set_option linter.unusedVariables false
set_option linter.unusedSimpArgs false

theorem str_cells (s : ByteArray) : Lib.strCells s = Lib.byteCells s.data.toList := rfl
theorem byte_app (a b : List UInt8) : Lib.byteCells a ++ Lib.byteCells b = Lib.byteCells (a ++ b) := by simp [Lib.byteCells]
theorem arr_app (a b c : ByteArray) : (⟨(a.data.toList ++ b.data.toList ++ c.data.toList).toArray⟩ : ByteArray) = a ++ b ++ c := by
  apply ByteArray.ext
  apply Array.ext'
  simp

set_option maxRecDepth 100000 in
set_option maxHeartbeats 4000000 in
theorem text_join (a b c : ByteArray) (w : World) (hs : a.size + b.size + c.size ≤ 140737488355328) :
    Calls Tryd.prog 113 #[.string a, .string b, .string c] w fun e w' => e = .returned (.string (a ++ b ++ c)) ∧ Below w.heap.size w w' := by
  have hbk : (w.alloc (.cells #[.pointer none, .slice none 0 0] 162)).heap[w.heap.size]? = some (.cells #[.pointer none, .slice none 0 0] 162 (0, 0)) := heap_alloc_new w _
  have hgr := sb_Grow w.heap.size w.heap.size (a.size + b.size + c.size) (w.alloc (.cells #[.pointer none, .slice none 0 0] 162)) (Nat.le_refl _) hbk (by simp) (by omega)
  rw [Int.natCast_add, Int.natCast_add] at hgr
  have HG := Lib.hid hgr
  clear hgr
  have HB0 := Lib.hid (below_alloc w (.cells #[.pointer none, .slice none 0 0] 162))
  have hsz : ((a.size : Int) + (b.size : Int)) ≤ 140737488355328 := by omega
  have hsz2 : ((a.size : Int) + (b.size : Int) + (c.size : Int)) ≤ 140737488355328 := by omega
  clear hbk
  have HW := Lib.hid (fun (bs : List Value) (s : ByteArray) (W : World) (h : SBAt w.heap.size w.heap.size bs W) (hl : bs.length + s.size ≤ 140737488355328) => sb_str w.heap.size w.heap.size bs s W (.inr h) hl)
  have HS := Lib.hid (fun (l : List UInt8) (W : World) (h : SBAt w.heap.size w.heap.size (Lib.byteCells l) W) => Tryd.Builder_String_any w.heap.size w.heap.size l W (.inr h) (Nat.le_of_lt h.lt))
  go_enter Tryd.func113, Tryd.ntmps113
  go_wp2_with (first
    | (go_at_call 149; refine HG.out.mono ?_; rintro e w1 ⟨rfl, h1, hb⟩; have H1 := Lib.hid (And.intro h1 (HB0.out.trans hb)); clear h1 hb)
    | (go_at_call 150; (with_reducible refine (HW.out [] a _ H1.out.1 (by simp; omega)).mono ?_); rintro e w2 ⟨rfl, h1, hb⟩; have H2 := Lib.hid (And.intro h1 (H1.out.2.trans hb.below)); clear h1 hb)
    | (go_at_call 150; (with_reducible refine (HW.out _ b _ H2.out.1 (by simp [Lib.strCells_length]; omega)).mono ?_); rintro e w3 ⟨rfl, h1, hb⟩; have H3 := Lib.hid (And.intro h1 (H2.out.2.trans hb.below)); clear h1 hb)
    | (go_at_call 150; (with_reducible refine (HW.out _ c _ H3.out.1 (by simp [Lib.strCells_length]; omega)).mono ?_); rintro e w4 ⟨rfl, h1, hb⟩; have H4 := Lib.hid (And.intro h1 (H3.out.2.trans hb.below)); clear h1 hb)
    | (go_at_call 151; have hat : SBAt w.heap.size w.heap.size (Lib.byteCells (a.data.toList ++ b.data.toList ++ c.data.toList)) w4 := (by have := H4.out.1; rw [List.nil_append, str_cells, str_cells, str_cells, byte_app, byte_app] at this; exact this); refine (HS.out _ _ hat).mono ?_; rintro e w5 ⟨rfl, hb⟩; have H5 := Lib.hid (H4.out.2.trans hb)))
  go_ret
  exact ⟨by show Ending.returned (.string ⟨(a.data.toList ++ (b.data.toList ++ c.data.toList)).toArray⟩) = .returned (.string (a ++ b ++ c)); rw [← arr_app, List.append_assoc], H5.out⟩
end Go.Proofs.YthnljaheplhbkaaDoor

/- Do of a text. -/
namespace Go.Proofs.YthnljaheplhbkaaDoor
open Go Go.RowKit
open Go.Sort (grow)
set_option linter.unusedVariables false
set_option linter.unusedSimpArgs false

set_option maxRecDepth 100000 in
set_option maxHeartbeats 4000000 in
theorem text_Do_ins (s : ByteArray) (c : GC) (i : Nat) (A AL AO : Option Addr) (cp cL cO : Nat) (w : World) (hs : s.size + c.s.size ≤ 140737488355328) (hk : c.kind = 8) (hi : c.i = i) (hin : i ≤ nChars s) :
    Calls Tryd.prog 68 #[.string s, .agg #[.int .u8 c.kind, .slice A c.path.length cp, .string c.key, .int .i64 c.i, .int .i64 c.j, .int .i64 c.n, .int .u8 c.v.kind, .int .i64 c.v.num, .string c.v.str, .slice AL c.v.items.length cL, .slice AO c.v.vals.length cO, .string c.s]] w fun e w' => e = .returned (.tuple #[.string (insS s i c.s), .int .u16 0]) ∧ Below w.heap.size w w' := by
  have h0 : chkT (nChars s) c.kind.toNat c.i c.n = 0 := by
    unfold chkT
    rw [show c.kind.toNat = 8 by omega, hi]
    simp
    omega
  have HCK := Lib.hid (fun W => text_Check s c A AL AO cp cL cO W (by omega) (.inl hk))
  rw [h0] at HCK
  have hnl := (nChars_chars s).2
  have HOF := Lib.hid (fun W => text_offset s i W (by omega) (by omega))
  have hcl := cutS_le s i
  have D1 := Lib.hid (fun (W0 : World) (d : Nat) (os : Array Obj) => Calls.regrown_of (text_join (s.extract 0 (cutS s i)) c.s (s.extract (cutS s i) s.size) (grow (redrawn W0 d) os) (by simp [ByteArray.size_extract]; omega)))
  have hk8 : (c.kind == 8) = true := by simp; omega
  have H0 := Lib.hid (Whole.new w 34 #[.int .u8 c.kind, .slice A c.path.length cp, .string c.key, .int .i64 c.i, .int .i64 c.j, .int .i64 c.n, .int .u8 c.v.kind, .int .i64 c.v.num, .string c.v.str, .slice AL c.v.items.length cL, .slice AO c.v.vals.length cO, .string c.s])
  have HB := Lib.hid (below_alloc w (.cells #[.int .u8 c.kind, .slice A c.path.length cp, .string c.key, .int .i64 c.i, .int .i64 c.j, .int .i64 c.n, .int .u8 c.v.kind, .int .i64 c.v.num, .string c.v.str, .slice AL c.v.items.length cL, .slice AO c.v.vals.length cO, .string c.s] 34))
  have HI := Lib.hid hi
  rw [hi] at HCK H0 HB ⊢
  show Calls _ _ _ w fun e w' => e = .returned (.tuple #[.string (s.extract 0 (cutS s i) ++ c.s ++ s.extract (cutS s i) s.size), .int .u16 0]) ∧ Below w.heap.size w w'
  clear hk hi hin h0 hnl
  generalize cutS s i = f at *
  have hf0 : (0 : Int) ≤ (f : Int) := by omega
  have hf1 : (f : Int) ≤ (s.size : Int) := by omega
  go_enter Tryd.func68, Tryd.ntmps68
  go_wp2_with (first
    | (go_at_call 107; refine (HCK.out _).mono ?_; rintro e w1 ⟨rfl, hb⟩; have H1 := Lib.hid (And.intro (H0.out.below hb (by simp)) (HB.out.trans (hb.mono (by simp)))); clear hb; obtain ⟨c0, c1, c2, c3, c4, c5, c6, c7, c8, c9, c10, c11, _⟩ := H1.out.1.tw)
    | (go_at_call 112; refine (HOF.out _).mono ?_; rintro e w2 ⟨rfl, hb⟩; have H2 := Lib.hid (And.intro (H1.out.1.below hb H1.out.1.lt) (H1.out.2.trans (hb.mono H1.out.2.size))); clear hb c0 c1 c2 c3 c4 c5 c6 c7 c8 c9 c10 c11; obtain ⟨c0, c1, c2, c3, c4, c5, c6, c7, c8, c9, c10, c11, _⟩ := H2.out.1.tw))
  replace c11 := cell_regrown c11
  clear c0 c1 c2 c3 c4 c5 c6 c7 c8 c9 c10
  refine wp_region_quiet_below (by kernel_rfl) (by kernel_rfl) ?_
  repeat (any_goals (go_big_quiet_step (first | with_reducible exact D1.out _ _ _)))
  refine wpQuiet_nil ?_
  intro _ hw'
  obtain ⟨⟨dq, osq⟩, hw''⟩ := hw'
  subst hw''
  go_wp2
  go_ret2
  exact ⟨rfl, H2.out.2.trans ((below_regrown w2 dq osq).mono H2.out.2.size)⟩

theorem app_none (a c : ByteArray) : a ++ ⟨#[]⟩ ++ c = a ++ c := by
  apply ByteArray.ext
  simp
set_option maxRecDepth 100000 in
set_option maxHeartbeats 4000000 in
theorem text_Do_del (s : ByteArray) (c : GC) (i n : Nat) (A AL AO : Option Addr) (cp cL cO : Nat) (w : World) (hs : s.size ≤ 70368744177664) (hk : c.kind = 9) (hi : c.i = i) (hn : c.n = n) (h1 : 1 ≤ n) (hin : i + n ≤ nChars s) :
    Calls Tryd.prog 68 #[.string s, .agg #[.int .u8 c.kind, .slice A c.path.length cp, .string c.key, .int .i64 c.i, .int .i64 c.j, .int .i64 c.n, .int .u8 c.v.kind, .int .i64 c.v.num, .string c.v.str, .slice AL c.v.items.length cL, .slice AO c.v.vals.length cO, .string c.s]] w fun e w' => e = .returned (.tuple #[.string (delS s i n), .int .u16 0]) ∧ Below w.heap.size w w' := by
  have h0 : chkT (nChars s) c.kind.toNat c.i c.n = 0 := by
    unfold chkT
    rw [show c.kind.toNat = 9 by omega, hi, hn]
    simp
    omega
  have HCK := Lib.hid (fun W => text_Check s c A AL AO cp cL cO W (by omega) (.inr hk))
  rw [h0] at HCK
  have hnl := (nChars_chars s).2
  have HOF := Lib.hid (fun W => text_offset s i W (by omega) (by omega))
  have hcl := cutS_le s i
  have hts := tail_size s (cutS s i) hcl
  have hc2 := cutS_le (s.extract (cutS s i) s.size) n
  have hdt := del_tail s i n
  have D2 := Lib.hid (fun (W0 : World) (d : Nat) (os : Array Obj) => Calls.regrown_of (text_offset (s.extract (cutS s i) s.size) n (grow (redrawn W0 d) os) (by omega) (by omega)))
  have D1 := Lib.hid (fun (W0 : World) (d : Nat) (os : Array Obj) => Calls.regrown_of (text_join (s.extract 0 (cutS s i)) ⟨#[]⟩ ((s.extract (cutS s i) s.size).extract (cutS (s.extract (cutS s i) s.size) n) (s.extract (cutS s i) s.size).size) (grow (redrawn W0 d) os) (by have e0 : (⟨#[]⟩ : ByteArray).size = 0 := rfl; simp only [ByteArray.size_extract, e0]; omega)))
  have hk8 : (c.kind == 8) = false := by simp; omega
  have H0 := Lib.hid (Whole.new w 34 #[.int .u8 c.kind, .slice A c.path.length cp, .string c.key, .int .i64 c.i, .int .i64 c.j, .int .i64 c.n, .int .u8 c.v.kind, .int .i64 c.v.num, .string c.v.str, .slice AL c.v.items.length cL, .slice AO c.v.vals.length cO, .string c.s])
  have HB := Lib.hid (below_alloc w (.cells #[.int .u8 c.kind, .slice A c.path.length cp, .string c.key, .int .i64 c.i, .int .i64 c.j, .int .i64 c.n, .int .u8 c.v.kind, .int .i64 c.v.num, .string c.v.str, .slice AL c.v.items.length cL, .slice AO c.v.vals.length cO, .string c.s] 34))
  rw [hi, hn] at HCK H0 HB ⊢
  show Calls _ _ _ w fun e w' => e = .returned (.tuple #[.string (s.extract 0 (cutS s i) ++ s.extract (cutS s (i + n)) s.size), .int .u16 0]) ∧ Below w.heap.size w w'
  rw [← hdt]
  have hn9 : n ≤ 9223372036854775807 := by omega
  clear hk hi hn hin h0 hnl hdt h1 hts
  generalize hrest : s.extract (cutS s i) s.size = r at *
  generalize cutS s i = f at *
  generalize cutS r n = f2 at *
  have HRE := Lib.hid hrest
  clear hrest
  have hf1 : (f : Int) ≤ (s.size : Int) := by omega
  have hf2 : (f2 : Int) ≤ (r.size : Int) := by omega
  go_enter Tryd.func68, Tryd.ntmps68
  go_wp2_with (first
    | (go_at_call 107; refine (HCK.out _).mono ?_; rintro e w1 ⟨rfl, hb⟩; have H1 := Lib.hid (And.intro (H0.out.below hb (by simp)) (HB.out.trans (hb.mono (by simp)))); clear hb; obtain ⟨c0, c1, c2, c3, c4, c5, c6, c7, c8, c9, c10, c11, _⟩ := H1.out.1.tw)
    | (go_at_call 112; refine (HOF.out _).mono ?_; rintro e w2 ⟨rfl, hb⟩; have H2 := Lib.hid (And.intro (H1.out.1.below hb H1.out.1.lt) (H1.out.2.trans (hb.mono H1.out.2.size))); clear hb c0 c1 c2 c3 c4 c5 c6 c7 c8 c9 c10 c11; obtain ⟨c0, c1, c2, c3, c4, c5, c6, c7, c8, c9, c10, c11, _⟩ := H2.out.1.tw))
  rw [HRE.out]
  replace c5 := cell_regrown c5
  clear c0 c1 c2 c3 c4 c6 c7 c8 c9 c10 c11
  refine wp_region_quiet_below (by kernel_rfl) (by kernel_rfl) ?_
  repeat (any_goals (go_big_quiet_step (first | with_reducible exact D1.out _ _ _ | with_reducible exact D2.out _ _ _)))
  refine wpQuiet_nil ?_
  intro _ hw'
  obtain ⟨⟨dq, osq⟩, hw''⟩ := hw'
  subst hw''
  go_wp2
  go_ret2
  exact ⟨by rw [app_none]; rfl, H2.out.2.trans ((below_regrown w2 dq osq).mono H2.out.2.size)⟩
end Go.Proofs.YthnljaheplhbkaaDoor
