/- json's reader: lists and objects. -/
import Derived.Test.YtmmjkhkcffgeiaaDoorRdM
import Derived.Test.YtmmjkhkcffgeiaaDoorRdQ
import Derived.Shelf.Abstract
namespace Go.Proofs.YtmmjkhkcffgeiaaDoor
open Go Go.RowKit Go.Shelf

theorem linv0 (W : World) (R : Nat) (hR : R < W.heap.size) : LInv W R [] (((W.alloc (.cells #[.pointer (some ⟨R, 0, none⟩)] 99)).alloc (.cells #[.int .u8 0, .int .i64 0, .string ⟨#[]⟩, .slice none 0 0, .slice none 0 0] 31)).alloc (.cells #[.int .u8 4, .int .i64 0, .string ⟨#[]⟩, .slice none 0 0, .slice none 0 0] 31)) := by
  refine ⟨((Rd.alloc R W _).trans (Rd.alloc R _ _)).trans (Rd.alloc R _ _), hR, ((Whole.new W _ _).alloc _).alloc _, ⟨#[.int .u8 0, .int .i64 0, .string ⟨#[]⟩, .slice none 0 0, .slice none 0 0], rfl, ?_⟩, .slice none 0 0, [], ?_, World.ownsRow_nil _ _ _ _, by simp [RowL]⟩
  · have := (Whole.new (W.alloc (.cells #[.pointer (some ⟨R, 0, none⟩)] 99)) 31 #[.int .u8 0, .int .i64 0, .string ⟨#[]⟩, .slice none 0 0, .slice none 0 0]).alloc (.cells #[.int .u8 4, .int .i64 0, .string ⟨#[]⟩, .slice none 0 0, .slice none 0 0] 31)
    simpa using this
  · have := Whole.new ((W.alloc (.cells #[.pointer (some ⟨R, 0, none⟩)] 99)).alloc (.cells #[.int .u8 0, .int .i64 0, .string ⟨#[]⟩, .slice none 0 0, .slice none 0 0] 31)) 31 #[.int .u8 4, .int .i64 0, .string ⟨#[]⟩, .slice none 0 0, .slice none 0 0]
    simpa using this
theorem oinv0 (W : World) (R : Nat) (hR : R < W.heap.size) : OInv W R [] (((W.alloc (.cells #[.pointer (some ⟨R, 0, none⟩)] 99)).alloc (.cells #[.int .u8 0, .int .i64 0, .string ⟨#[]⟩, .slice none 0 0, .slice none 0 0] 31)).alloc (.cells #[.int .u8 5, .int .i64 0, .string ⟨#[]⟩, .slice none 0 0, .slice none 0 0] 31)) := by
  refine ⟨((Rd.alloc R W _).trans (Rd.alloc R _ _)).trans (Rd.alloc R _ _), hR, ((Whole.new W _ _).alloc _).alloc _, ⟨#[.int .u8 0, .int .i64 0, .string ⟨#[]⟩, .slice none 0 0, .slice none 0 0], rfl, ?_⟩, .slice none 0 0, [], ?_, World.ownsRow_nil _ _ _ _, by simp [RowO]⟩
  · have := (Whole.new (W.alloc (.cells #[.pointer (some ⟨R, 0, none⟩)] 99)) 31 #[.int .u8 0, .int .i64 0, .string ⟨#[]⟩, .slice none 0 0, .slice none 0 0]).alloc (.cells #[.int .u8 5, .int .i64 0, .string ⟨#[]⟩, .slice none 0 0, .slice none 0 0] 31)
    simpa using this
  · have := Whole.new ((W.alloc (.cells #[.pointer (some ⟨R, 0, none⟩)] 99)).alloc (.cells #[.int .u8 0, .int .i64 0, .string ⟨#[]⟩, .slice none 0 0, .slice none 0 0] 31)) 31 #[.int .u8 5, .int .i64 0, .string ⟨#[]⟩, .slice none 0 0, .slice none 0 0]
    simpa using this
theorem five_of {cs : Array Value} (h : cs.size = 5) : ∃ z0 z1 z2 z3 z4, cs = #[z0, z1, z2, z3, z4] := by
  obtain ⟨l⟩ := cs
  match l, h with
  | [a, b, c, d, e], _ => exact ⟨a, b, c, d, e, rfl⟩
/-- The list that has been read, or why there is none. -/
theorem list_yes {m : Nat} {s : ByteArray} {i k : Nat} {r0 : List UInt8} {l : List GV} (hq : rest s i = 91 :: r0) (hl : l = [] ∨ m ≠ 0) (hr : (ItmV (m - 1)).Row r0 l (rest s k)) : VAt m (rest s i) (.mk 4 0 ⟨#[]⟩ l [] []) (rest s k) := by
  rw [hq]
  cases m with
  | zero =>
    rcases hl with rfl | h
    · rw [hr.2]; exact vat_list0 0 _
    · exact absurd rfl h
  | succ m => exact vat_list hr
theorem list_no {m : Nat} {s : ByteArray} {i : Nat} {r0 : List UInt8} (hq : rest s i = 91 :: r0) (h : NoRow (ItmV (m - 1)) m r0) : ¬ ∃ g r, VAt m (rest s i) g r := by
  rw [hq]
  rcases h with ⟨rfl, h⟩ | ⟨h, hn⟩
  · exact no_list0 h
  · obtain ⟨m, rfl⟩ : ∃ m', m = m' + 1 := ⟨m - 1, by omega⟩
    exact no_list hn
theorem obj_yes {m : Nat} {s : ByteArray} {i k : Nat} {r0 : List UInt8} {l : List (ByteArray × GV)} (hq : rest s i = 123 :: r0) (hl : l = [] ∨ m ≠ 0) (hr : (ItmF (m - 1)).Row r0 l (rest s k)) : VAt m (rest s i) (.mk 5 0 ⟨#[]⟩ [] (l.map (·.1)) (l.map (·.2))) (rest s k) := by
  rw [hq]
  cases m with
  | zero =>
    rcases hl with rfl | h
    · rw [hr.2]; exact vat_obj0 0 _
    · exact absurd rfl h
  | succ m => exact vat_obj hr
theorem obj_no {m : Nat} {s : ByteArray} {i : Nat} {r0 : List UInt8} (hq : rest s i = 123 :: r0) (h : NoRow (ItmF (m - 1)) m r0) : ¬ ∃ g r, VAt m (rest s i) g r := by
  rw [hq]
  rcases h with ⟨rfl, h⟩ | ⟨h, hn⟩
  · exact no_obj0 h
  · obtain ⟨m, rfl⟩ : ∃ m', m = m' + 1 := ⟨m - 1, by omega⟩
    exact no_obj hn
theorem list_one (m R : Nat) (s : ByteArray) (i d : Nat) (W0 : World) (l : List GV) (W : World) (hI : LInv W0 R l W) (hA : At W R s i d) (hlen : l.length ≤ s.size)
    (hval : ∀ W1 j, Rd R W0 W1 → At W1 R s j d → Calls Tryd.prog 42 #[.pointer (some ⟨R, 0, none⟩)] W1 (ROut m R s j d W1)) :
    Calls Tryd.prog 82 #[.pointer (some ⟨W0.heap.size + 2, 0, none⟩), .pointer (some ⟨W0.heap.size, 0, none⟩)] W (OneOut (ItmV m) R s (LInv W0 R) W0 l i d) := by
  rcases Classical.em (∃ g r, VAt m (rest s i) g r) with hy | hn
  · exact one_yes m R s i d W0 l W hI hA hlen hy fun W1 hr h1 => hval W1 i (hI.rd.trans hr) h1
  · exact one_no m R s i d W0 l W hI hA hlen hn fun W1 hr h1 => hval W1 i (hI.rd.trans hr) h1

set_option maxHeartbeats 8000000 in
set_option maxRecDepth 100000 in
theorem r_list (m R : Nat) (s : ByteArray) (i d : Nat) (W : World) (h : At W R s i d) (hd : d + m = 16) (r0 : List UInt8) (hq : rest s i = 91 :: r0)
    (hval : m ≠ 0 → ∀ W1 j, Rd R W W1 → At W1 R s j (d + 1) → Calls Tryd.prog 42 #[.pointer (some ⟨R, 0, none⟩)] W1 (ROut (m - 1) R s j (d + 1) W1)) :
    Calls Tryd.prog 70 #[.pointer (some ⟨R, 0, none⟩)] W (ROut m R s i d W) := by
  have hlt := h.lt
  have HL := Lib.hid (linv0 W R hlt)
  have HQ := Lib.hid hq
  have HR := Lib.hid (r_row (ItmV (m - 1)) 91 82 #[.pointer (some ⟨W.heap.size + 2, 0, none⟩), .pointer (some ⟨W.heap.size, 0, none⟩)] (enters_of Tryd.func82 (by kernel_rfl) rfl) (LInv W R) m R s i d W _ ((((h.later ((Below.refl _ _).alloc (Nat.le_refl _) _)).later ((Below.refl _ _).alloc (Nat.le_refl _) _)).later ((Below.refl _ _).alloc (Nat.le_refl _) _))) hd r0 hq (linv0 W R hlt) (fun l W1 W2 h1 h2 => h1.step h2) (fun l W1 h1 => h1.rd)
    (fun hm l W1 j hl hI hA => list_one (m - 1) R s j (d + 1) W l W1 hI hA hl (hval hm)))
  clear h hq hval
  go_enter Tryd.func70, Tryd.ntmps70
  go_wp2_with (go_at_call 81; refine HR.out.mono ?_; rintro e W4 (⟨l, k, hl, hrow, rfl, hI, hA⟩ | ⟨hn, v, rfl, hv, hRd⟩); rotate_left; exact panic_post rfl (rout_bad (list_no HQ.out hn) ⟨_, rfl, hv, hRd⟩); obtain ⟨vL, hw, hL⟩ := hI.out; obtain ⟨cs, hcs, hres⟩ := hI.res; obtain ⟨y0, y1, y2, y3, y4, rfl⟩ := five_of hcs; obtain ⟨A, c, rfl⟩ := lst_form hL; obtain ⟨c0, c1, c2, c3, c4, f0, f1, f2, f3, f4⟩ := hw.five; obtain ⟨p0, p1, p2, p3, p4, g0, g1, g2, g3, g4⟩ := hres.five; have H4 := Lib.hid (And.intro hl (And.intro hrow (And.intro hI (And.intro hA (And.intro hL hres))))); clear hl hrow hI hA hL hw hres)
  have hx := H4.out.2.2.2.2.2
  obtain ⟨d0, d1, d2, d3, d4, _⟩ := (whole_put5' hx (.int .u8 4) (.int .i64 0) (.string ⟨#[]⟩) (.slice A l.length c) (.slice none 0 0)).five
  unfold put5 at d0 d1 d2 d3 d4
  refine bodyPost_ret (v := .agg #[.int .u8 4, .int .i64 0, .string ⟨#[]⟩, .slice A l.length c, .slice none 0 0]) (by simp [results, Tryd.results70, go_sem, d0, d1, d2, d3, d4]) rfl ?_
  have hP : ∃ W5, W5 = put5 W4 (W.heap.size + 1) (.int .u8 4) (.int .i64 0) (.string ⟨#[]⟩) (.slice A l.length c) (.slice none 0 0) := ⟨_, rfl⟩
  obtain ⟨W5, hP⟩ := hP
  have hF : From (fun k => W.heap.size + 3 ≤ k) W4 W5 := fun k hk _ => by rw [hP]; exact put5_block _ _ _ _ _ _ _ _ (by omega)
  have hA5 : At W5 R s k d := by rw [hP]; exact H4.out.2.2.2.1.put5 (by omega) _ _ _ _ _
  have hR5 : Rd R W W5 := by rw [hP]; exact H4.out.2.2.1.rd.put5 (by omega) _ _ _ _ _
  have hL5 := H4.out.2.2.2.2.1.keep (ok' := fun k => W.heap.size ≤ k) hF fun k hk _ => by omega
  unfold put5 at hP
  rw [← hP]
  exact .inl ⟨.mk 4 0 ⟨#[]⟩ l [] [], k, _, list_yes HQ.out H4.out.1 H4.out.2.1, rfl, ⟨_, _, rfl, hL5, ⟨rfl, .inl ⟨rfl, rfl⟩⟩⟩, hA5, hR5⟩
set_option maxHeartbeats 8000000 in
set_option maxRecDepth 100000 in
theorem r_object (m R : Nat) (s : ByteArray) (i d : Nat) (W : World) (h : At W R s i d) (hd : d + m = 16) (r0 : List UInt8) (hq : rest s i = 123 :: r0)
    (hval : m ≠ 0 → ∀ W1 j, Rd R W W1 → At W1 R s j (d + 1) → Calls Tryd.prog 42 #[.pointer (some ⟨R, 0, none⟩)] W1 (ROut (m - 1) R s j (d + 1) W1)) :
    Calls Tryd.prog 71 #[.pointer (some ⟨R, 0, none⟩)] W (ROut m R s i d W) := by
  have hlt := h.lt
  have HL := Lib.hid (oinv0 W R hlt)
  have HQ := Lib.hid hq
  have HR := Lib.hid (r_row (ItmF (m - 1)) 123 83 #[.pointer (some ⟨W.heap.size, 0, none⟩), .pointer (some ⟨W.heap.size + 2, 0, none⟩)] (enters_of Tryd.func83 (by kernel_rfl) rfl) (OInv W R) m R s i d W _ ((((h.later ((Below.refl _ _).alloc (Nat.le_refl _) _)).later ((Below.refl _ _).alloc (Nat.le_refl _) _)).later ((Below.refl _ _).alloc (Nat.le_refl _) _))) hd r0 hq (oinv0 W R hlt) (fun l W1 W2 h1 h2 => h1.step h2) (fun l W1 h1 => h1.rd)
    (fun hm l W1 j hl hI hA => fld_one (m - 1) R s j (d + 1) W l W1 hI hA hl (fun W2 j h1 h2 => hval hm W2 j (hI.rd.trans h1) h2)))
  clear h hq hval
  go_enter Tryd.func71, Tryd.ntmps71
  go_wp2_with (go_at_call 81; refine HR.out.mono ?_; rintro e W4 (⟨l, k, hl, hrow, rfl, hI, hA⟩ | ⟨hn, v, rfl, hv, hRd⟩); rotate_left; exact panic_post rfl (rout_bad (obj_no HQ.out hn) ⟨_, rfl, hv, hRd⟩); obtain ⟨vL, hw, hL⟩ := hI.out; obtain ⟨cs, hcs, hres⟩ := hI.res; obtain ⟨y0, y1, y2, y3, y4, rfl⟩ := five_of hcs; obtain ⟨A, c, rfl⟩ := obj_form hL; obtain ⟨nO, hnO⟩ : ∃ n, n = (l.map (·.2)).length := ⟨_, rfl⟩; rw [← hnO] at hw hL; clear hnO; obtain ⟨c0, c1, c2, c3, c4, f0, f1, f2, f3, f4⟩ := hw.five; obtain ⟨p0, p1, p2, p3, p4, g0, g1, g2, g3, g4⟩ := hres.five; have H4 := Lib.hid (And.intro hl (And.intro hrow (And.intro hI (And.intro hA (And.intro hL hres))))); clear hl hrow hI hA hL hw hres)
  have hx := H4.out.2.2.2.2.2
  obtain ⟨d0, d1, d2, d3, d4, _⟩ := (whole_put5' hx (.int .u8 5) (.int .i64 0) (.string ⟨#[]⟩) (.slice none 0 0) (.slice A nO c)).five
  unfold put5 at d0 d1 d2 d3 d4
  refine bodyPost_ret (v := .agg #[.int .u8 5, .int .i64 0, .string ⟨#[]⟩, .slice none 0 0, .slice A nO c]) (by simp [results, Tryd.results71, go_sem, d0, d1, d2, d3, d4]) rfl ?_
  have hP : ∃ W5, W5 = put5 W4 (W.heap.size + 1) (.int .u8 5) (.int .i64 0) (.string ⟨#[]⟩) (.slice none 0 0) (.slice A nO c) := ⟨_, rfl⟩
  obtain ⟨W5, hP⟩ := hP
  have hF : From (fun k => W.heap.size + 3 ≤ k) W4 W5 := fun k hk _ => by rw [hP]; exact put5_block _ _ _ _ _ _ _ _ (by omega)
  have hA5 : At W5 R s k d := by rw [hP]; exact H4.out.2.2.2.1.put5 (by omega) _ _ _ _ _
  have hR5 : Rd R W W5 := by rw [hP]; exact H4.out.2.2.1.rd.put5 (by omega) _ _ _ _ _
  have hL5 := H4.out.2.2.2.2.1.keep (ok' := fun k => W.heap.size ≤ k) hF fun k hk _ => by omega
  unfold put5 at hP
  rw [← hP]
  exact .inl ⟨.mk 5 0 ⟨#[]⟩ [] (l.map fun p : ByteArray × GV => p.1) (l.map fun p : ByteArray × GV => p.2), k, _, obj_yes HQ.out H4.out.1 H4.out.2.1, rfl, ⟨_, _, rfl, .inl ⟨rfl, rfl⟩, hL5⟩, hA5, hR5⟩
end Go.Proofs.YtmmjkhkcffgeiaaDoor
