/- json's reader: what its cursor does. -/
import Derived.Test.YtmmjkhkcffgeiaaDoorJMath
import Derived.Test.YtmmjkhkcffgeiaaDoorBaseA
import Derived.Test.YtmmjkhkcffgeiaaDoorLaysB
import Derived.Deep.DeepCutAuto
import Derived.Deep.QuietTactic
import Derived.BigQuiet
import Derived.RegionTactic
import Derived.StillTailTactics
import Derived.IntWalk
import Derived.WalkKit
import Derived.WalkLawsBesides
import Derived.Lib.Hide
namespace Go.Proofs.YtmmjkhkcffgeiaaDoor
open Go Go.RowKit Go.Shelf

/-- What is panicked with where a text is wrong. -/
def BadV (v : Value) : Prop := v = .iface 25 (.int .u16 20) ∨ ∃ N, v = .iface 133 (.pointer (some ⟨N, 0, none⟩))
/-- Block R alone is another one; blocks may have come. -/
structure Rd (R : Nat) (W W' : World) : Prop where
  os : W'.os = W.os
  tape : W'.tape = W.tape
  output : W'.output = W.output
  size : W.heap.size ≤ W'.heap.size
  far : ∀ k, k < W.heap.size → k ≠ R → W'.heap[k]? = W.heap[k]?
theorem Rd.refl (R : Nat) (W : World) : Rd R W W := ⟨rfl, rfl, rfl, Nat.le_refl _, fun _ _ _ => rfl⟩
theorem Rd.trans {R : Nat} {W W1 W2 : World} (h : Rd R W W1) (k : Rd R W1 W2) : Rd R W W2 :=
  ⟨k.os.trans h.os, k.tape.trans h.tape, k.output.trans h.output, Nat.le_trans h.size k.size, fun i hi hn => (k.far i (Nat.lt_of_lt_of_le hi h.size) hn).trans (h.far i hi hn)⟩
theorem Rd.of_below {R : Nat} {W W' : World} (h : Below W.heap.size W W') : Rd R W W' := ⟨h.os, h.tape, h.output, h.size, fun k hk _ => h.block k hk⟩
theorem Rd.below {R B : Nat} {W W' : World} (h : Rd R W W') (hB : B ≤ R) (hs : B ≤ W.heap.size) : Below B W W' := ⟨h.os, h.tape, h.output, h.size, fun k hk => h.far k (by omega) (by omega)⟩
theorem Rd.set (R : Nat) (W : World) (i : Nat) (v : Value) : Rd R W (W.setCell ⟨R, i, none⟩ v) := ⟨rfl, rfl, rfl, by simp, fun k _ hn => Below.heap_setCell W ⟨R, i, none⟩ v k hn⟩
theorem Rd.drew (R : Nat) (W : World) : Rd R W W.drew := .of_below (Below.refl _ _).drew
theorem Rd.alloc (R : Nat) (W : World) (o : Obj) : Rd R W (W.alloc o) := .of_below ((Below.refl _ _).alloc (Nat.le_refl _) o)
theorem Rd.whole {R : Nat} {W W1 : World} (h : Rd R W W1) {k : Nat} {t : TypeId} {cs : Array Value} (hw : Whole W k t cs) (hk : k ≠ R) : Whole W1 k t cs := hw.of_eq (h.far k hw.lt hk)
/-- Where the reader stands in a text, and how deep it is. -/
structure At (W : World) (R : Nat) (s : ByteArray) (i d : Nat) : Prop where
  whole : Whole W R 80 #[.string s, .int .i64 i, .int .i64 d]
  le : i ≤ s.size
  max : s.size ≤ 60000
theorem At.cells {W : World} {R : Nat} {s : ByteArray} {i d : Nat} (h : At W R s i d) : W.cell? ⟨R, 0, none⟩ = some (.string s) ∧ W.cell? ⟨R, 1, none⟩ = some (.int .i64 i) ∧ W.cell? ⟨R, 2, none⟩ = some (.int .i64 d) ∧
    W.frozen? ⟨R, 0, none⟩ = false ∧ W.frozen? ⟨R, 1, none⟩ = false ∧ W.frozen? ⟨R, 2, none⟩ = false :=
  ⟨(h.whole.cell 0).trans rfl, (h.whole.cell 1).trans rfl, (h.whole.cell 2).trans rfl, h.whole.frozen 0, h.whole.frozen 1, h.whole.frozen 2⟩
theorem At.lt {W : World} {R : Nat} {s : ByteArray} {i d : Nat} (h : At W R s i d) : R < W.heap.size := h.whole.lt
theorem At.later {W W' : World} {R : Nat} {s : ByteArray} {i d : Nat} (h : At W R s i d) (hb : Below W.heap.size W W') : At W' R s i d := ⟨h.whole.below hb h.whole.lt, h.le, h.max⟩
theorem At.put {W : World} {R : Nat} {s : ByteArray} {i d : Nat} (h : At W R s i d) {j : Nat} (hj : j ≤ s.size) : At (W.setCell ⟨R, 1, none⟩ (.int .i64 j)) R s j d := ⟨h.whole.put 1 _, hj, h.max⟩
theorem At.deep {W : World} {R : Nat} {s : ByteArray} {i d : Nat} (h : At W R s i d) (e : Nat) : At (W.setCell ⟨R, 2, none⟩ (.int .i64 e)) R s i e := ⟨h.whole.put 2 _, h.le, h.max⟩
theorem Rd.drewN (R : Nat) (W : World) (n : Nat) : Rd R W (W.drewN n) := ⟨rfl, rfl, rfl, Nat.le_refl _, fun _ _ _ => rfl⟩
theorem At.drewN {W : World} {R : Nat} {s : ByteArray} {i d : Nat} (h : At W R s i d) (n : Nat) : At (W.drewN n) R s i d := ⟨h.whole, h.le, h.max⟩
theorem At.drew {W : World} {R : Nat} {s : ByteArray} {i d : Nat} (h : At W R s i d) : At W.drew R s i d := ⟨h.whole, h.le, h.max⟩
/-- It went wrong. -/
def Bad (R : Nat) (W : World) (e : Ending) (w' : World) : Prop := ∃ v, e = .panicked [{ v := v, recovered := false }] ∧ BadV v ∧ Rd R W w'

theorem panic_post {P : Program} {fn : Func} {Q : Ending → World → Prop} {chain : List PanicEntry} {a : Act} {w : World} (hd : a.defers = []) (h : Q (.panicked chain) w) : bodyPost P fn Q (.panic chain) a w := ⟨hd, h⟩

set_option maxRecDepth 100000 in
theorem need_ok (n : Int) (w : World) : Calls Tryd.prog 24 #[.bool true, .int .u16 n] w fun e w' => e = .returned (.tuple #[]) ∧ w = w' := by
  go_enter Tryd.func24, Tryd.ntmps24
  go_wp2
  go_end0
  exact ⟨rfl, rfl⟩
theorem need_ok' (n : Int) (w : World) : Calls Tryd.prog 24 #[.bool true, .int .u16 n] w fun e w' => e = .returned (.tuple #[]) ∧ w' = w := (need_ok n w).mono fun _ _ h => ⟨h.1, h.2.symm⟩
set_option maxRecDepth 100000 in
theorem need_bad (n : Int) (w : World) : Calls Tryd.prog 24 #[.bool false, .int .u16 n] w fun e w' => e = .panicked [{ v := .iface 25 (.int .u16 n), recovered := false }] ∧ w = w' := by
  go_enter Tryd.func24, Tryd.ntmps24
  go_wp2
  exact ⟨rfl, rfl, rfl⟩

set_option maxHeartbeats 4000000 in
set_option maxRecDepth 100000 in
theorem c_first_ok (R : Nat) (s : ByteArray) (i d : Nat) (W : World) (h : At W R s i d) (hi : i < s.size) :
    Calls Tryd.prog 64 #[.pointer (some ⟨R, 0, none⟩)] W fun e w' => e = .returned (.int .u8 s[i].toNat) ∧ At w' R s i d ∧ Rd R W w' := by
  have HA := Lib.hid h
  obtain ⟨c0, c1, _⟩ := h.cells
  have hlt : decide ((i : Int) < (s.size : Int)) = true := by simp; omega
  have hlt2 : decide (i < s.size) = true := by simp; omega
  clear h
  go_enter Tryd.func64, Tryd.ntmps64
  go_wp2_with fail
  go_quiet ((go_at_call 24; exact Calls.quiet_of_same (need_ok' _ _)))
  go_wp2_with fail
  go_quiet ((fail))
  go_wp2_with fail
  go_ret
  exact ⟨rfl, (HA.out.drewN _).drewN _, (Rd.drewN _ _ _).trans (Rd.drewN _ _ _)⟩
set_option maxHeartbeats 4000000 in
set_option maxRecDepth 100000 in
theorem c_first_bad (R : Nat) (s : ByteArray) (d : Nat) (W : World) (h : At W R s s.size d) :
    Calls Tryd.prog 64 #[.pointer (some ⟨R, 0, none⟩)] W (Bad R W) := by
  have HA := Lib.hid h
  obtain ⟨c0, c1, _⟩ := h.cells
  clear h
  go_enter Tryd.func64, Tryd.ntmps64
  go_wp2_with fail
  go_still_tail 10, (by kernel_rfl)
  change wpList _ _ _ _ _ W.drew
  go_wp2_with (go_at_call 24; refine (need_bad _ _).mono ?_; rintro e W1 ⟨rfl, rfl⟩)
  exact panic_post rfl ⟨_, rfl, .inl rfl, Rd.drew _ _⟩
theorem Bad.after {R : Nat} {W W1 : World} {e : Ending} {w' : World} (h : Bad R W1 e w') (hr : Rd R W W1) : Bad R W e w' := by
  obtain ⟨v, h1, h2, h3⟩ := h
  exact ⟨v, h1, h2, hr.trans h3⟩

set_option maxHeartbeats 4000000 in
set_option maxRecDepth 100000 in
theorem c_next_ok (R : Nat) (s : ByteArray) (i d : Nat) (W : World) (h : At W R s i d) (hi : i < s.size) :
    Calls Tryd.prog 89 #[.pointer (some ⟨R, 0, none⟩)] W fun e w' => e = .returned (.int .u8 s[i].toNat) ∧ At w' R s (i + 1) d ∧ Rd R W w' := by
  have HC := Lib.hid (c_first_ok R s i d W h hi)
  have hm := h.max
  clear h
  go_enter Tryd.func89, Tryd.ntmps89
  go_wp2_with (go_at_call 64; refine HC.out.mono ?_; rintro e W1 ⟨rfl, hA, hR⟩; obtain ⟨c0, c1, c2, f0, f1, f2⟩ := hA.cells; have H1 := Lib.hid (And.intro hA hR); clear hA hR)
  go_ret
  exact ⟨rfl, H1.out.1.put hi, H1.out.2.trans (Rd.set _ _ _ _)⟩
set_option maxHeartbeats 4000000 in
set_option maxRecDepth 100000 in
theorem c_next_bad (R : Nat) (s : ByteArray) (d : Nat) (W : World) (h : At W R s s.size d) :
    Calls Tryd.prog 89 #[.pointer (some ⟨R, 0, none⟩)] W (Bad R W) := by
  have HC := Lib.hid (c_first_bad R s d W h)
  clear h
  go_enter Tryd.func89, Tryd.ntmps89
  go_wp2_with (go_at_call 64; refine HC.out.mono ?_; rintro e W1 ⟨v, rfl, hv, hR⟩; have H1 := Lib.hid (And.intro hv hR); clear hv hR)
  exact panic_post rfl ⟨_, rfl, H1.out.1, H1.out.2⟩

def hexL : List UInt8 := [48, 49, 50, 51, 52, 53, 54, 55, 56, 57, 97, 98, 99, 100, 101, 102]
/-- Where it goes wrong: a second way is kept alive that is none, since the tactics for regions bear one way. -/
theorem dead {R : Nat} {W : World} {e : Ending} {w' : World} (v0 : Value) (h : Bad R W e w') : (e = .returned v0 ∧ Hid False) ∨ Bad R W e w' := .inr h
theorem pre_yes {l p r : List UInt8} (h : l = p ++ r) : Lib.hasPrefix l p = true := by
  subst h
  unfold Lib.hasPrefix
  simp
/-- What is left of a text. -/
def rest (s : ByteArray) (i : Nat) : List UInt8 := s.data.toList.drop i
theorem rest_len {s : ByteArray} {i : Nat} {p r : List UInt8} (h : rest s i = p ++ r) (hi : i ≤ s.size) : i + p.length ≤ s.size := by
  have := congrArg List.length h
  unfold rest at this
  rw [List.length_drop, List.length_append] at this
  have h2 : s.data.toList.length = s.size := by simp
  omega
theorem rest_next {s : ByteArray} {i : Nat} {p r : List UInt8} (h : rest s i = p ++ r) : rest s (i + p.length) = r := by
  unfold rest at h ⊢
  rw [← List.drop_drop, h]
  simp
theorem rest_extract (s : ByteArray) (i : Nat) : (s.extract i s.size).data.toList = rest s i := by
  unfold rest
  simp [List.take_of_length_le]
theorem pre_is (s t : ByteArray) (i : Nat) (b : Bool) (h : Lib.hasPrefix (rest s i) t.data.toList = b) (w : World) : Calls Tryd.prog 86 #[.string (s.extract i s.size), .string t] w fun e w' => e = .returned (.bool b) ∧ w' = w :=
  (Tryd.strings_HasPrefix _ _ w).mono fun e w' hh => ⟨by rw [hh.1, rest_extract, h], hh.2⟩
set_option maxHeartbeats 4000000 in
set_option maxRecDepth 100000 in
theorem c_skips_yes (R : Nat) (s t : ByteArray) (i d : Nat) (W : World) (h : At W R s i d) (r : List UInt8) (hp : rest s i = t.data.toList ++ r) :
    Calls Tryd.prog 78 #[.pointer (some ⟨R, 0, none⟩), .string t] W fun e w' => e = .returned (.bool true) ∧ At w' R s (i + t.size) d ∧ Rd R W w' := by
  have HA := Lib.hid h
  have ht : i + t.size ≤ s.size := rest_len hp h.le
  obtain ⟨c0, c1, c2, f0, f1, f2⟩ := h.cells
  have hi := h.le
  have hm := h.max
  have HPRE := Lib.hid (pre_is s t i true (pre_yes hp))
  clear h hp
  go_enter Tryd.func78, Tryd.ntmps78
  go_wp2_with fail
  go_quiet ((go_at_call 86; exact Calls.quiet_of_same (HPRE.out _)))
  go_wp2
  go_ret
  refine ⟨rfl, ?_, (Rd.drewN _ _ _).trans (Rd.set _ _ _ _)⟩
  have := (HA.out.drewN nq).put ht
  rwa [Int.natCast_add] at this
set_option maxHeartbeats 4000000 in
set_option maxRecDepth 100000 in
theorem c_skips_no (R : Nat) (s t : ByteArray) (i d : Nat) (W : World) (h : At W R s i d) (hp : Lib.hasPrefix (rest s i) t.data.toList = false) :
    Calls Tryd.prog 78 #[.pointer (some ⟨R, 0, none⟩), .string t] W fun e w' => e = .returned (.bool false) ∧ At w' R s i d ∧ Rd R W w' := by
  have HA := Lib.hid h
  obtain ⟨c0, c1, c2, f0, f1, f2⟩ := h.cells
  have hi := h.le
  have hm := h.max
  have HPRE := Lib.hid (pre_is s t i false hp)
  clear h hp
  go_enter Tryd.func78, Tryd.ntmps78
  go_wp2_with fail
  go_quiet ((go_at_call 86; exact Calls.quiet_of_same (HPRE.out _)))
  go_wp2
  go_ret
  exact ⟨rfl, HA.out.drewN _, Rd.drewN _ _ _⟩
set_option maxHeartbeats 4000000 in
set_option maxRecDepth 100000 in
theorem c_word_ok (R : Nat) (s t : ByteArray) (i d : Nat) (W : World) (h : At W R s i d) (r : List UInt8) (hp : rest s i = t.data.toList ++ r) :
    Calls Tryd.prog 77 #[.pointer (some ⟨R, 0, none⟩), .string t] W fun e w' => e = .returned (.tuple #[]) ∧ At w' R s (i + t.size) d ∧ Rd R W w' := by
  have HC := Lib.hid (c_skips_yes R s t i d W h r hp)
  clear h hp
  go_enter Tryd.func77, Tryd.ntmps77
  go_wp2_with (first | (go_at_call 78; refine HC.out.mono ?_; rintro e W1 ⟨rfl, hh⟩; have H1 := Lib.hid hh; clear hh) | (go_at_call 24; refine (need_ok _ _).mono ?_; rintro e W2 ⟨rfl, rfl⟩))
  go_end0
  exact ⟨rfl, H1.out.1, H1.out.2⟩
set_option maxHeartbeats 4000000 in
set_option maxRecDepth 100000 in
theorem c_word_bad (R : Nat) (s t : ByteArray) (i d : Nat) (W : World) (h : At W R s i d) (hp : Lib.hasPrefix (rest s i) t.data.toList = false) :
    Calls Tryd.prog 77 #[.pointer (some ⟨R, 0, none⟩), .string t] W (Bad R W) := by
  have HC := Lib.hid (c_skips_no R s t i d W h hp)
  clear h hp
  go_enter Tryd.func77, Tryd.ntmps77
  go_wp2_with (first | (go_at_call 78; refine HC.out.mono ?_; rintro e W1 ⟨rfl, hh⟩; have H1 := Lib.hid hh; clear hh) | (go_at_call 24; refine (need_bad _ _).mono ?_; rintro e W2 ⟨rfl, rfl⟩))
  exact panic_post rfl ⟨_, rfl, .inl rfl, H1.out.2⟩

/-- What a hex digit counts in a base; -1: it is none. -/
def hexIx (base : Nat) (c : UInt8) : Int := Lib.indexByte (hexL.take base) c
end Go.Proofs.YtmmjkhkcffgeiaaDoor
