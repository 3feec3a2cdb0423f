/- json's writer: a value of any kind. -/
import Derived.Test.YtmmjkhkcffgeiaaDoorWObj
namespace Go.Proofs.YtmmjkhkcffgeiaaDoor
open Go Go.RowKit Go.Shelf Go.Sort

theorem grown_below {W W' : World} (h : ∃ k os, W' = grow (W.drewN k) os) : Below W.heap.size W W' := by
  obtain ⟨k, os, rfl⟩ := h
  exact Lib.below_grow _ _ (Nat.le_refl _) _ _
theorem bld_later {B b : Nat} {bs : List Value} {W W' : World} (h : Bld B b bs W) (hb : Below W.heap.size W W') : Bld B b bs W' := by
  have key : ∀ p, Lib.BuilderAt 50 5 B b p bs W → Lib.BuilderAt 50 5 B b p bs W' := fun p h => by
    obtain ⟨h1, v, h2, h3, h4⟩ := id h
    exact ⟨h1, v, (hb.block b h.lt).trans h2, own_below h3 hb, h4⟩
  exact h.imp (key _) (key _)
theorem Bld.lt {B b : Nat} {bs : List Value} {W : World} (h : Bld B b bs W) : B ≤ b ∧ b < W.heap.size := by
  rcases h with h | h
  · exact ⟨h.1, h.lt⟩
  · exact ⟨h.1, h.lt⟩
theorem strCells_eq (s : ByteArray) (l : List UInt8) (h : s.data.toList = l) : Lib.strCells s = Lib.byteCells l := by rw [← h]; rfl
theorem TenB.here {B : Nat} {W : World} (h : TenB B W) : Lib.TabIs Tryd.prog W "internal/strconv.uint64pow10" .u64 Lib.pow10Tab := Lib.TabBelow.here h

set_option maxHeartbeats 8000000 in
set_option maxRecDepth 100000 in
theorem w_val0 (n : Int) (s : ByteArray) (l : List GV) (ks : List ByteArray) (ov : List GV) (A A' : Option Addr) (nl nc ml mc : Nat) (B b : Nat) (bs : List Value) (W : World) (h : Bld B b bs W) (hlen : bs.length + 32 ≤ 140737488355328) :
    Calls Tryd.prog 21 #[.pointer (some ⟨b, 0, none⟩), .agg #[.int .u8 0, .int .i64 n, .string s, .slice A nl nc, .slice A' ml mc]] W (WPost B b (bs ++ Lib.byteCells (GV.enc (.mk 0 n s l ks ov))) W) := by
  have hlt := h.lt
  have H1 := Lib.hid (fun o => bld_str B b bs ⟨#[110, 117, 108, 108]⟩ (W.alloc o) (bld_alloc h o) (by show _ + 4 ≤ _; omega))
  rw [enc_0]
  clear h
  go_enter Tryd.func21, Tryd.ntmps21
  go_wp2_with (go_at_call 36; refine (H1.out _).mono ?_; rintro e W1 ⟨rfl, h1⟩; have K1 := Lib.hid h1; clear h1)
  go_end0
  exact ⟨rfl, K1.out.1, ((Wr.refl B b W).alloc (by omega) _).trans K1.out.2⟩
set_option maxHeartbeats 8000000 in
set_option maxRecDepth 100000 in
theorem w_val1 (n : Int) (hn : n = 0 ∨ n = 1) (s : ByteArray) (l : List GV) (ks : List ByteArray) (ov : List GV) (A A' : Option Addr) (nl nc ml mc : Nat) (B b : Nat) (bs : List Value) (W : World) (h : Bld B b bs W) (hlen : bs.length + 32 ≤ 140737488355328) :
    Calls Tryd.prog 21 #[.pointer (some ⟨b, 0, none⟩), .agg #[.int .u8 1, .int .i64 n, .string s, .slice A nl nc, .slice A' ml mc]] W (WPost B b (bs ++ Lib.byteCells (GV.enc (.mk 1 n s l ks ov))) W) := by
  have hlt := h.lt
  have H1 := Lib.hid (fun o t (ht : t.size ≤ 5) => bld_str B b bs t ((W.alloc o).drew) (bld_alloc h o) (by omega))
  have H2 := Lib.hid (fun (x : Bool) w => (Tryd.strconv_FormatBool x w).mono (R' := fun e w' => e = .returned (.string ⟨(Lib.formatBool x).toArray⟩) ∧ w = w') fun e w' hh => ⟨hh.1, hh.2.symm⟩)
  rw [enc_1]
  clear h
  rcases hn with rfl | rfl
  all_goals
    go_enter Tryd.func21, Tryd.ntmps21
    go_wp2_with fail
    go_region_with (first
      | (go_at_call 37; refine (H2.out _ _).mono ?_; rintro e W1 ⟨rfl, rfl⟩)
      | (go_at_call 36; refine (H1.out _ _ (by decide)).mono ?_; rintro e W1 ⟨rfl, h1⟩; have K1 := Lib.hid h1; clear h1))
    all_goals go_wp2_with fail
    all_goals go_end0
    all_goals exact ⟨rfl, K1.out.1, ((Wr.refl B b W).alloc (by omega) _).drew.trans K1.out.2⟩
set_option maxHeartbeats 8000000 in
set_option maxRecDepth 100000 in
theorem w_val2 (n : Int) (h0 : -9223372036854775808 ≤ n) (h1 : n ≤ 9223372036854775807) (s : ByteArray) (l : List GV) (ks : List ByteArray) (ov : List GV) (A A' : Option Addr) (nl nc ml mc : Nat) (B b : Nat) (bs : List Value) (W : World) (h : Bld B b bs W) (hT : TenB B W) (hlen : bs.length + 32 ≤ 140737488355328) :
    Calls Tryd.prog 21 #[.pointer (some ⟨b, 0, none⟩), .agg #[.int .u8 2, .int .i64 n, .string s, .slice A nl nc, .slice A' ml mc]] W (WPost B b (bs ++ Lib.byteCells (GV.enc (.mk 2 n s l ks ov))) W) := by
  have hlt := h.lt
  have hsz : ∀ o, B ≤ ((W.alloc o).drew).heap.size := fun o => by simp; omega
  have hlit := itoa_len h0 h1
  have H1 := Lib.hid (fun o W1 (hb : Below ((W.alloc o).drew).heap.size ((W.alloc o).drew) W1) => bld_str B b bs ⟨(Lib.itoa n).toArray⟩ W1 (bld_later (W := (W.alloc o).drew) (show Bld B b bs (W.alloc o).drew from bld_alloc h o) hb) (by show _ + (Lib.itoa n).length ≤ _; omega))
  have H2 := Lib.hid (fun o => (Tryd.strconv_FormatInt_10 n h0 h1 ((W.alloc o).drew) (hT.later (((Below.refl B W).alloc (by omega) o).drew)).here).mono (R' := fun e w' => e = .returned (.string ⟨(Lib.itoa n).toArray⟩) ∧ Below ((W.alloc o).drew).heap.size ((W.alloc o).drew) w') fun e w' hh => ⟨hh.1, grown_below hh.2⟩)
  have HW := Lib.hid (fun o W1 (hb : Below ((W.alloc o).drew).heap.size ((W.alloc o).drew) W1) => ((Wr.refl B b W).alloc (by omega) o).drew.later (hsz o) hb)
  have HL := Lib.hid (And.intro h0 h1)
  rw [enc_2]
  clear h hsz hT h0 h1 hlit
  go_enter Tryd.func21, Tryd.ntmps21
  go_wp2_with fail
  go_region_with (first
    | (go_at_call 38; refine (H2.out _).mono ?_; rintro e W1 ⟨rfl, h1⟩; have K1 := Lib.hid h1; clear h1)
    | (go_at_call 36; refine (H1.out _ _ K1.out).mono ?_; rintro e W2 ⟨rfl, h1⟩; have K2 := Lib.hid h1; clear h1))
  all_goals go_wp2_with fail
  all_goals go_end0
  all_goals exact ⟨rfl, K2.out.1, (HW.out _ _ K1.out).trans K2.out.2⟩
set_option maxHeartbeats 8000000 in
set_option maxRecDepth 100000 in
theorem w_val3 (n : Int) (s : ByteArray) (l : List GV) (ks : List ByteArray) (ov : List GV) (A A' : Option Addr) (nl nc ml mc : Nat) (B b : Nat) (bs : List Value) (W : World) (h : Bld B b bs W) (hlen : bs.length + 6 * s.size + 8 ≤ 140737488355328) :
    Calls Tryd.prog 21 #[.pointer (some ⟨b, 0, none⟩), .agg #[.int .u8 3, .int .i64 n, .string s, .slice A nl nc, .slice A' ml mc]] W (WPost B b (bs ++ Lib.byteCells (GV.enc (.mk 3 n s l ks ov))) W) := by
  have hlt := h.lt
  have H1 := Lib.hid (fun o => w_text B b bs s (W.alloc o) (bld_alloc h o) hlen)
  rw [enc_3]
  clear h
  go_enter Tryd.func21, Tryd.ntmps21
  go_wp2_with (go_at_call 39; refine (H1.out _).mono ?_; rintro e W1 ⟨rfl, h1⟩; have K1 := Lib.hid h1; clear h1)
  go_end0
  exact ⟨rfl, K1.out.1, ((Wr.refl B b W).alloc (by omega) _).trans K1.out.2⟩
set_option maxHeartbeats 8000000 in
set_option maxRecDepth 100000 in
theorem w_val4 (n : Int) (s : ByteArray) (l : List GV) (ks : List ByteArray) (ov : List GV) (hih : ∀ x ∈ l, WV x) (hRS : GV.RSs l) (A A' : Option Addr) (nc ml mc : Nat) (B b : Nat) (bs : List Value) (W : World) (hL : LstV (fun k => k < B) W (.slice A l.length nc) l) (h : Bld B b bs W) (hT : TenB B W) (hlen : bs.length + 32 * GV.weights l + 40 ≤ 140737488355328) :
    Calls Tryd.prog 21 #[.pointer (some ⟨b, 0, none⟩), .agg #[.int .u8 4, .int .i64 n, .string s, .slice A l.length nc, .slice A' ml mc]] W (WPost B b (bs ++ Lib.byteCells (GV.enc (.mk 4 n s l ks ov))) W) := by
  have hlt := h.lt
  have hF : ∀ o, From (fun k => k < B) W (W.alloc o) := fun o k hk _ => Below.heap_alloc _ _ _ (by omega)
  have H1 := Lib.hid (fun o => w_list l hih hRS B b bs _ (W.alloc o) (hL.keep (hF o) (fun _ h _ => h)) (bld_alloc h o) (hT.later ((Below.refl B W).alloc (by omega) o)) hlen)
  rw [enc_4]
  clear h hF hL hT hih hRS
  go_enter Tryd.func21, Tryd.ntmps21
  go_wp2_with (go_at_call 40; refine (H1.out _).mono ?_; rintro e W1 ⟨rfl, h1⟩; have K1 := Lib.hid h1; clear h1)
  go_end0
  exact ⟨rfl, K1.out.1, ((Wr.refl B b W).alloc (by omega) _).trans K1.out.2⟩
set_option maxHeartbeats 8000000 in
set_option maxRecDepth 100000 in
theorem w_val5 (n : Int) (s : ByteArray) (l : List GV) (ks : List ByteArray) (ov : List GV) (hih : ∀ x ∈ ov, WV x) (hRS : GV.RSs ov) (A A' : Option Addr) (nl nc mc : Nat) (B b : Nat) (bs : List Value) (W : World) (hO : ObjV (fun k => k < B) W (.slice A' ov.length mc) ks ov) (h : Bld B b bs W) (hT : TenB B W) (hlen : bs.length + 32 * ((ks.map (·.size)).sum + GV.weights ov) + 40 ≤ 140737488355328) :
    Calls Tryd.prog 21 #[.pointer (some ⟨b, 0, none⟩), .agg #[.int .u8 5, .int .i64 n, .string s, .slice A nl nc, .slice A' ov.length mc]] W (WPost B b (bs ++ Lib.byteCells (GV.enc (.mk 5 n s l ks ov))) W) := by
  have hlt := h.lt
  have hF : ∀ o, From (fun k => k < B) W (W.alloc o) := fun o k hk _ => Below.heap_alloc _ _ _ (by omega)
  have H1 := Lib.hid (fun o => w_object ks ov hih hRS B b bs _ (W.alloc o) (hO.keep (hF o) (fun _ h _ => h)) (bld_alloc h o) (hT.later ((Below.refl B W).alloc (by omega) o)) hlen)
  rw [enc_5]
  clear h hF hO hT hih hRS
  go_enter Tryd.func21, Tryd.ntmps21
  go_wp2_with (go_at_call 41; refine (H1.out _).mono ?_; rintro e W1 ⟨rfl, h1⟩; have K1 := Lib.hid h1; clear h1)
  go_end0
  exact ⟨rfl, K1.out.1, ((Wr.refl B b W).alloc (by omega) _).trans K1.out.2⟩

theorem size_mem' : ∀ (l : List GV) (x : GV), x ∈ l → x.size ≤ GV.sizes l
  | g :: r, x, hx => by
    simp only [GV.sizes]
    rcases List.mem_cons.1 hx with rfl | hx
    · omega
    · have := size_mem' r x hx; omega
theorem w_any : ∀ (n : Nat) (g : GV), g.size ≤ n → g.RS → WV g := by
  intro n
  induction n with
  | zero => intro g hg; cases g with | mk k n s l ks ov => simp [GV.size] at hg
  | succ n ih =>
    intro g hg hRS B b bs v W hv h hT hlen
    cases g with
    | mk k m s l ks ov =>
      simp only [GV.size] at hg
      simp only [GV.RS] at hRS
      simp only [GV.weight] at hlen
      obtain ⟨⟨h1, h2, h3, h4, h5, h6⟩, hl, ho⟩ := hRS
      obtain ⟨L, O, rfl, hL, hO⟩ := hv
      simp only [GV.kind, GV.num, GV.str, GV.items, GV.keys, GV.vals] at hL hO ⊢
      obtain ⟨A, c, rfl⟩ := lst_form hL
      obtain ⟨A', c', rfl⟩ := obj_form hO
      have ihl : ∀ x ∈ l, WV x := fun x hx => ih x (by have := size_mem' l x hx; omega) ((rss_iff l).1 hl x hx)
      have iho : ∀ x ∈ ov, WV x := fun x hx => ih x (by have := size_mem' ov x hx; omega) ((rss_iff ov).1 ho x hx)
      rcases h1 with rfl | rfl | rfl | rfl | rfl | rfl
      · exact w_val0 m s l ks ov _ _ _ _ _ _ B b bs W h (by omega)
      · exact w_val1 m (by omega) s l ks ov _ _ _ _ _ _ B b bs W h (by omega)
      · exact w_val2 m (by omega) (by omega) s l ks ov _ _ _ _ _ _ B b bs W h hT (by omega)
      · exact w_val3 m s l ks ov _ _ _ _ _ _ B b bs W h (by omega)
      · exact w_val4 m s l ks ov ihl hl _ _ _ _ _ B b bs W hL h hT (by omega)
      · exact w_val5 m s l ks ov iho ho _ _ _ _ _ B b bs W hO h hT (by omega)
end Go.Proofs.YtmmjkhkcffgeiaaDoor
