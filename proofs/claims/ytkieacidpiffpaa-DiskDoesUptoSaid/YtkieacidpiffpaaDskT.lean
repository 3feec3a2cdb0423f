/- Names: those of all files, rising. -/
import Derived.Test.YtkieacidpiffpaaDskL
import Derived.Sort.OwnSorted
import Derived.Sort.KeysCollected
namespace Go.Proofs.Ytkieacidpiffpaa
open Go Go.RowKit Go.Shelf
set_option linter.unusedVariables false
set_option linter.unusedSimpArgs false

theorem infoStr : (Try.prog.info? 9).map (fun i => (i.zero, i.size, i.bytes)) = some (some (.string ⟨#[]⟩), 1, 16) := by kernel_rfl
theorem make_strs (n : Nat) (hn : n ≤ 1000000) (w : World) : (Instr.makeSlice 47 (.int .i64 0) (.int .i64 (n : Int))).run Try.prog w = .ok (.slice (some ⟨w.heap.size, 0, none⟩) 0 n) (w.alloc (.cells (madeCells #[.string ⟨#[]⟩] n) 9)) := by
  obtain ⟨i0, hi, hz0, hz1, hz2⟩ := info_parts infoStr
  have := run_make (P := Try.prog) (w := w) 47 9 i0 _ Try.underlying47 hi hz0 .i64 .i64 0 n (by omega) (by omega) (by rw [hz2]; omega) (by omega)
  simp only [hz1, Nat.mul_one] at this
  exact this
theorem own_strs (w : World) (n : Nat) (hn : n ≤ 1000000) : (w.alloc (.cells (madeCells #[.string ⟨#[]⟩] n) 9)).ownsRow w.heap.size 9 1 (.slice (some ⟨w.heap.size, 0, none⟩) 0 n) 0 [] :=
  World.ownsRow_made w _ n (Nat.le_refl _) (by unfold maxLen; omega) (by rw [size_madeCells, Nat.mul_one])
abbrev nmL (s : ByteArray) : List UInt8 := s.data.toList
theorem enc_nm (s : ByteArray) : encStr (nmL s) = .string s := by
  cases s; simp [encStr, nmL]
def nms (fs : List Fl) (lf : ByteArray → Bool) : List (List UInt8) := (fs.filter fun f => !lf f.vw.name).map fun f => nmL f.vw.name
theorem nms_none (fs : List Fl) : nms fs (fun s => (lookF fs s).isSome) = [] := by
  unfold nms
  have : fs.filter (fun f => !(lookF fs f.vw.name).isSome) = [] := by
    rw [List.filter_eq_nil_iff]
    intro f hf h
    rw [Bool.not_eq_true', Option.isSome_eq_false_iff, Option.isNone_iff_eq_none] at h
    exact lookF_none h f hf rfl
  rw [this]; rfl
theorem nms_all {fs : List Fl} {lf : ByteArray → Bool} (h : ∀ s, lf s = false) : nms fs lf = fs.map fun f => nmL f.vw.name := by
  unfold nms
  rw [List.filter_eq_self.2 fun f _ => by simp [h]]
theorem nms_le (fs : List Fl) (lf : ByteArray → Bool) : (nms fs lf).length ≤ fs.length := by
  unfold nms; rw [List.length_map]; exact List.length_filter_le _ _
theorem nms_step {fs : List Fl} (hp : fs.Pairwise fun f g => f.vw.name ≠ g.vw.name) {f : Fl} (hl : lookF fs f.vw.name = some f) {lf : ByteArray → Bool} (hf : lf f.vw.name = true) :
    (nms fs fun s => lf s && !decide (s = f.vw.name)).Perm (nms fs lf ++ [nmL f.vw.name]) := by
  have hm := (lookF_some hl).1
  clear hl
  refine List.Perm.trans ?_ (List.perm_append_singleton _ _).symm
  unfold nms
  show List.Perm (List.map (fun g : Fl => nmL g.vw.name) _) (List.map (fun g : Fl => nmL g.vw.name) (f :: fs.filter fun g => !lf g.vw.name))
  refine List.Perm.map _ ?_
  induction fs with
  | nil => cases hm
  | cons a r ih =>
    obtain ⟨h1, h2⟩ := List.pairwise_cons.1 hp
    rcases List.mem_cons.1 hm with rfl | hm
    · have hr : r.filter (fun g => !(lf g.vw.name && !decide (g.vw.name = f.vw.name))) = r.filter (fun g => !lf g.vw.name) := List.filter_congr fun g hg => by
        have hd : decide (g.vw.name = f.vw.name) = false := decide_eq_false fun e => h1 g hg e.symm
        rw [hd]; simp
      rw [List.filter_cons, List.filter_cons, hr]
      simp only [decide_true, Bool.not_true, Bool.and_false, Bool.not_false, if_true, hf, Bool.false_eq_true, if_false]
      exact List.Perm.refl _
    · have hne := h1 f hm
      have := ih h2 hm
      rw [List.filter_cons, List.filter_cons]
      simp only [hne, decide_false, Bool.not_false, Bool.and_true]
      split
      · exact (List.Perm.cons a this).trans (List.Perm.swap _ _ _)
      · exact this
structure NmSt (w : World) (d : Dk) (lf : ByteArray → Bool) (cnt : Nat) (ss : List (List UInt8)) (v : Value) (W : World) : Prop where
  rng : Rng W d.M (w.heap.size + 1) d.fs lf cnt
  row : W.ownsRow w.heap.size 9 1 v ss.length (ss.map encStr)
  perm : ss.Perm (nms d.fs lf)
  below : Below w.heap.size w W
  sm : v ≠ .slice none 0 0
theorem NmSt.le {w W : World} {d : Dk} {lf : ByteArray → Bool} {cnt : Nat} {ss : List (List UInt8)} {v : Value} (h : NmSt w d lf cnt ss v W) : ss.length ≤ d.fs.length := by
  rw [h.perm.length_eq]; exact nms_le _ _
theorem NmSt.apart {w W : World} {d : Dk} {lf : ByteArray → Bool} {cnt : Nat} {ss : List (List UInt8)} {v : Value} (h : NmSt w d lf cnt ss v W) : some (w.heap.size + 1) ≠ v.ownBlock := by
  obtain ⟨D, left, n, h1, _⟩ := h.rng; exact row_ne_iter h.row h1
theorem NmSt.row1 {w W W1 W2 : World} {d : Dk} {lf : ByteArray → Bool} {cnt : Nat} {ss : List (List UInt8)} {v : Value} (h : NmSt w d lf cnt ss v W) (hk1 : ∀ k, k < W.heap.size → k ≠ w.heap.size + 1 → W1.heap[k]? = W.heap[k]?) (hs1 : W1.heap.size = W.heap.size) (hb : Below W1.heap.size W1 W2) : W2.ownsRow w.heap.size 9 1 v ss.length (ss.map encStr) := by
  have hlt := World.ownsRow.lt h.row
  refine ⟨h.row.1, h.row.2.imp id ?_⟩
  rintro ⟨g, cap, cur, rfl, hg, hw, r⟩
  have h1 := hlt g rfl
  exact ⟨g, cap, cur, rfl, hg, ((hb.block g (by omega)).trans (hk1 g h1.2 (fun e => h.apart (by rw [e]; rfl)))).trans hw, r⟩
theorem NmSt.step {w W W1 W3 W4 : World} {d : Dk} {lf : ByteArray → Bool} {cnt cnt1 : Nat} {ss : List (List UInt8)} {v v' : Value} {f : Fl} (hd : DkAt w d) (h : NmSt w d lf cnt ss v W) (hf : lookF d.fs f.vw.name = some f) (hlf : lf f.vw.name = true)
    (hrg : Rng W1 d.M (w.heap.size + 1) d.fs (fun s => lf s && !decide (s = f.vw.name)) cnt1) (hkp : Kp (fun i => i = w.heap.size + 1) W W1) (hs1 : W1.heap.size = W.heap.size) (hb : Below W1.heap.size W1 W3)
    (ho : W4.ownsRow w.heap.size 9 1 v' (ss.length + 1) (ss.map encStr ++ [.string f.vw.name])) (hg : W3.grownBy W4 v.ownBlock) (hat : v'.ownBlock = v.ownBlock ∨ v'.ownBlock = some W3.heap.size) (hn : v' ≠ .slice none 0 0) :
    NmSt w d (fun s => lf s && !decide (s = f.vw.name)) cnt1 (ss ++ [nmL f.vw.name]) v' W4 := by
  have hlt := World.ownsRow.lt h.row
  have hsz := h.below.size
  have hrl := hrg.lt
  have hM := hd.mlt
  have h3 := hb.size
  refine ⟨hrg.of_eq ?_ ?_, ?_, ?_, ?_, hn⟩
  · refine (hg.block _ (by omega) fun e => ?_).trans (hb.block _ (by omega))
    have := (hlt _ e.symm).1; omega
  · exact (hg.block _ (by omega) h.apart).trans (hb.block _ hrl)
  · rw [List.length_append, List.map_append, List.map_cons, List.map_nil, enc_nm]; exact ho
  · exact (h.perm.append_right _).trans (nms_step hd.names hf hlf).symm
  · have h1 : Below w.heap.size w W1 := h.below.trans (hkp.below hsz fun i hi => by rw [hi]; omega)
    exact (h1.trans (hb.mono (by have := h1.size; omega))).grown hg (by have := h1.size; omega) fun k hk => (hlt k hk).1
def NamesOut (d : Dk) (w : World) (e : Ending) (w' : World) : Prop :=
  ∃ g c, e = .returned (.slice (some ⟨g, 0, none⟩) d.fs.length c) ∧ w'.ownsRow w.heap.size 9 1 (.slice (some ⟨g, 0, none⟩) d.fs.length c) d.fs.length (((d.fs.map fun f => nmL f.vw.name).mergeSort fun x y => decide (x ≤ y)).map encStr) ∧ Below w.heap.size w w'
set_option maxRecDepth 100000 in
set_option maxHeartbeats 2000000 in
theorem names_any {w : World} {d : Dk} (h : DkAt w d) : Calls Try.prog 22 #[.pointer (some ⟨d.B, 0, none⟩)] w (NamesOut d w) := by
  obtain ⟨c0, c1, c2, c3, cf⟩ := h.cells
  have H := Lib.hid h
  obtain ⟨D, hown, hrd⟩ := h.map
  have hlen := fun ty => hrd.size ▸ hown.len Try.underlying53 ty
  have hmk := make_strs d.fs.length (by have := h.many; omega)
  have HM := Lib.hid (own_strs w d.fs.length (by have := h.many; omega))
  have H1 := Lib.hid (h.alloc (.cells (madeCells #[.string ⟨#[]⟩] d.fs.length) 9))
  have HB := Lib.hid (show Below w.heap.size w (w.alloc (.cells (madeCells #[.string ⟨#[]⟩] d.fs.length) 9)) from (Below.refl _ _).alloc (Nat.le_refl _) _)
  obtain ⟨i0, hi, hz0, hz1, hz2⟩ := info_parts infoStr
  have HI := Lib.hid (And.intro hi (And.intro hz0 (And.intro hz1 hz2)))
  clear c0 c2 c3 cf h hown hrd hi hz0 hz1 hz2
  have c1a := cell_alloc (.cells (madeCells #[.string ⟨#[]⟩] d.fs.length) 9) c1
  go_enter Try.func22, Try.ntmps22
  go_wp2_with (first | (at_range; refine wpList_range_dk _ rfl _ rfl rfl H1.out ?_; intro w0 hrg0 hb0 hs0) | go_in)
  go_frame
  simp only [World.size_alloc]
  have hst0 : NmSt w d (fun s => (lookF d.fs s).isSome) d.fs.length [] (.slice (some ⟨w.heap.size, 0, none⟩) 0 d.fs.length) w0 :=
    ⟨by have := hrg0; simpa using this, by
      have h1 := HM.out
      refine ⟨h1.1, h1.2.imp id ?_⟩
      rintro ⟨g, cap, cur, e, hg, hw, r⟩
      cases e
      exact ⟨_, _, cur, rfl, hg, (hb0.block _ (by simp)).trans hw, r⟩, by rw [nms_none], HB.out.trans (hb0.mono (by simp)), fun e => by cases e⟩
  have HS0 := Lib.hid hst0
  clear hst0 hrg0 hb0 hs0 hmk c1a hlen
  go_loopw [3] (fun v W => ∃ lf cnt ss, NmSt w d lf cnt ss v W) (fun _ W => W.rangeLeft d.M (w.heap.size + 1))
  case atStart => exact ⟨_, _, _, HS0.out⟩
  case round =>
    obtain ⟨lf, cnt, ss, hst⟩ := hrel
    have HST := Lib.hid hst
    obtain ⟨V, vc, rfl⟩ := own_shape hst.row
    have hsl := hst.le
    have hmany := H.out.many
    have HL := Lib.hid (show ss.length ≤ 64 by omega)
    clear hst hsl hmany
    go_wp2_with (first | (at_next; refine wpList_next_dk _ rfl _ rfl (by simp [Act.eval]) HST.out.rng ?_ ?_) | go_in)
    · intro hl0
      obtain ⟨g, cap, cur, hV, hbase, hb, h1, h2, h3, h4⟩ := HST.out.row.2.resolve_left fun h => HST.out.sm h.1
      cases hV
      have hp : ss.Perm (d.fs.map fun f => nmL f.vw.name) := by have := HST.out.perm; rwa [nms_all hl0] at this
      have hlen : ss.length = d.fs.length := by rw [hp.length_eq, List.length_map]
      have hgl : g < wr.heap.size := (Array.getElem?_eq_some_iff.1 hb).1
      have hc := Try.slices_Sort_string g 0 vc ss wr (holds_of_block hb (by simpa using h4)) hgl (by have := HL.out; omega)
      have hms : ss.mergeSort (fun x y => decide (x ≤ y)) = (d.fs.map fun f => nmL f.vw.name).mergeSort fun x y => decide (x ≤ y) := mergeSort_of_perm hp
      have HC := Lib.hid hc
      have HR : Hid (∀ (nn : Nat) (os : Array Obj), NamesOut d w (.returned (.slice (some ⟨g, 0, none⟩) ss.length vc)) (Go.Sort.grow (Go.Sort.putRow encStr (Go.Sort.ahead wr nn) g 0 (ss.mergeSort fun x y => decide (x ≤ y)).toArray) os)) := Lib.hid fun nn os => by
        refine ⟨g, vc, by rw [hlen], ?_, HST.out.below.grown (grownBy_sorted _) HST.out.below.size fun j hj => by cases hj; exact hbase⟩
        have := ownsRow_sorted (ts := ss.mergeSort fun x y => decide (x ≤ y)) (n := nn) (os := os) (by simp) hbase hb h1 h2 h3
        rw [hlen, hms] at this
        rw [hms]; exact this
      clear hl0 hbase hb h1 h2 h3 h4 hp hlen hgl hc hms
      go_wp2_with (go_at_call 49; refine HC.out.mono ?_; rintro e w9 ⟨rfl, nn, os, rfl⟩)
      go_ret
      exact HR.out nn os
    · intro f w1 cnt1 hf hlf hrg1 hlt hk1 hkp hs1 hen
      have hnm := (H.out.files f (lookF_some hf).1).name
      have HCL := Lib.hid (sclone_any f.vw.name w1 (by omega))
      have HX := Lib.hid (And.intro hf (And.intro hlf (And.intro hrg1 (And.intro hlt (And.intro hk1 (And.intro hkp hs1))))))
      clear hf hlf hrg1 hlt hk1 hkp hs1 hnm
      go_wp2_with (first
        | (go_at_call 29; refine HCL.out.mono ?_; rintro e w2 ⟨rfl, hb2⟩; have HB2 := Lib.hid hb2; have HB3 := Lib.hid (show Below w1.heap.size w1 (w2.alloc (.cells #[.string f.vw.name] 9)) from hb2.trans ((Below.refl _ _).alloc (Nat.le_refl _) _ |>.mono hb2.size)); clear hb2)
        | (at_builtin; refine wpList_append_from _ rfl (.tmp 20) (.tmp 23) 47 rfl w.heap.size 9 i0 _ 1 16 Try.underlying47 HI.out.1 HI.out.2.1 HI.out.2.2.1 HI.out.2.2.2 rfl (by decide) (.slice V ss.length vc) ss.length (ss.map encStr) rfl (HST.out.row1 HX.out.2.2.2.2.1 HX.out.2.2.2.2.2.2 HB3.out) (some ⟨w2.heap.size, 0, none⟩) 1 1 [.string f.vw.name] rfl (fun e => by cases e) rfl (fun ad e => by cases e; exact cell_one_new _ _ _) (fun u hu => by simp at hu; subst hu; rfl) (by have := HL.out; unfold maxLen; omega) (by have := HL.out; omega) (by have := HST.out.below.size; have := HB2.out.size; have := HX.out.2.2.2.2.2.2; simp; omega) ?_; intro v' w4 hown hgrow hat; obtain ⟨V4, vc4, rfl⟩ := own_shape hown; have H4 := Lib.hid (HST.out.step H.out HX.out.1 HX.out.2.1 HX.out.2.2.1 HX.out.2.2.2.2.2.1 HX.out.2.2.2.2.2.2 HB3.out hown hgrow hat (fun e => by cases e)); clear hown hgrow hat))
      go_roundw
      case rel => exact ⟨_, _, _, H4.out⟩
      case measure => rw [H4.out.rng.left_eq, HST.out.rng.left_eq]; exact HX.out.2.2.2.1
end Go.Proofs.Ytkieacidpiffpaa
