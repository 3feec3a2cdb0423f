/- The document's own Names; texts of any rows. -/
import Derived.Test.YtkieacidpiffpaaDsmG
namespace Go.Proofs.Ytkieacidpiffpaa
open Go Go.RowKit Go.Shelf
set_option linter.unusedVariables false
set_option linter.unusedSimpArgs false

def nmC (fs : List Vw) : List Value := fs.map fun f => .string f.name
theorem nmC_one (fs : List Vw) : ∀ u ∈ nmC fs, u.oneCell' = true := by
  intro u hu; obtain ⟨x, _, rfl⟩ := List.mem_map.1 hu; rfl
theorem nmC_next {fs : List Vw} {k : Nat} {f : Vw} (h : fs[k]? = some f) : nmC (fs.take k) ++ [.string f.name] = nmC (fs.take (k + 1)) := by
  unfold nmC; rw [List.take_add_one, h, List.map_append]; rfl
theorem one_from (w : World) (s : ByteArray) : ∀ ad, some (⟨w.heap.size, 0, none⟩ : Addr) = some ad → ∀ j u, ([.string s] : List Value)[j]? = some u → (w.alloc (.cells #[.string s] 9)).cell? (ad.add j) = some u := by
  intro ad e j u hj
  cases e
  have hlt := (List.getElem?_eq_some_iff.1 hj).1
  match j, hlt with
  | 0, _ =>
    have : u = .string s := by simpa using hj.symm
    subst this
    simp [Addr.add]
set_option maxHeartbeats 2000000 in
theorem rnames_any {w : World} {r : Rk} (h : RkAt w r) : Calls Try.prog 46 #[.pointer (some ⟨r.B, 0, none⟩)] w fun e w' =>
    ∃ A c, e = .returned (.slice A r.fs.length c) ∧ w'.ownsRow w.heap.size 9 1 (.slice A r.fs.length c) r.fs.length (nmC (rvs r.fs)) ∧ Below w.heap.size w w' := by
  obtain ⟨A, c, hF, c0, c1, c2, c3, c4, cf⟩ := h.shape
  have H := Lib.hid h
  have hm := h.many
  obtain ⟨n, hn⟩ : ∃ n, n = r.fs.length := ⟨_, rfl⟩
  rw [← hn] at c1 hm
  rw [← hn]
  have HN := Lib.hid hn
  have HC1 := Lib.hid c1
  obtain ⟨i0, hi, hz0, hz1, hz2⟩ := info_parts infoStr
  have HI := Lib.hid (And.intro hi (And.intro hz0 (And.intro hz1 hz2)))
  clear c0 c2 c3 c4 cf h hF hn hi hz0 hz1 hz2
  go_enter Try.func46, Try.ntmps46
  go_wp2
  go_loopw [3, 4] (fun v i W => ∃ k : Nat, k ≤ n ∧ i = .int .i64 k ∧ W.ownsRow w.heap.size 9 1 v k (nmC ((rvs r.fs).take k)) ∧ Below w.heap.size w W) (fun _ i _ => n - (intOf i).toNat)
  case atStart => exact ⟨0, Nat.zero_le _, rfl, World.ownsRow_nil _ _ _ _, Below.refl _ _⟩
  case round =>
    obtain ⟨k, hk, rfl, hown, hb⟩ := hrel
    have HO := Lib.hid (And.intro hown hb)
    have q1 := (hb.cell (p := ⟨r.B, 1, none⟩) (World.block_lt_of_cell? w _ HC1.out)).trans HC1.out
    have HB := Lib.hid (H.out.below hb)
    clear hown hb
    by_cases hlt : k < n
    · have hks : k < r.fs.length := by have := HN.out; omega
      obtain ⟨f, hf⟩ : ∃ f, r.fs[k]? = some f := ⟨_, List.getElem?_eq_getElem hks⟩
      obtain ⟨g, c', hF, t1, f0, f1, f2, ff, hg⟩ := HB.out.file hf
      rw [← HN.out, q1] at t1
      simp only [Option.some.injEq, Value.slice.injEq] at t1
      obtain ⟨rfl, _, rfl⟩ := t1
      have HX := Lib.hid (nmC_next (rvs_get hf))
      generalize f.vw.name = s at f0 HX
      clear hF f1 f2 ff hg hks hf c1
      go_wp2_with (at_builtin; refine wpList_append_from _ rfl (.tmp 14) (.tmp 23) 47 rfl w.heap.size 9 i0 _ 1 16 Try.underlying47 HI.out.1 HI.out.2.1 HI.out.2.2.1 HI.out.2.2.2 rfl (by decide) _ k (nmC ((rvs r.fs).take k)) rfl (HO.out.1.alloc _) (some ⟨_, 0, none⟩) 1 1 [.string s] rfl (fun h => by cases h) rfl (one_from _ s) (by intro u hu; simp at hu; subst hu; rfl) (by unfold maxLen; omega) (by omega) (by have := HO.out.2.size; simp; omega) ?_; intro v5 w5 hown hgrow hat; rw [HX.out] at hown; have hb5 := Below.grown (HO.out.2.alloc HO.out.2.size _) hgrow (by have := HO.out.2.size; simp; omega) (fun k hk => (HO.out.1.lt k hk).1); have H5 := Lib.hid (And.intro hown hb5); clear hown hgrow hat hb5)
      go_roundw
      case rel => exact ⟨k + 1, by omega, by go_num, H5.out.1, H5.out.2⟩
      case measure => simp [intOf]; omega
    · obtain rfl : k = n := by omega
      have HE : (rvs r.fs).take k = rvs r.fs := List.take_of_length_le (by unfold rvs; rw [List.length_map]; have := HN.out; omega)
      rw [HE] at HO
      obtain ⟨A', c', hv⟩ := own_shape HO.out.1
      subst hv
      clear HE hlt hk c1
      go_wp2
      go_ret
      exact ⟨A', c', rfl, HO.out.1, HO.out.2⟩
end Go.Proofs.Ytkieacidpiffpaa
