/- Layer 2's rows: what all of them share. -/
import Derived.Test.YtmmjkhkcffgeiaaDoorJLawX
import Derived.Test.YtmmjkhkcffgeiaaDoorOpen
import Derived.Test.YtmmjkhkcffgeiaaDoorCards
import Derived.Test.YtmmjkhkcffgeiaaDoorTie
import Derived.Stop.Joined
import Derived.SevenTiedAt
import Derived.LaidLaws
import Derived.Lib.LaidU8T
namespace Go.Proofs.YtmmjkhkcffgeiaaDoor
open Go Go.ChangeShapes Go.WideShapes Go.ChangeAt Go.RowKit Go.Lib Go.Shelf
set_option linter.unusedVariables false
set_option linter.unusedSimpArgs false

theorem own : ownKnob Tryd.prog.godebug = none := by kernel_rfl
theorem first_eq : Pinned.utf8First = firstData := by kernel_rfl
theorem accept_eq : (Rows.laid_unicode_utf8_acceptRanges : DataW Unit) = acceptData := by kernel_rfl
theorem pow_eq : (Rows.laid_internal_strconv_uint64pow10 : DataW Unit) = tabData .u64 pow10Tab := by kernel_rfl
def laids : List (String × DataW Unit) := [("math/bits.deBruijn32tab", Rows.laid_math_bits_deBruijn32tab), ("math/bits.deBruijn64tab", Rows.laid_math_bits_deBruijn64tab), ("internal/strconv.uint64pow10", Rows.laid_internal_strconv_uint64pow10), ("unicode/utf8.acceptRanges", Rows.laid_unicode_utf8_acceptRanges), ("strconv.ErrRange", Rows.laid_strconv_ErrRange), ("strconv.ErrSyntax", Rows.laid_strconv_ErrSyntax), ("unicode/utf8.first", Rows.laid_unicode_utf8_first)]
theorem laidOut : laidOutB Tryd.prog = true := by kernel_rfl
theorem weigh {H : Type} {P : Program} {ts : List TypeId} {ds : List (DataW H)} {j : Nat} {t : TypeId} {d : DataW H} (h : (DataW.weightsEach P ts ds).all (· ≤ reachBytes) = true) (hd : ds[j]? = some d) (ht : ts[j]? = some t) : ∀ n ∈ d.weights P t, n ≤ reachBytes := fun n hn => by
  simpa using List.all_eq_true.1 h n (DataW.weights_mem_each ht hd n hn)
/-- A variable that is an error's holds one. -/
theorem err_reads {W : World} {name nm : String} {d : DataW Unit} (g : Nat) (t : TypeId) (ms : Array (String × TypeId)) (hg : Tryd.prog.globalNamed name = some g) (hy : (Tryd.prog.globals[g]?).map (·.type) = some t) (ht : Tryd.prog.underlying t = some (.interface ms))
    (h : VarReads Tryd.prog W name (.iface nm d)) : ∃ u v, W.cell? ⟨g, 0, none⟩ = some (.iface u v) := by
  obtain ⟨g', t', cs, fuel, p, hg', hy', hvar, hd⟩ := h
  obtain rfl := Option.some.inj (hg.symm.trans hg')
  obtain rfl := Option.some.inj (hy.symm.trans hy')
  obtain ⟨f, u, v, hcs, _⟩ := iface_of_trod ht hd
  refine ⟨u, v, ?_⟩
  rw [World.var?_cell hg hvar 0, ← Array.getElem?_toList, hcs]
  rfl
theorem tab_reads {W : World} {name : String} {k : IntKind} {zs : List Int} (g : Nat) (t e : TypeId) (n : Nat) (hg : Tryd.prog.globalNamed name = some g) (hy : (Tryd.prog.globals[g]?).map (·.type) = some t) (ht : Tryd.prog.underlying t = some (.array n e)) (he : Tryd.prog.underlying e = some (.int k)) (hce : Tryd.prog.cellsOf e = 1) (hct : Tryd.prog.cellsOf t = n)
    (h : VarReads Tryd.prog W name (tabData k zs)) : TabIs Tryd.prog W name k zs := by
  obtain ⟨g', t', cs, fuel, p, hg', hy', hvar, hd⟩ := h
  obtain rfl := Option.some.inj (hg.symm.trans hg')
  obtain rfl := Option.some.inj (hy.symm.trans hy')
  unfold TabIs
  rw [hvar, ← cells_of_tab ht he hce hct hd]
theorem jt_of_laid {W : World} (h : laidMetH Tryd.prog laids W) : JT W := by
  rw [MakeChecks.laidMetH_plain _ _ _ (by kernel_rfl)] at h
  have h3 := Lib.laidMet.reads h (.tail _ (.tail _ (.head _)))
  have h4 := Lib.laidMet.reads h (.tail _ (.tail _ (.tail _ (.head _))))
  have h5 := Lib.laidMet.reads h (.tail _ (.tail _ (.tail _ (.tail _ (.head _)))))
  have h6 := Lib.laidMet.reads h (.tail _ (.tail _ (.tail _ (.tail _ (.tail _ (.head _))))))
  have h7 := Lib.laidMet.reads h (.tail _ (.tail _ (.tail _ (.tail _ (.tail _ (.tail _ (.head _)))))))
  unfold Rows.laid_unicode_utf8_first at h7
  rw [first_eq] at h7
  rw [accept_eq] at h4
  rw [pow_eq] at h3
  obtain ⟨u5, v5, c5⟩ := err_reads 6 54 _ (by kernel_rfl) (by kernel_rfl) Tryd.underlying54 h5
  obtain ⟨u6, v6, c6⟩ := err_reads 5 54 _ (by kernel_rfl) (by kernel_rfl) Tryd.underlying54 h6
  refine ⟨utf8Tabs_of_readsT (U8Types.of196 Tryd.laysValid) ⟨by kernel_rfl, by kernel_rfl, by kernel_rfl, by kernel_rfl, by kernel_rfl, by kernel_rfl, by kernel_rfl⟩ h7 h4, ⟨.iface u6 v6, .iface u5 v5, fun W' hb => ⟨?_, ?_⟩, .inr ⟨_, _, rfl⟩, .inr ⟨_, _, rfl⟩⟩, ?_⟩
  · exact (hb.cell (p := ⟨5, 0, none⟩) (World.block_lt_of_cell? _ _ c6)).trans c6
  · exact (hb.cell (p := ⟨6, 0, none⟩) (World.block_lt_of_cell? _ _ c5)).trans c5
  · exact tab_reads 2 116 102 20 (by kernel_rfl) (by kernel_rfl) Tryd.underlying116 Tryd.underlying102 (by kernel_rfl) (by kernel_rfl) h3
theorem laid_met (os : Os) (args : Array Value) : laidMetH Tryd.prog laids ((World.laidAll Tryd.prog os laids).forCall (fun _ _ => 0) ⟨#[], args, []⟩).memory := by
  rw [MakeChecks.laidMetH_plain _ _ _ (by kernel_rfl)]
  exact laidMet_laidAll _ (by kernel_rfl) (by kernel_rfl)
end Go.Proofs.YtmmjkhkcffgeiaaDoor
