/- The document's own Get and Put, and Raw, in the form in which the statements call them. -/
import Derived.Test.YtbmfjchdmicdoaaDoorPTools
import Derived.Test.YtbmfjchdmicdoaaDoorRPut
import Derived.Test.YtbmfjchdmicdoaaDoorRawTop
namespace Go.Proofs.YtbmfjchdmicdoaaDoor
open Go Go.RowKit

def gzero : GV := .mk 0 0 ⟨#[]⟩ [] [] []
/-- What Get hands back, and what it tells. -/
def getG (g : GV) (ps : List GStep) : GV := (g.get ps).getD gzero
def getE (g : GV) (ps : List GStep) : Int := if (g.get ps).isSome then 0 else 30
def putG (g x : GV) (ps : List GStep) : GV := (g.put x ps).getD gzero
def putE (g x : GV) (ps : List GStep) : Int := if (g.put x ps).isSome then 0 else 30
theorem vl_zero (W : World) : Vl W gzero none none 0 0 := ⟨.inl ⟨rfl, rfl⟩, rfl, .inl ⟨rfl, rfl⟩⟩
theorem getE_is (g : GV) (ps : List GStep) : getE g ps = 0 ∨ getE g ps = 30 := by unfold getE; split <;> simp
theorem putE_is (g x : GV) (ps : List GStep) : putE g x ps = 0 ∨ putE g x ps = 30 := by unfold putE; split <;> simp
theorem getG_weight (g : GV) (ps : List GStep) : (getG g ps).weight ≤ g.weight + 1 := by
  unfold getG
  cases h : g.get ps with
  | none => simp [gzero, GV.weight, GV.weights]; exact Nat.le_add_left _ _
  | some y => have := get_weight ps g y h; simp; omega
theorem putG_weight (g x : GV) (ps : List GStep) : (putG g x ps).weight ≤ g.weight + x.weight + 1 := by
  unfold putG
  cases h : g.put x ps with
  | none => simp [gzero, GV.weight, GV.weights]; exact Nat.le_add_left _ _
  | some y => have := put_weight ps g y h; simp; omega
def AnyOut (k : IntKind) (g : GV) (er : Int) (W : World) (e : Ending) (w' : World) : Prop :=
  ∃ BL BO dL dO, e = .returned (.tuple #[.agg #[.int .u8 g.kind, .int .i64 g.num, .string g.str, .slice BL g.items.length dL, .slice BO g.vals.length dO], .int k er]) ∧ Vl w' g BL BO dL dO ∧ Below W.heap.size W w'

theorem get_any {W : World} {g : GV} {AL AO : Option Addr} {cL cO : Nat} {A : Option Addr} {c : Nat} {ps : List GStep} (hv : Vl W g AL AO cL cO) (hp : Wy W A c ps) (hw : g.weight ≤ 1000000000) :
    Calls Tryd.prog 14 #[.agg #[.int .u8 g.kind, .int .i64 g.num, .string g.str, .slice AL g.items.length cL, .slice AO g.vals.length cO], .slice A ps.length c] W (AnyOut .u16 (getG g ps) (getE g ps) W) :=
  (path_Get _ _ g W.heap.size A c ps W hv.val hp.steps (Nat.le_refl _) hp.le hp.cap hw).mono fun e' w' ⟨hb, hq⟩ => by
    unfold getG getE
    rcases hq with ⟨h1, he⟩ | ⟨h', v', h1, he, hv'⟩
    · rw [h1]; exact ⟨none, none, 0, 0, he, vl_zero w', hb⟩
    · rw [h1]
      obtain ⟨BL, BO, dL, dO, rfl, hv2⟩ := vl_of hv'
      exact ⟨BL, BO, dL, dO, he, hv2, hb⟩
theorem put_any {W : World} {g x : GV} {AL AO CL CO : Option Addr} {cL cO eL eO : Nat} {A : Option Addr} {c : Nat} {ps : List GStep} (hv : Vl W g AL AO cL cO) (hx : Vl W x CL CO eL eO) (hp : Wy W A c ps) (hw : g.weight ≤ 400000000) (hwx : x.weight ≤ 400000000) :
    Calls Tryd.prog 15 #[.agg #[.int .u8 g.kind, .int .i64 g.num, .string g.str, .slice AL g.items.length cL, .slice AO g.vals.length cO], .slice A ps.length c, .agg #[.int .u8 x.kind, .int .i64 x.num, .string x.str, .slice CL x.items.length eL, .slice CO x.vals.length eO]] W (AnyOut .u16 (putG g x ps) (putE g x ps) W) :=
  (path_Put _ _ _ g x W.heap.size A c ps W hv.val hx.val hp.steps (Nat.le_refl _) hp.le hp.cap hw hwx).mono fun e' w' ⟨hb, hq⟩ => by
    unfold putG putE
    rcases hq with ⟨h1, he⟩ | ⟨h', v', h1, he, hv'⟩
    · rw [h1]; exact ⟨none, none, 0, 0, he, vl_zero w', hb⟩
    · rw [h1]
      obtain ⟨BL, BO, dL, dO, rfl, hv2⟩ := vl_of hv'
      exact ⟨BL, BO, dL, dO, he, hv2, hb⟩
theorem rget_any {W : World} {g : GV} {AL AO : Option Addr} {cL cO : Nat} {A : Option Addr} {c : Nat} {ps : List GStep} (hv : Vl W g AL AO cL cO) (hp : Wy W A c ps) (hw : g.weight ≤ 1000000000) :
    Calls Tryd.prog 23 #[.agg #[.int .u8 g.kind, .int .i64 g.num, .string g.str, .slice AL g.items.length cL, .slice AO g.vals.length cO], .slice A ps.length c] W (AnyOut .i64 (getG g ps) (getE g ps) W) :=
  (ref_Get _ _ g W.heap.size A c ps W hv.val hp.steps (Nat.le_refl _) hp.le hp.cap (Nat.le_trans (size_le_weight g) hw)).mono fun e' w' ⟨hb, hq⟩ => by
    unfold getG getE
    rcases hq with ⟨h1, he⟩ | ⟨h', v', h1, he, hv'⟩
    · rw [h1]; exact ⟨none, none, 0, 0, he, vl_zero w', hb⟩
    · rw [h1]
      obtain ⟨BL, BO, dL, dO, rfl, hv2⟩ := vl_of hv'
      exact ⟨BL, BO, dL, dO, he, hv2, hb⟩
theorem rput_any {W : World} {g x : GV} {AL AO CL CO : Option Addr} {cL cO eL eO : Nat} {A : Option Addr} {c : Nat} {ps : List GStep} (hv : Vl W g AL AO cL cO) (hx : Vl W x CL CO eL eO) (hp : Wy W A c ps) (hw : g.weight ≤ 400000000) (hwx : x.weight ≤ 400000000) :
    Calls Tryd.prog 24 #[.agg #[.int .u8 g.kind, .int .i64 g.num, .string g.str, .slice AL g.items.length cL, .slice AO g.vals.length cO], .slice A ps.length c, .agg #[.int .u8 x.kind, .int .i64 x.num, .string x.str, .slice CL x.items.length eL, .slice CO x.vals.length eO]] W (AnyOut .i64 (putG g x ps) (putE g x ps) W) :=
  (ref_Put ps _ _ _ g x W.heap.size A c W hv.val hx.val hp.steps (Nat.le_refl _) hp.le hp.cap (Nat.le_trans (size_le_weight g) (by omega)) (Nat.le_trans (size_le_weight x) (by omega))).mono fun e' w' ⟨hb, hq⟩ => by
    unfold putG putE
    rcases hq with ⟨h1, he⟩ | ⟨h', v', h1, he, hv'⟩
    · rw [h1]; exact ⟨none, none, 0, 0, he, vl_zero w', hb⟩
    · rw [h1]
      obtain ⟨BL, BO, dL, dO, rfl, hv2⟩ := vl_of hv'
      exact ⟨BL, BO, dL, dO, he, hv2, hb⟩
def RawIs (W : World) (e : Ending) (w' : World) : Prop :=
  ∃ g BL BO dL dO, e = .returned (.agg #[.int .u8 g.kind, .int .i64 g.num, .string g.str, .slice BL g.items.length dL, .slice BO g.vals.length dO]) ∧ Vl w' g BL BO dL dO ∧ g.weight ≤ 6001 ∧ Below W.heap.size W w'
theorem raw_is (hi : Nat) (A : Option Addr) (cap : Nat) (ts : List GTok) (w : World) (hcap : ts.length ≤ cap) (hm : cap ≤ maxLen) (h200 : ts.length ≤ 200) (htot : tot ts ≤ 3000) (hhi : hi ≤ w.heap.size) (hT : Toks hi w A ts)
    (hr : ∀ t ∈ ts, 0 ≤ t.k ∧ t.k ≤ 255 ∧ 0 ≤ t.m ∧ t.m ≤ 255) : Calls Tryd.prog 21 #[.slice A ts.length cap] w (RawIs w) :=
  (Raw_any hi A cap ts w hcap hm h200 hhi hT hr).mono fun e w' ⟨g, v, he, hv, hw, hb⟩ => by
    obtain ⟨BL, BO, dL, dO, rfl, hv2⟩ := vl_of hv
    exact ⟨g, BL, BO, dL, dO, he, hv2, by omega, hb⟩
theorem get_some_E {g h : GV} {ps : List GStep} (e : g.get ps = some h) : getE g ps = 0 := by simp [getE, e]
theorem put_some_E {g x y : GV} {ps : List GStep} (e : g.put x ps = some y) : putE g x ps = 0 := by simp [putE, e]
theorem rget_is {W : World} {g h : GV} {AL AO : Option Addr} {cL cO : Nat} {A : Option Addr} {c : Nat} {ps : List GStep} (hv : Vl W g AL AO cL cO) (hp : Wy W A c ps) (hw : g.weight ≤ 1000000000) (e : g.get ps = some h) :
    Calls Tryd.prog 23 #[.agg #[.int .u8 g.kind, .int .i64 g.num, .string g.str, .slice AL g.items.length cL, .slice AO g.vals.length cO], .slice A ps.length c] W (AnyOut .i64 h 0 W) := by
  have := rget_any hv hp hw
  rwa [show getG g ps = h by simp [getG, e], get_some_E e] at this
theorem rput_is {W : World} {g x y : GV} {AL AO CL CO : Option Addr} {cL cO eL eO : Nat} {A : Option Addr} {c : Nat} {ps : List GStep} (hv : Vl W g AL AO cL cO) (hx : Vl W x CL CO eL eO) (hp : Wy W A c ps) (hw : g.weight ≤ 400000000) (hwx : x.weight ≤ 400000000) (e : g.put x ps = some y) :
    Calls Tryd.prog 24 #[.agg #[.int .u8 g.kind, .int .i64 g.num, .string g.str, .slice AL g.items.length cL, .slice AO g.vals.length cO], .slice A ps.length c, .agg #[.int .u8 x.kind, .int .i64 x.num, .string x.str, .slice CL x.items.length eL, .slice CO x.vals.length eO]] W (AnyOut .i64 y 0 W) := by
  have := rput_any hv hx hp hw hwx
  rwa [show putG g x ps = y by simp [putG, e], put_some_E e] at this
end Go.Proofs.YtbmfjchdmicdoaaDoor
