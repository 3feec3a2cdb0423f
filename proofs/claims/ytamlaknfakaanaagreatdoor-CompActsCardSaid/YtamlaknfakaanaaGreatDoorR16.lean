/- What the statements on paths call, in one form each. -/
import Derived.Test.YtamlaknfakaanaaGreatDoorR12
import Derived.Test.YtamlaknfakaanaaGreatDoorR14
import Derived.Test.YtamlaknfakaanaaGreatDoorR15
import Derived.Test.YtamlaknfakaanaaGreatDoorR13
namespace Go.Proofs.YtamlaknfakaanaaGreatDoor
open Go Go.RowKit
structure Wy (W:World) (A:Option Addr) (c:Nat) (ps:List GStep):Prop where
 steps:Steps W.heap.size W A ps
 le:ps.length≤c
 cap:c≤maxLen
theorem Wy.later {W W':World} {A:Option Addr} {c:Nat} {ps:List GStep} (h:Wy W A c ps) (hb:Below W.heap.size W W'):Wy W' A c ps:=⟨h.steps.keep hb hb.size,h.le,h.cap⟩
def ValOk (g:GV) (W:World) (e:Ending) (w':World):Prop:=
 ∃ BL BO dL dO,e=.returned (.tuple #[.agg #[.int .u8 g.kind,.int .i64 g.num,.string g.str,.slice BL g.items.length dL,.slice BO g.vals.length dO],.int .u16 0])∧Vl w' g BL BO dL dO∧Below W.heap.size W w'
def WalkIs (g:GV) (W:World) (e:Ending) (w':World):Prop:=
 ∃ (A:Option Addr) (c:Nat) (ps:List GStep) (h:GV),e=.returned (.slice A ps.length c)∧Wy w' A c ps∧g.get ps=some h∧(ps.length≤8∧∀ s∈ps,Clean s)∧Below W.heap.size W w'
theorem walk_is {W:World} {g:GV} {AL AO:Option Addr} {cL cO:Nat} (hv:Vl W g AL AO cL cO) (hg:g.Sound) (hgw:g.weight≤1000000000) (hi:Nat) (A:Option Addr) (cap:Nat) (bs:List Int) (hB:Bytes hi W A bs) (hb255:∀ x∈bs,0≤x∧x≤255) (hhi:hi≤W.heap.size) (hcap:bs.length≤cap) (hm:cap≤maxLen):
  Calls Tryz.prog 31 #[.agg #[.int .u8 g.kind,.int .i64 g.num,.string g.str,.slice AL g.items.length cL,.slice AO g.vals.length cO],.slice A bs.length cap] W (WalkIs g W):=
 (walk_any _ _ g hi A cap bs W hv.val hg hgw hB hb255 hhi hcap hm).mono fun _ _ ⟨A',c,ps,h,he,h1,h2,h3,h4,h5,h6,hb⟩=>⟨A',c,ps,h,he,⟨h4,h1,h2⟩,h5,⟨h3,h6⟩,hb⟩
theorem Bytes.keep {hi hi':Nat} {W W':World} {A:Option Addr} {bs:List Int} (hb:Below hi W W') (hhi:hi≤hi') (h:Bytes hi W A bs):Bytes hi' W' A bs:=fun hn=>by
 obtain ⟨b,o,rfl,hl,hc⟩:=h hn
 exact ⟨b,o,rfl,by omega,fun i x hx=>(hb.cell (p:=⟨b,o+i,none⟩) hl).trans (hc i x hx)⟩
theorem put_cons {x g y:GV} {s:GStep} {r:List GStep} (e:g.put x (s :: r)=some y):∃ h z,g.inside s=some h∧h.put x r=some z∧y=g.setIn s z:=by
 simp only [GV.put] at e
 cases hi:g.inside s with
 | none=>rw [hi] at e;cases e
 | some h=>
  rw [hi] at e
  simp only [Option.bind_some] at e
  cases hp:h.put x r with
  | none=>rw [hp] at e;cases e
  | some z=>
   rw [hp] at e
   simp only [Option.map_some,Option.some.injEq] at e
   exact ⟨h,z,rfl,hp,e.symm⟩
theorem setIn_sound {g h z:GV} {s:GStep} (hg:g.Sound) (hz:z.Sound) (hi:g.inside s=some h):(g.setIn s z).Sound:=by
 have hne:∀ (l:List GV) (k:Nat) (a:GV),l[k]? = some a→l≠[]:=fun l k a e e2=>by rw [e2] at e;simp at e
 cases g with
 | mk k n zs l ks ov=>
  simp only [GV.Sound,sounds_iff] at hg
  obtain ⟨⟨h1,h2,h3,h4,h5⟩,hl,ho⟩:=hg
  have hm:∀ (l:List GV) (k:Nat),(∀ x∈l,x.Sound)→∀ x∈l.set k z,x.Sound:=fun l k h x hx=>(List.mem_or_eq_of_mem_set hx).elim (h x) (fun e=>e ▸ hz)
  rcases inside_cases hi with ⟨hs,hk,k',hik,hgx⟩ | ⟨hs,hk,ht,hgx⟩
  ·simp only [GV.kind] at hk
   simp only [GV.setIn,hs,if_true,GV.kind,GV.num,GV.str,GV.items,GV.keys,GV.vals,GV.Sound,sounds_iff]
   exact ⟨⟨h1,h2,h3,.inl hk,h5⟩,hm _ _ hl,ho⟩
  ·simp only [GV.kind] at hk
   simp only [GV.setIn,hs,GV.kind,GV.num,GV.str,GV.items,GV.keys,GV.vals,GV.Sound,sounds_iff,Bool.false_eq_true,if_false]
   refine ⟨⟨h1,h2,h3,h4,.inl ⟨hk,?_⟩⟩,hl,hm _ _ ho⟩
   rcases h5 with h | h
   ·exact h.2
   ·exact absurd hk h.1
theorem put_sound {x:GV} (hx:x.Sound):∀ (p:List GStep) (g y:GV),g.Sound→g.put x p=some y→y.Sound
 | [],g,y,_,e=>by simp [GV.put] at e;subst e;exact hx
 | s :: r,g,y,hg,e=>by
  obtain ⟨h,z,hi,hp,rfl⟩:=put_cons e
  have hh:h.Sound:=by
   rcases inside_cases hi with ⟨_,_,k',_,hgx⟩ | ⟨_,_,_,hgx⟩
   ·exact (sound_parts hg).2.1 h (List.mem_of_getElem? hgx)
   ·exact (sound_parts hg).2.2 h (List.mem_of_getElem? hgx)
  exact setIn_sound hg (put_sound hx r h z hh hp) hi
mutual
theorem sound_pos:∀ (g:GV),g.Sound→g.Pos
 | .mk k n s l ks ov,h=>by
  simp only [GV.Sound] at h
  simp only [GV.Pos]
  exact ⟨by have:=h.1.1;omega,sounds_pos l h.2.1,sounds_pos ov h.2.2⟩
theorem sounds_pos:∀ (l:List GV),GV.Sounds l→GV.Poss l
 | [],_=>by simp [GV.Poss]
 | x :: r,h=>by
  simp only [GV.Sounds] at h
  simp only [GV.Poss]
  exact ⟨sound_pos x h.1,sounds_pos r h.2⟩
end
theorem sound_is {W:World} {g:GV} {AL AO:Option Addr} {cL cO:Nat} (hv:Vl W g AL AO cL cO) (hg:g.Sound) (hw:g.weight≤1000000000) (hT:Tabs W):
  Calls Tryz.prog 17 #[.agg #[.int .u8 g.kind,.int .i64 g.num,.string g.str,.slice AL g.items.length cL,.slice AO g.vals.length cO]] W fun e w'=>e=.returned (.bool true)∧Below W.heap.size W w':=
 (ref_Sound g.size _ _ g W (Nat.le_refl _) hv.val hw (sound_pos g hg) hT).mono fun e w' ⟨b,he,hb,hw'⟩=>⟨by rw [he,hb.2 hg],hw'⟩
end Go.Proofs.YtamlaknfakaanaaGreatDoor
