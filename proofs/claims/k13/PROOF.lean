import PyProof.Rows.All
import Wide.All
import OpenK.AllK
import Wide.FinOn
import HandS.ForMost
import HandS.Evl
import HandS.DictComp
import HandS.IsInst
import HandS.Conv
import HandS.Rev
import HandS.TupAny
import HandS.Wide
import HandS.Steps
import HandS.Walk
import HandS.ListItems
import KE.KDictPairs
import HandS.Codes
import KE.GoesEnum
import HandS.Style
import KE.KEqDict
import PyProof.InstEq
import HandS.TupLe
import KE.KUnpack
import KE.KItemsList
import PyProof.ListIndex
import KE.KEqNest
import PyProof.NeKinds
import PyProof.Rows.StrMeet
import HandS.Deep
import PySem.Challenge.RW_fewrefresh_k13_whole_expiry
set_option Elab.async false
set_option linter.all false
set_option maxRecDepth 100000
namespace PL
open PySem L2

/-- data: a value with all that it reaches -/
inductive D where
  | non | bl (b : Bool) | int (i : Int) | str (x : Str) | ad (a : Addr)
  | tup (l : List D) | ktup (l : List D) | lst (l : List D) | klst (l : List D) | dct (l : List (Key × D)) | gtup (l : List D) | dtt (l : List (List Key × D)) | obj (C : Addr) (l : List (Str × D))

def Ex (H H' : Hp) : Prop := ∀ a o, H a = some o → H' a = some o
theorem Ex.refl (H : Hp) : Ex H H := fun _ _ h => h
theorem Ex.trans {H H1 H2 : Hp} (a : Ex H H1) (b : Ex H1 H2) : Ex H H2 := fun x o h => b x o (a x o h)
theorem Ex.new {H : Hp} {p : Addr} {o : HO} (h : H p = none) : Ex H (upd H p o) := fun a u e => by
  rw [upd_ne (ne_of_none e h)]
  exact e
def Sub (G H : Hp) : Prop := ∀ a o, G a = some o → H a = some o ∨ ((∃ u, H a = some (.frz u o)) ∧ (∀ C dx fs, o ≠ .ins C dx fs) ∧ (∀ q u, o ≠ .frz q u) ∧ ∀ xs, o ≠ .tup xs)
theorem Sub.rd {G H : Hp} {a : Addr} {o : HO} (s : Sub G H) (h : G a = some o) : Rd H a o := (s a o h).imp id fun z => z.1
theorem Sub.ex {G H H' : Hp} (s : Sub G H) (e : Ex H H') : Sub G H' := fun a o h => by
  rcases s a o h with q | ⟨⟨u, q⟩, n⟩
  · exact .inl (e _ _ q)
  · exact .inr ⟨⟨u, e _ _ q⟩, n⟩
theorem Sub.of {G G' H : Hp} (e : Ex G G') (s : Sub G' H) : Sub G H := fun a o h => s a o (e a o h)
theorem Sub.ins {G H : Hp} {a C dx : Addr} {fs : List (Str × V)} (s : Sub G H) (h : G a = some (.ins C dx fs)) : H a = some (.ins C dx fs) := by
  rcases s _ _ h with q | ⟨_, n⟩
  · exact q
  · exact absurd rfl (n.1 _ _ _)
theorem Sub.frz {G H : Hp} {a : Addr} {o : Obj} {u : HO} (s : Sub G H) (h : G a = some (.frz o u)) : H a = some (.frz o u) := by
  rcases s _ _ h with q | ⟨_, n⟩
  · exact q
  · exact absurd rfl (n.2.1 _ _)
def Nf (G : Hp) : Prop := ∀ a o u, G a = some (.frz o u) → ∃ xs, u = .tup xs
def strip (H : Hp) : Hp := fun a => match H a with
  | some (.frz _ (.frz _ _)) => none
  | some (.frz _ (.ins _ _ _)) => none
  | some (.frz o (.tup xs)) => some (.frz o (.tup xs))
  | some (.frz _ u) => some u
  | x => x
def E0' : Hp := fun _ => none
def LsR (K : PySem.W.Frag) (G : Hp) (a : Addr) (xs : List V) : Prop := G a = some (.lst xs)
def TpR (K : PySem.W.Frag) (G : Hp) (a : Addr) (xs : List V) : Prop := Rd G a (.tup xs) ∨ SqT K E0' a xs

mutual
def Rep (K : PySem.W.Frag) (G : Hp) : D → V → Prop
  | .non, v => v = .non
  | .bl b, v => v = .bl b
  | .int i, v => v = .int i
  | .str x, v => v = .str x
  | .ad a, v => v = .ref a
  | .tup ds, v => ∃ a vs, v = .ref a ∧ TpR K G a vs ∧ RepL K G ds vs
  | .ktup ds, v => ∃ a o vs, v = .ref a ∧ G a = some (.frz o (.tup vs)) ∧ o.dict = none ∧ RepL K G ds vs
  | .lst ds, v => ∃ a vs, v = .ref a ∧ LsR K G a vs ∧ RepL K G ds vs
  | .klst ds, v => ∃ a vs, v = .ref a ∧ (G a = some (.lst vs) ∨ SqL K E0' a vs) ∧ RepL K G ds vs
  | .dct ds, v => ∃ a vs, v = .ref a ∧ G a = some (.dK vs) ∧ RepK K G ds vs
  | .gtup ds, v => ∃ a vs, v = .ref a ∧ G a = some (.tup vs) ∧ RepL K G ds vs
  | .dtt ds, v => ∃ a vs, v = .ref a ∧ G a = some (.dT vs) ∧ RepT K G ds vs
  | .obj C ds, v => ∃ a dx vs, v = .ref a ∧ G a = some (.ins C dx vs) ∧ RepF K G ds vs
def RepL (K : PySem.W.Frag) (G : Hp) : List D → List V → Prop
  | [], vs => vs = []
  | d :: ds, vs => ∃ v r, vs = v :: r ∧ Rep K G d v ∧ RepL K G ds r
def RepK (K : PySem.W.Frag) (G : Hp) : List (Key × D) → List (Key × V) → Prop
  | [], vs => vs = []
  | (k, d) :: ds, vs => ∃ v r, vs = (k, v) :: r ∧ Rep K G d v ∧ RepK K G ds r
def RepT (K : PySem.W.Frag) (G : Hp) : List (List Key × D) → List (List Key × V) → Prop
  | [], vs => vs = []
  | (k, d) :: ds, vs => ∃ v r, vs = (k, v) :: r ∧ Rep K G d v ∧ RepT K G ds r
def RepF (K : PySem.W.Frag) (G : Hp) : List (Str × D) → List (Str × V) → Prop
  | [], vs => vs = []
  | (k, d) :: ds, vs => ∃ v r, vs = (k, v) :: r ∧ Rep K G d v ∧ RepF K G ds r
end

section
variable {K : PySem.W.Frag} {G G' H : Hp}
theorem LsR.mono {a : Addr} {xs : List V} (e : Ex G G') (h : LsR K G a xs) : LsR K G' a xs := e _ _ h
theorem TpR.mono {a : Addr} {xs : List V} (e : Ex G G') (h : TpR K G a xs) : TpR K G' a xs := h.imp (fun h => h.imp (e _ _) fun ⟨o, z⟩ => ⟨o, e _ _ z⟩) id
theorem sqL_lift {a : Addr} {xs : List V} (h : SqL K E0' a xs) : SqL K H a xs := by
  rcases h with (h | ⟨o, h⟩) | h
  · cases h
  · cases h
  · exact .inr h
theorem sqT_lift {a : Addr} {xs : List V} (h : SqT K E0' a xs) : SqT K H a xs := by
  rcases h with (h | ⟨o, h⟩) | h
  · cases h
  · cases h
  · exact .inr h
theorem LsR.sq {a : Addr} {xs : List V} (s : Sub G H) (h : LsR K G a xs) : SqL K H a xs := .inl (s.rd h)
theorem TpR.sq {a : Addr} {xs : List V} (s : Sub G H) (h : TpR K G a xs) : SqT K H a xs := by
  rcases h with (h | ⟨o, h⟩) | h
  · exact .inl (s.rd h)
  · exact .inl (.inr ⟨o, s.frz h⟩)
  · exact sqT_lift h
mutual
theorem Rep.mono (e : Ex G G') : ∀ {d : D} {v : V}, Rep K G d v → Rep K G' d v
  | .non, _, h => by simpa only [Rep] using h
  | .bl _, _, h => by simpa only [Rep] using h
  | .int _, _, h => by simpa only [Rep] using h
  | .str _, _, h => by simpa only [Rep] using h
  | .ad _, _, h => by simpa only [Rep] using h
  | .tup ds, v, h => by
    simp only [Rep] at h ⊢
    obtain ⟨a, vs, rfl, h1, h2⟩ := h
    exact ⟨a, vs, rfl, h1.mono e, RepL.mono e h2⟩
  | .ktup ds, v, h => by
    simp only [Rep] at h ⊢
    obtain ⟨a, o, vs, rfl, h1, h3, h2⟩ := h
    exact ⟨a, o, vs, rfl, e _ _ h1, h3, RepL.mono e h2⟩
  | .lst ds, v, h => by
    simp only [Rep] at h ⊢
    obtain ⟨a, vs, rfl, h1, h2⟩ := h
    exact ⟨a, vs, rfl, h1.mono e, RepL.mono e h2⟩
  | .klst ds, v, h => by
    simp only [Rep] at h ⊢
    obtain ⟨a, vs, rfl, h1, h2⟩ := h
    exact ⟨a, vs, rfl, h1.imp (e _ _) id, RepL.mono e h2⟩
  | .dct ds, v, h => by
    simp only [Rep] at h ⊢
    obtain ⟨a, vs, rfl, h1, h2⟩ := h
    exact ⟨a, vs, rfl, e _ _ h1, RepK.mono e h2⟩
  | .gtup ds, v, h => by
    simp only [Rep] at h ⊢
    obtain ⟨a, vs, rfl, h1, h2⟩ := h
    exact ⟨a, vs, rfl, e _ _ h1, RepL.mono e h2⟩
  | .dtt ds, v, h => by
    simp only [Rep] at h ⊢
    obtain ⟨a, vs, rfl, h1, h2⟩ := h
    exact ⟨a, vs, rfl, e _ _ h1, RepT.mono e h2⟩
  | .obj C ds, v, h => by
    simp only [Rep] at h ⊢
    obtain ⟨a, dx, vs, rfl, h1, h2⟩ := h
    exact ⟨a, dx, vs, rfl, e _ _ h1, RepF.mono e h2⟩
theorem RepL.mono (e : Ex G G') : ∀ {ds : List D} {vs : List V}, RepL K G ds vs → RepL K G' ds vs
  | [], vs, h => by simpa only [RepL] using h
  | d :: ds, vs, h => by
    simp only [RepL] at h ⊢
    obtain ⟨v, r, rfl, h1, h2⟩ := h
    exact ⟨v, r, rfl, Rep.mono e h1, RepL.mono e h2⟩
theorem RepK.mono (e : Ex G G') : ∀ {ds : List (Key × D)} {vs : List (Key × V)}, RepK K G ds vs → RepK K G' ds vs
  | [], vs, h => by simpa only [RepK] using h
  | (k, d) :: ds, vs, h => by
    simp only [RepK] at h ⊢
    obtain ⟨v, r, rfl, h1, h2⟩ := h
    exact ⟨v, r, rfl, Rep.mono e h1, RepK.mono e h2⟩
theorem RepT.mono (e : Ex G G') : ∀ {ds : List (List Key × D)} {vs : List (List Key × V)}, RepT K G ds vs → RepT K G' ds vs
  | [], vs, h => by simpa only [RepT] using h
  | (k, d) :: ds, vs, h => by
    simp only [RepT] at h ⊢
    obtain ⟨v, r, rfl, h1, h2⟩ := h
    exact ⟨v, r, rfl, Rep.mono e h1, RepT.mono e h2⟩
theorem RepF.mono (e : Ex G G') : ∀ {ds : List (Str × D)} {vs : List (Str × V)}, RepF K G ds vs → RepF K G' ds vs
  | [], vs, h => by simpa only [RepF] using h
  | (k, d) :: ds, vs, h => by
    simp only [RepF] at h ⊢
    obtain ⟨v, r, rfl, h1, h2⟩ := h
    exact ⟨v, r, rfl, Rep.mono e h1, RepF.mono e h2⟩
end
end
end PL
set_option Elab.async false
set_option linter.all false
set_option maxRecDepth 100000
namespace PL
open PySem L2

structure Fr where
  B : Hp
  G0 : Hp
  io : Addr
inductive Sl where
  | sh (d : D) | ol (ds : List D) | od (ks : List (Key × D)) | ot (ks : List (List Key × D)) | io (ds : List D)
def Sl.own : Sl → Bool
  | .sh _ => false
  | _ => true
def Sl.data : Sl → D
  | .sh d => d
  | .ol ds => .lst ds
  | .od ks => .dct ks
  | .ot ks => .dtt ks
  | .io ds => .lst ds
abbrev Rh := List (Option Sl)
def SlOk (K : PySem.W.Frag) (F : Fr) (G H : Hp) : Sl → V → Prop
  | .sh d, v => Rep K G d v
  | .ol ds, v => ∃ p vs, v = .ref p ∧ F.B p = none ∧ G p = none ∧ H p = some (.lst vs) ∧ RepL K G ds vs
  | .od ks, v => ∃ p vs, v = .ref p ∧ F.B p = none ∧ G p = none ∧ H p = some (.dK vs) ∧ RepK K G ks vs
  | .ot ks, v => ∃ p vs, v = .ref p ∧ F.B p = none ∧ G p = none ∧ H p = some (.dT vs) ∧ RepT K G ks vs
  | .io ds, v => ∃ vs, v = .ref F.io ∧ F.B F.io = none ∧ G F.io = none ∧ H F.io = some (.lst vs) ∧ RepL K G ds vs
structure Hk (F : Fr) (G H : Hp) : Prop where
  sub : Sub G H
  bh : Ex F.B H
  g0 : Ex F.G0 G
  gn : ∀ p o, G p = some o → F.G0 p = some o ∨ F.B p = none
  nf : Nf G
  fz : ∀ p o (u : List (Key × V)), H p = some (.frz o (.dK u)) → F.B p = some (.frz o (.dK u))
structure Ok (K : PySem.W.Frag) (F : Fr) (G H : Hp) (σ : L2.St) (ρ : Rh) : Prop extends Hk F G H where
  len : σ.length = ρ.length
  sl : ∀ (i : Nat) (s : Sl), ρ[i]? = some (some s) → ∃ v, σ[i]? = some (some v) ∧ SlOk K F G H s v
  ow : ∀ (i j : Nat) (s t : Sl) (p : Addr), ρ[i]? = some (some s) → ρ[j]? = some (some t) → s.own = true → t.own = true → σ[i]? = some (some (.ref p)) → σ[j]? = some (some (.ref p)) → i = j
/-- p is not the place of an owned slot -/
def Apart (σ : L2.St) (ρ : Rh) (v : V) : Prop := ∀ (i : Nat) (t : Sl), ρ[i]? = some (some t) → t.own = true → σ[i]? ≠ some (some v)
structure Res (K : PySem.W.Frag) (F : Fr) (G H : Hp) (σ : L2.St) (ρ : Rh) (s : Sl) (v : V) : Prop where
  ok : SlOk K F G H s v
  ap : s.own = true → Apart σ ρ v

section
variable {K : PySem.W.Frag} {F : Fr} {G G' H H' : Hp} {σ : L2.St} {ρ ρ' : Rh} {s : Sl} {v : V} {d : D}
theorem none_of_ex {A B : Hp} {p : Addr} (e : Ex A B) (h : B p = none) : A p = none := by
  cases r : A p with
  | none => rfl
  | some u => rw [e _ _ r] at h; cases h
theorem own_ref (h : SlOk K F G H s v) (o : s.own = true) : ∃ p u, v = .ref p ∧ F.B p = none ∧ G p = none ∧ H p = some u ∧ Mut (some u) := by
  cases s with
  | sh d => cases o
  | ol ds => obtain ⟨p, vs, e, a, b, c, _⟩ := h; exact ⟨p, _, e, a, b, c, trivial⟩
  | od ds => obtain ⟨p, vs, e, a, b, c, _⟩ := h; exact ⟨p, _, e, a, b, c, trivial⟩
  | ot ds => obtain ⟨p, vs, e, a, b, c, _⟩ := h; exact ⟨p, _, e, a, b, c, trivial⟩
  | io ds => obtain ⟨vs, e, a, b, c, _⟩ := h; exact ⟨_, _, e, a, b, c, trivial⟩
/-- carry a slot's fact over -/
theorem SlOk.move (h : SlOk K F G H s v) (e : Ex G G') (k : s.own = true → ∀ p, v = .ref p → G' p = none ∧ H' p = H p) : SlOk K F G' H' s v := by
  cases s with
  | sh d => exact Rep.mono e h
  | ol ds =>
    obtain ⟨p, vs, rfl, a, b, c, r⟩ := h
    obtain ⟨k1, k2⟩ := k rfl p rfl
    exact ⟨p, vs, rfl, a, k1, k2.trans c, RepL.mono e r⟩
  | od ds =>
    obtain ⟨p, vs, rfl, a, b, c, r⟩ := h
    obtain ⟨k1, k2⟩ := k rfl p rfl
    exact ⟨p, vs, rfl, a, k1, k2.trans c, RepK.mono e r⟩
  | ot ds =>
    obtain ⟨p, vs, rfl, a, b, c, r⟩ := h
    obtain ⟨k1, k2⟩ := k rfl p rfl
    exact ⟨p, vs, rfl, a, k1, k2.trans c, RepT.mono e r⟩
  | io ds =>
    obtain ⟨vs, rfl, a, b, c, r⟩ := h
    obtain ⟨k1, k2⟩ := k rfl _ rfl
    exact ⟨vs, rfl, a, k1, k2.trans c, RepL.mono e r⟩
theorem Ok.move (ok : Ok K F G H σ ρ) (hk : Hk F G' H') (e : Ex G G') (k : ∀ (i : Nat) (s : Sl) (p : Addr), ρ[i]? = some (some s) → s.own = true → σ[i]? = some (some (.ref p)) → G' p = none ∧ H' p = H p) : Ok K F G' H' σ ρ where
  toHk := hk
  len := ok.len
  sl := fun i s hi => by
    obtain ⟨v, hv, h⟩ := ok.sl i s hi
    exact ⟨v, hv, h.move e fun o p ep => k i s p hi o (by rw [hv, ep])⟩
  ow := ok.ow
/-- the frame of a call from here -/
def Fr.at (H G : Hp) (io : Addr) : Fr := ⟨H, G, io⟩
theorem Hk.start (s : Sub G H) (n : Nf G) (io : Addr) : Hk ⟨H, G, io⟩ G H := ⟨s, Ex.refl _, Ex.refl _, fun _ _ h => .inl h, n, fun _ _ _ h => h⟩
/-- a call that kept all that was there -/
theorem Ok.called {io : Addr} (ok : Ok K F G H σ ρ) (hk : Hk ⟨H, G, io⟩ G' H') : Ok K F G' H' σ ρ :=
  ok.move ⟨hk.sub, ok.bh.trans hk.bh, ok.g0.trans hk.g0, fun p o h => by
    rcases hk.gn p o h with q | q
    · exact ok.gn p o q
    · refine .inr ?_
      exact none_of_ex ok.bh q, hk.nf, fun p o u h => ok.fz p o u (hk.fz p o u h)⟩ hk.g0 fun i s p hi o hp => by
    obtain ⟨v, hv, h⟩ := ok.sl i s hi
    obtain ⟨p', u, e, b, g, hh, _⟩ := own_ref h o
    rw [hv, e] at hp
    cases hp
    refine ⟨?_, (hk.bh p u hh).trans hh.symm⟩
    cases r : G' p with
    | none => rfl
    | some u' =>
      rcases hk.gn p u' r with q | q
      · rw [show G p = some u' from q] at g; cases g
      · rw [show H p = none from q] at hh; cases hh
/-- all but the frozen, garbage: the heap grows -/
theorem Ok.grow (ok : Ok K F G H σ ρ) (e : Ex H H') (z : ∀ p o (u : List (Key × V)), H' p = some (.frz o (.dK u)) → H p = some (.frz o (.dK u))) : Ok K F G H' σ ρ :=
  ok.move ⟨ok.sub.ex e, ok.bh.trans e, ok.g0, ok.gn, ok.nf, fun p o u h => ok.fz p o u (z p o u h)⟩ (Ex.refl _) fun i s p hi o hp => by
    obtain ⟨v, hv, h⟩ := ok.sl i s hi
    obtain ⟨p', u, e', b, g, hh, _⟩ := own_ref h o
    rw [hv, e'] at hp
    cases hp
    exact ⟨g, (e p u hh).trans hh.symm⟩
theorem nf_upd {p : Addr} {o : HO} (n : Nf G) (h : ∀ q u, o ≠ .frz q u) : Nf (upd G p o) := fun a q u e => by
  by_cases z : a = p
  · subst z
    rw [upd_same] at e
    exact absurd (Option.some.inj e) (h _ _)
  · rw [upd_ne z] at e
    exact n _ _ _ e
/-- what lies apart from the slots is frozen -/
theorem Ok.freeze {p : Addr} {o : HO} (ok : Ok K F G H σ ρ) (b : F.B p = none) (g : G p = none) (h : H p = some o) (n : ∀ q u, o ≠ .frz q u) (ap : Apart σ ρ (.ref p)) : Ok K F (upd G p o) H σ ρ :=
  ok.move ⟨fun a u e => by
      by_cases z : a = p
      · subst z
        rw [upd_same] at e
        cases e
        exact .inl h
      · rw [upd_ne z] at e
        exact ok.sub _ _ e, ok.bh, ok.g0.trans (Ex.new g), fun a u e => by
      by_cases z : a = p
      · subst z
        exact .inr b
      · rw [upd_ne z] at e
        exact ok.gn _ _ e, nf_upd ok.nf n, ok.fz⟩ (Ex.new g) fun i s q hi oo hq => by
    have z : q ≠ p := fun z => ap i s hi oo (z ▸ hq)
    obtain ⟨v, hv, h⟩ := ok.sl i s hi
    obtain ⟨p', u, e', _, g', _, _⟩ := own_ref h oo
    rw [hv, e'] at hq
    cases hq
    exact ⟨by rw [upd_ne z]; exact g', rfl⟩
/-- a new object -/
theorem Ok.new {p : Addr} {o : HO} (ok : Ok K F G H σ ρ) (n : H p = none) (nz : ∀ q (u : List (Key × V)), o ≠ .frz q (.dK u)) : Ok K F G (upd H p o) σ ρ := ok.grow (Ex.new n) fun q ob u h => by
  by_cases z : q = p
  · subst z
    rw [upd_same] at h
    exact absurd (Option.some.inj h) (nz _ _)
  · rw [upd_ne z] at h
    exact h
theorem Ok.free {p : Addr} (ok : Ok K F G H σ ρ) (n : H p = none) : F.B p = none ∧ G p = none ∧ Apart σ ρ (.ref p) := by
  refine ⟨?_, ?_, fun i t hi o hp => ?_⟩
  · cases r : F.B p with
    | none => rfl
    | some u => have := ok.bh _ _ r; rw [n] at this; cases this
  · cases r : G p with
    | none => rfl
    | some u =>
      rcases ok.sub _ _ r with q | ⟨⟨_, q⟩, _⟩
      · rw [n] at q; cases q
      · rw [n] at q; cases q
  · obtain ⟨v, hv, h⟩ := ok.sl i t hi
    obtain ⟨p', u, e', _, _, hh, _⟩ := own_ref h o
    rw [hv, e'] at hp
    cases hp
    rw [n] at hh
    cases hh
/-- a slot gets a new value -/
theorem Ok.put {i : Nat} (ok : Ok K F G H σ ρ) (r : Res K F G H σ ρ s v) : Ok K F G H (σ.set i (some v)) (ρ.set i (some s)) where
  toHk := ok.toHk
  len := by rw [List.length_set, List.length_set]; exact ok.len
  sl := fun j t hj => by
    by_cases e : i = j
    · subst e
      rw [List.getElem?_set] at hj
      simp only [if_true] at hj
      split at hj
      · rename_i hl
        cases hj
        exact ⟨v, by rw [List.getElem?_set_self (by rw [ok.len]; exact hl)], r.ok⟩
      · cases hj
    · rw [List.getElem?_set_ne e] at hj
      obtain ⟨w, hw, q⟩ := ok.sl j t hj
      exact ⟨w, by rw [List.getElem?_set_ne e]; exact hw, q⟩
  ow := fun a b t u p ha hb oa ob pa pb => by
    by_cases ea : i = a
    · by_cases eb : i = b
      · exact ea.symm.trans eb
      · subst ea
        rw [List.getElem?_set] at ha
        simp only [if_true] at ha
        split at ha
        · rename_i hl
          cases ha
          rw [List.getElem?_set_self (by rw [ok.len]; exact hl)] at pa
          cases pa
          rw [List.getElem?_set_ne eb] at hb pb
          exact absurd pb (r.ap oa b u hb ob)
        · cases ha
    · by_cases eb : i = b
      · subst eb
        rw [List.getElem?_set] at hb
        simp only [if_true] at hb
        split at hb
        · rename_i hl
          cases hb
          rw [List.getElem?_set_self (by rw [ok.len]; exact hl)] at pb
          cases pb
          rw [List.getElem?_set_ne ea] at ha pa
          exact absurd pa (r.ap ob a t ha oa)
        · cases hb
      · rw [List.getElem?_set_ne ea] at ha pa
        rw [List.getElem?_set_ne eb] at hb pb
        exact ok.ow a b t u p ha hb oa ob pa pb
theorem strip_def {a : Addr} : strip H a = match H a with
      | some (.frz _ (.frz _ _)) => none
      | some (.frz _ (.ins _ _ _)) => none
      | some (.frz o (.tup xs)) => some (.frz o (.tup xs))
      | some (.frz _ u) => some u
      | x => x := rfl
theorem strip_of {a : Addr} {o : HO} (h : H a = some o ∨ ((∃ u, H a = some (.frz u o)) ∧ (∀ C dx fs, o ≠ .ins C dx fs) ∧ ∀ xs, o ≠ .tup xs)) (n : ∀ q u, o ≠ .frz q u) : strip H a = some o := by
  rw [strip_def]
  rcases h with h | ⟨⟨q, h⟩, m⟩
  · rw [h]
    cases o <;> first | rfl | exact absurd rfl (n _ _)
  · rw [h]
    cases o <;> first | rfl | exact absurd rfl (n _ _) | exact absurd rfl (m.1 _ _ _) | exact absurd rfl (m.2 _)
theorem strip_sub : Sub (strip H) H := fun a o h => by
  rw [strip_def] at h
  cases q : H a with
  | none => rw [q] at h; cases h
  | some x =>
    rw [q] at h
    cases x with
    | frz u y => cases y <;> first | (cases h; done) | (cases h; exact .inl rfl) | (cases h; exact .inr ⟨⟨_, rfl⟩, fun _ _ _ z => HO.noConfusion z, fun _ _ z => HO.noConfusion z, fun _ z => HO.noConfusion z⟩)
    | _ => cases h; exact .inl rfl
theorem strip_nf : Nf (strip H) := fun a o u h => by
  rw [strip_def] at h
  cases q : H a with
  | none => rw [q] at h; cases h
  | some x =>
    rw [q] at h
    cases x with
    | frz u y => cases y <;> first | (cases h; done) | (cases h; exact ⟨_, rfl⟩)
    | _ => cases h; done
/-- all of G stands in the stripped heap -/
def Exk (G H : Hp) : Prop := Ex G H
theorem Hk.exk (hk : Hk F G H) : Exk G (strip H) := fun a o h => by
  rcases hk.sub a o h with q | ⟨⟨u, q⟩, n1, n2, n3⟩
  · cases o with
    | frz ob w =>
      obtain ⟨xs, rfl⟩ := hk.nf a ob w h
      rw [strip_def, q]
    | _ => exact strip_of (.inl q) fun _ _ z => HO.noConfusion z
  · cases o with
    | frz ob w => exact absurd rfl (n2 _ _)
    | ins _ _ _ => exact absurd rfl (n1 _ _ _)
    | tup xs => exact absurd rfl (n3 _)
    | _ => exact strip_of (.inr ⟨⟨u, q⟩, fun _ _ _ z => HO.noConfusion z, fun _ z => HO.noConfusion z⟩) fun _ _ z => HO.noConfusion z
section
variable {G G' : Hp}
theorem Rep.monk (e : Exk G G') {d : D} {v : V} (h : Rep K G d v) : Rep K G' d v := Rep.mono e h
theorem RepL.monk (e : Exk G G') {ds : List D} {vs : List V} (h : RepL K G ds vs) : RepL K G' ds vs := RepL.mono e h
theorem RepK.monk (e : Exk G G') {ds : List (Key × D)} {vs : List (Key × V)} (h : RepK K G ds vs) : RepK K G' ds vs := RepK.mono e h
theorem RepT.monk (e : Exk G G') {ds : List (List Key × D)} {vs : List (List Key × V)} (h : RepT K G ds vs) : RepT K G' ds vs := RepT.mono e h
theorem RepF.monk (e : Exk G G') {ds : List (Str × D)} {vs : List (Str × V)} (h : RepF K G ds vs) : RepF K G' ds vs := RepF.mono e h
end
/-- what a slot holds, read in the whole heap -/
theorem SlOk.rep (h : SlOk K F G H s v) (hk : Hk F G H) : Rep K (strip H) s.data v := by
  cases s with
  | sh d => exact Rep.monk hk.exk h
  | ol ds =>
    obtain ⟨p, vs, rfl, a, b, c, r⟩ := h
    simp only [Sl.data, Rep]
    exact ⟨p, vs, rfl, strip_of (.inl c) (fun _ _ z => HO.noConfusion z), RepL.monk hk.exk r⟩
  | od ds =>
    obtain ⟨p, vs, rfl, a, b, c, r⟩ := h
    simp only [Sl.data, Rep]
    exact ⟨p, vs, rfl, strip_of (.inl c) fun _ _ z => HO.noConfusion z, RepK.monk hk.exk r⟩
  | ot ds =>
    obtain ⟨p, vs, rfl, a, b, c, r⟩ := h
    simp only [Sl.data, Rep]
    exact ⟨p, vs, rfl, strip_of (.inl c) fun _ _ z => HO.noConfusion z, RepT.monk hk.exk r⟩
  | io ds =>
    obtain ⟨vs, rfl, a, b, c, r⟩ := h
    simp only [Sl.data, Rep]
    exact ⟨_, vs, rfl, strip_of (.inl c) (fun _ _ z => HO.noConfusion z), RepL.monk hk.exk r⟩
end

/-! ### readings by what they are -/
section
variable (X : Cx)
def WE (e : Expr) : TE := fun σ H Q => ∃ t, PE X e t ∧ t σ H Q
def WT (e : Expr) : TT := fun σ H Q => ∃ t, PT X e t ∧ t σ H Q
def WA (es : List Expr) : TA := fun σ H Q => ∃ t, PA X es t ∧ t σ H Q
def WS (st : Stmt) : TS := fun D σ H => ∃ t, PS X st t ∧ t D σ H
def WSs (sts : List Stmt) : TS := fun D σ H => ∃ t, PSs X sts t ∧ t D σ H
end
section
variable {X : Cx}
theorem pe_we {e : Expr} : PE X e (WE X e) := ⟨fun pins s σ H Q I h => let ⟨t, p, q⟩ := h; p.run pins s σ H Q I q⟩
theorem pt_wt {e : Expr} : PT X e (WT X e) := ⟨fun pins s σ H Q I h => let ⟨t, p, q⟩ := h; p.run pins s σ H Q I q⟩
theorem pa_wa {es : List Expr} : PA X es (WA X es) := ⟨fun pos pins s σ H Q I h => let ⟨t, p, q⟩ := h; p.run pos pins s σ H Q I q⟩
theorem ps_ws {st : Stmt} : PS X st (WS X st) := ⟨fun pins s σ H D I h => let ⟨t, p, q⟩ := h; p.run pins s σ H D I q⟩
theorem pss_wss {sts : List Stmt} : PSs X sts (WSs X sts) := ⟨fun pins s σ H D I h => let ⟨t, p, q⟩ := h; p.run pins s σ H D I q⟩
end

/-! ### the judgements -/
section
variable (X : Cx)
/-- e gives s and changes nothing -/
def HG (e : Expr) (ρ : Rh) (s : Sl) : Prop := ∀ (F : Fr) (G H : Hp) (σ : L2.St) (Q : VK), Ok X.K F G H σ ρ → (∀ v, SlOk X.K F G H s v → Q v H) → WE X e σ H Q
/-- e gives s and leaves the slots ρ' -/
def HE (e : Expr) (ρ : Rh) (s : Sl) (ρ' : Rh) : Prop := ∀ (F : Fr) (G H : Hp) (σ : L2.St) (Q : VK), Ok X.K F G H σ ρ → (∀ v G' H', Ex G G' → Ok X.K F G' H' σ ρ' → Res X.K F G' H' σ ρ' s v → Q v H') → WE X e σ H Q
def HT (e : Expr) (ρ : Rh) (b : Bool) (ρ' : Rh) : Prop := ∀ (F : Fr) (G H : Hp) (σ : L2.St) (Q : Bool → Hp → Prop), Ok X.K F G H σ ρ → (∀ G' H', Ex G G' → Ok X.K F G' H' σ ρ' → Q b H') → WT X e σ H Q
inductive Out where
  | nx (ρ : Rh) | rt (s : Sl) (ρ : Rh) | bk (ρ : Rh) | ct (ρ : Rh)
def Post (K : PySem.W.Frag) (F : Fr) (D : Ends) : Out → Prop
  | .nx ρ => ∀ σ G H, Ok K F G H σ ρ → D.nx σ H
  | .rt s ρ => ∀ v σ G H, Ok K F G H σ ρ → Res K F G H σ ρ s v → D.rt v H
  | .bk ρ => ∀ σ G H, Ok K F G H σ ρ → D.bk σ H
  | .ct ρ => ∀ σ G H, Ok K F G H σ ρ → D.ct σ H
def HS1 (st : Stmt) (ρ : Rh) (o : Out) : Prop := ∀ (F : Fr) (G H : Hp) (σ : L2.St) (D : Ends), Ok X.K F G H σ ρ → Post X.K F D o → WS X st D σ H
def HS (sts : List Stmt) (ρ : Rh) (o : Out) : Prop := ∀ (F : Fr) (G H : Hp) (σ : L2.St) (D : Ends), Ok X.K F G H σ ρ → Post X.K F D o → WSs X sts D σ H
/-- arguments that change nothing; that may change slots (all shared) -/
def HGA (es : List Expr) (ρ : Rh) (ss : List Sl) : Prop := ∀ (F : Fr) (G H : Hp) (σ : L2.St) (Q : List V → Hp → Prop), Ok X.K F G H σ ρ → (∀ vs, RepL X.K (strip H) (ss.map Sl.data) vs → Q vs H) → WA X es σ H Q
def HEA (es : List Expr) (ρ : Rh) (ds : List D) (ρ' : Rh) : Prop := ∀ (F : Fr) (G H : Hp) (σ : L2.St) (Q : List V → Hp → Prop), Ok X.K F G H σ ρ → (∀ vs G' H', Ex G G' → Ok X.K F G' H' σ ρ' → RepL X.K G' ds vs → Q vs H') → WA X es σ H Q
end
end PL
set_option Elab.async false
set_option linter.all false
set_option maxRecDepth 100000
namespace PL
open PySem L2

section
variable {K : PySem.W.Frag} {F : Fr} {G G' H H' : Hp} {σ : L2.St} {ρ ρ' : Rh} {s : Sl} {v : V} {d : D}
/-- flat data is its own value -/
def D.fl : D → Option V
  | .non => some .non
  | .bl b => some (.bl b)
  | .int i => some (.int i)
  | .str x => some (.str x)
  | .ad a => some (.ref a)
  | _ => none
theorem rep_fl (h : d.fl = some v) : Rep K G d v := by
  cases d <;> first | (cases h; simp only [Rep]; done) | cases h
theorem fl_rep {w : V} (h : d.fl = some v) (r : Rep K G d w) : w = v := by
  cases d <;> first | (simp only [Rep] at r; cases h; exact r) | cases h
theorem rep_lst {ds : List D} (s : Sub G H) (h : Rep K G (.lst ds) v) : ∃ a vs, v = .ref a ∧ SqL K H a vs ∧ RepL K G ds vs := by
  simp only [Rep] at h
  obtain ⟨a, vs, e, q, r⟩ := h
  exact ⟨a, vs, e, q.sq s, r⟩
theorem rep_tup {ds : List D} (s : Sub G H) (h : Rep K G (.tup ds) v) : ∃ a vs, v = .ref a ∧ SqT K H a vs ∧ RepL K G ds vs := by
  simp only [Rep] at h
  obtain ⟨a, vs, e, q, r⟩ := h
  exact ⟨a, vs, e, q.sq s, r⟩
theorem rep_dct {ds : List (Key × D)} (s : Sub G H) (h : Rep K G (.dct ds) v) : ∃ a vs, v = .ref a ∧ Rd H a (.dK vs) ∧ RepK K G ds vs := by
  simp only [Rep] at h
  obtain ⟨a, vs, e, q, r⟩ := h
  exact ⟨a, vs, e, s.rd q, r⟩
theorem repL_cons {ds : List D} {vs : List V} (h : RepL K G (d :: ds) vs) : ∃ v r, vs = v :: r ∧ Rep K G d v ∧ RepL K G ds r := by simpa only [RepL] using h
theorem repL_nil {vs : List V} (h : RepL K G [] vs) : vs = [] := by simpa only [RepL] using h
theorem repL_mk {ds : List D} {vs : List V} (h : Rep K G d v) (r : RepL K G ds vs) : RepL K G (d :: ds) (v :: vs) := by
  simp only [RepL]
  exact ⟨v, vs, rfl, h, r⟩
theorem repL_mk0 : RepL K G [] [] := by simp only [RepL]
theorem repL_len : ∀ {ds : List D} {vs : List V}, RepL K G ds vs → vs.length = ds.length
  | [], vs, h => by rw [repL_nil h]; rfl
  | d :: ds, vs, h => by
    obtain ⟨v, r, rfl, _, h2⟩ := repL_cons h
    rw [List.length_cons, List.length_cons, repL_len h2]
theorem repL_get : ∀ {ds : List D} {vs : List V} {i : Nat} {d : D}, RepL K G ds vs → ds[i]? = some d → ∃ v, vs[i]? = some v ∧ Rep K G d v
  | [], vs, i, d, h, e => by simp at e
  | d :: ds, vs, 0, d', h, e => by
    obtain ⟨v, r, rfl, h1, h2⟩ := repL_cons h
    simp at e
    subst e
    exact ⟨v, rfl, h1⟩
  | d :: ds, vs, i + 1, d', h, e => by
    obtain ⟨v, r, rfl, h1, h2⟩ := repL_cons h
    obtain ⟨w, e1, e2⟩ := repL_get h2 (show ds[i]? = some d' by simpa using e)
    exact ⟨w, by simpa using e1, e2⟩
theorem repL_get' : ∀ {ds : List D} {vs : List V} {i : Nat} {v : V}, RepL K G ds vs → vs[i]? = some v → ∃ d, ds[i]? = some d ∧ Rep K G d v := fun {ds vs i v} h e => by
  have hl := repL_len h
  obtain ⟨hi, _⟩ := List.getElem?_eq_some_iff.mp e
  obtain ⟨w, e1, e2⟩ := repL_get h (show ds[i]? = some ds[i] from List.getElem?_eq_getElem (by omega))
  rw [e] at e1
  cases e1
  exact ⟨_, List.getElem?_eq_getElem (by omega), e2⟩
theorem repL_append : ∀ {ds es : List D} {vs ws : List V}, RepL K G ds vs → RepL K G es ws → RepL K G (ds ++ es) (vs ++ ws)
  | [], es, vs, ws, h, r => by rw [repL_nil h]; exact r
  | d :: ds, es, vs, ws, h, r => by
    obtain ⟨v, q, rfl, h1, h2⟩ := repL_cons h
    exact repL_mk h1 (repL_append h2 r)
theorem repL_one (h : Rep K G d v) : RepL K G [d] [v] := repL_mk h repL_mk0
theorem repL_take : ∀ {ds : List D} {vs : List V} (n : Nat), RepL K G ds vs → RepL K G (ds.take n) (vs.take n)
  | ds, vs, 0, h => by simp only [List.take_zero]; exact repL_mk0
  | [], vs, n + 1, h => by rw [repL_nil h]; simp only [List.take_nil]; exact repL_mk0
  | d :: ds, vs, n + 1, h => by
    obtain ⟨v, q, rfl, h1, h2⟩ := repL_cons h
    simp only [List.take_succ_cons]
    exact repL_mk h1 (repL_take n h2)
theorem repL_drop : ∀ {ds : List D} {vs : List V} (n : Nat), RepL K G ds vs → RepL K G (ds.drop n) (vs.drop n)
  | ds, vs, 0, h => by simpa only [List.drop_zero] using h
  | [], vs, n + 1, h => by rw [repL_nil h]; simp only [List.drop_nil]; exact repL_mk0
  | d :: ds, vs, n + 1, h => by
    obtain ⟨v, q, rfl, h1, h2⟩ := repL_cons h
    simp only [List.drop_succ_cons]
    exact repL_drop n h2
theorem repL_erase : ∀ {ds : List D} {vs : List V} (n : Nat), RepL K G ds vs → RepL K G (ds.eraseIdx n) (vs.eraseIdx n)
  | [], vs, n, h => by rw [repL_nil h]; simp only [List.eraseIdx_nil]; exact repL_mk0
  | d :: ds, vs, 0, h => by
    obtain ⟨v, q, rfl, h1, h2⟩ := repL_cons h
    simp only [List.eraseIdx_cons_zero]
    exact h2
  | d :: ds, vs, n + 1, h => by
    obtain ⟨v, q, rfl, h1, h2⟩ := repL_cons h
    simp only [List.eraseIdx_cons_succ]
    exact repL_mk h1 (repL_erase n h2)
/-- flat data, all of it -/
theorem repL_ints : ∀ {ns : List Int} {vs : List V}, RepL K G (ns.map D.int) vs → vs = ns.map V.int
  | [], vs, h => by rw [repL_nil h]; rfl
  | n :: ns, vs, h => by
    obtain ⟨v, q, rfl, h1, h2⟩ := repL_cons h
    rw [repL_ints h2, fl_rep (d := .int n) rfl h1]
    rfl
theorem repL_ints' : ∀ {ns : List Int}, RepL K G (ns.map D.int) (ns.map V.int)
  | [] => repL_mk0
  | n :: ns => repL_mk (rep_fl rfl) repL_ints'
theorem repL_strs : ∀ {ns : List Str} {vs : List V}, RepL K G (ns.map D.str) vs → vs = ns.map V.str
  | [], vs, h => by rw [repL_nil h]; rfl
  | n :: ns, vs, h => by
    obtain ⟨v, q, rfl, h1, h2⟩ := repL_cons h
    rw [repL_strs h2, fl_rep (d := .str n) rfl h1]
    rfl
theorem repL_strs' : ∀ {ns : List Str}, RepL K G (ns.map D.str) (ns.map V.str)
  | [] => repL_mk0
  | n :: ns => repL_mk (rep_fl rfl) repL_strs'
theorem repL_bls : ∀ {ns : List Bool} {vs : List V}, RepL K G (ns.map D.bl) vs → vs = ns.map V.bl
  | [], vs, h => by rw [repL_nil h]; rfl
  | n :: ns, vs, h => by
    obtain ⟨v, q, rfl, h1, h2⟩ := repL_cons h
    rw [repL_bls h2, fl_rep (d := .bl n) rfl h1]
    rfl

/-! dicts -/
theorem repK_cons {k : Key} {ds : List (Key × D)} {vs : List (Key × V)} (h : RepK K G ((k, d) :: ds) vs) : ∃ v r, vs = (k, v) :: r ∧ Rep K G d v ∧ RepK K G ds r := by simpa only [RepK] using h
theorem repK_nil {vs : List (Key × V)} (h : RepK K G [] vs) : vs = [] := by simpa only [RepK] using h
theorem repK_mk {k : Key} {ds : List (Key × D)} {vs : List (Key × V)} (h : Rep K G d v) (r : RepK K G ds vs) : RepK K G ((k, d) :: ds) ((k, v) :: vs) := by
  simp only [RepK]
  exact ⟨v, vs, rfl, h, r⟩
theorem repK_mk0 : RepK K G [] [] := by simp only [RepK]
theorem repK_len : ∀ {ds : List (Key × D)} {vs : List (Key × V)}, RepK K G ds vs → vs.length = ds.length
  | [], vs, h => by rw [repK_nil h]; rfl
  | (k, d) :: ds, vs, h => by
    obtain ⟨v, r, rfl, _, h2⟩ := repK_cons h
    rw [List.length_cons, List.length_cons, repK_len h2]
theorem repK_keys : ∀ {ds : List (Key × D)} {vs : List (Key × V)}, RepK K G ds vs → vs.map (·.1) = ds.map (·.1)
  | [], vs, h => by rw [repK_nil h]; rfl
  | (k, d) :: ds, vs, h => by
    obtain ⟨v, r, rfl, _, h2⟩ := repK_cons h
    rw [List.map_cons, List.map_cons, repK_keys h2]
/-- what a dict's data holds -/
def look : List (Key × D) → Key → Option D
  | [], _ => none
  | (k, d) :: r, j => if k = j then some d else look r j
theorem repK_look {j : Key} : ∀ {ds : List (Key × D)} {vs : List (Key × V)}, RepK K G ds vs → (∀ d, look ds j = some d → ∃ v, valV vs j = some v ∧ Rep K G d v) ∧ (look ds j = none → valV vs j = none)
  | [], vs, h => by
    rw [repK_nil h]
    exact ⟨fun d e => by simp [look] at e, fun _ => rfl⟩
  | (k, d) :: ds, vs, h => by
    obtain ⟨v, r, rfl, h1, h2⟩ := repK_cons h
    obtain ⟨i1, i2⟩ := repK_look (j := j) h2
    by_cases e : k = j
    · subst e
      simp only [look, if_true]
      exact ⟨fun d' e => by cases e; exact ⟨v, valV_pos rfl, h1⟩, fun e => by cases e⟩
    · simp only [look, if_neg e]
      rw [valV_neg (p := (k, v)) e]
      exact ⟨i1, i2⟩
theorem repK_look_isSome {j : Key} {ds : List (Key × D)} {vs : List (Key × V)} (h : RepK K G ds vs) : (valV vs j).isSome = (look ds j).isSome := by
  obtain ⟨a, b⟩ := repK_look (j := j) h
  cases e : look ds j with
  | none => rw [b e]; rfl
  | some d => obtain ⟨v, q, _⟩ := a d e; rw [q]; rfl
def putD (ds : List (Key × D)) (k : Key) (d : D) : List (Key × D) :=
  if (look ds k).isSome = true then ds.map (fun kv => if kv.1 = k then (kv.1, d) else kv) else ds ++ [(k, d)]
theorem repK_append : ∀ {ds es : List (Key × D)} {vs ws : List (Key × V)}, RepK K G ds vs → RepK K G es ws → RepK K G (ds ++ es) (vs ++ ws)
  | [], es, vs, ws, h, r => by rw [repK_nil h]; exact r
  | (k, d) :: ds, es, vs, ws, h, r => by
    obtain ⟨v, q, rfl, h1, h2⟩ := repK_cons h
    exact repK_mk h1 (repK_append h2 r)
theorem repK_map {k : Key} (hv : Rep K G d v) : ∀ {ds : List (Key × D)} {vs : List (Key × V)}, RepK K G ds vs → RepK K G (ds.map fun kv => if kv.1 = k then (kv.1, d) else kv) (vs.map fun kv => if kv.1 = k then (kv.1, v) else kv)
  | [], vs, h => by rw [repK_nil h]; exact repK_mk0
  | (j, e) :: ds, vs, h => by
    obtain ⟨w, q, rfl, h1, h2⟩ := repK_cons h
    rw [List.map_cons, List.map_cons]
    by_cases z : j = k
    · rw [if_pos z, if_pos z]
      exact repK_mk hv (repK_map hv h2)
    · rw [if_neg z, if_neg z]
      exact repK_mk h1 (repK_map hv h2)
theorem repK_put {k : Key} {ds : List (Key × D)} {vs : List (Key × V)} (h : RepK K G ds vs) (hv : Rep K G d v) : RepK K G (putD ds k d) (putK vs k v) := by
  unfold putD putK
  rw [valV_any, repK_look_isSome h]
  by_cases z : (look ds k).isSome = true
  · rw [if_pos z, if_pos z]
    exact repK_map hv h
  · rw [if_neg z, if_neg z]
    exact repK_append h (repK_mk hv repK_mk0)
def dropD (ds : List (Key × D)) (k : Key) : List (Key × D) := ds.filter fun kv => decide (kv.1 ≠ k)
theorem repK_drop {k : Key} : ∀ {ds : List (Key × D)} {vs : List (Key × V)}, RepK K G ds vs → RepK K G (dropD ds k) (dropK vs k)
  | [], vs, h => by rw [repK_nil h]; exact repK_mk0
  | (j, e) :: ds, vs, h => by
    obtain ⟨w, q, rfl, h1, h2⟩ := repK_cons h
    unfold dropD dropK
    by_cases z : j = k
    · rw [List.filter_cons, List.filter_cons, if_neg (by simp [z]), if_neg (by simp [z])]
      exact repK_drop h2
    · rw [List.filter_cons, List.filter_cons, if_pos (by simp [z]), if_pos (by simp [z])]
      exact repK_mk h1 (repK_drop h2)
/-- a key as data -/
def kD : Key → D
  | .inl i => .int i
  | .inr x => .str x
theorem kD_fl (k : Key) : (kD k).fl = some (kV k) := by cases k <;> rfl
end
end PL
set_option Elab.async false
set_option linter.all false
set_option maxRecDepth 100000
namespace PL
open PySem L2
section
variable {X : Cx} {ρ ρ' ρ1 ρ2 ρ3 : Rh} {s s1 s2 : Sl} {d d1 d2 : D} {e a b c : Expr} {pos : Pos} {x : Str}
/-! ### from one judgement to another -/
theorem he_hg (h : HG X e ρ (.sh d)) : HE X e ρ (.sh d) ρ := fun F G H σ Q ok k => h F G H σ Q ok fun v r => k v G H (Ex.refl _) ok ⟨r, fun z => by cases z⟩
/-- what was made is now shared -/
theorem he_sh (h : HE X e ρ s ρ') : HE X e ρ (.sh s.data) ρ' := fun F G H σ Q ok k => h F G H σ Q ok fun v G' H' e1 ok' r => by
  cases s with
  | sh d => exact k v G' H' e1 ok' r
  | ol ds =>
    obtain ⟨p, vs, rfl, hb, hg, hh, rl⟩ := r.ok
    have fz := ok'.freeze hb hg hh (fun _ _ z => HO.noConfusion z) (r.ap rfl)
    refine k _ _ _ (e1.trans (Ex.new hg)) fz ⟨?_, fun z => by cases z⟩
    simp only [SlOk, Sl.data, Rep]
    exact ⟨p, vs, rfl, upd_same, RepL.mono (Ex.new hg) rl⟩
  | od ds =>
    obtain ⟨p, vs, rfl, hb, hg, hh, rl⟩ := r.ok
    have fz := ok'.freeze hb hg hh (fun _ _ z => HO.noConfusion z) (r.ap rfl)
    refine k _ _ _ (e1.trans (Ex.new hg)) fz ⟨?_, fun z => by cases z⟩
    simp only [SlOk, Sl.data, Rep]
    exact ⟨p, vs, rfl, upd_same, RepK.mono (Ex.new hg) rl⟩
  | ot ds =>
    obtain ⟨p, vs, rfl, hb, hg, hh, rl⟩ := r.ok
    have fz := ok'.freeze hb hg hh (fun _ _ z => HO.noConfusion z) (r.ap rfl)
    refine k _ _ _ (e1.trans (Ex.new hg)) fz ⟨?_, fun z => by cases z⟩
    simp only [SlOk, Sl.data, Rep]
    exact ⟨p, vs, rfl, upd_same, RepT.mono (Ex.new hg) rl⟩
  | io ds =>
    obtain ⟨vs, rfl, hb, hg, hh, rl⟩ := r.ok
    have fz := ok'.freeze hb hg hh (fun _ _ z => HO.noConfusion z) (r.ap rfl)
    refine k _ _ _ (e1.trans (Ex.new hg)) fz ⟨?_, fun z => by cases z⟩
    simp only [SlOk, Sl.data, Rep]
    exact ⟨_, vs, rfl, upd_same, RepL.mono (Ex.new hg) rl⟩
theorem bl_of {K : PySem.W.Frag} {F : Fr} {G H : Hp} {t : Bool} {v : V} (h : SlOk K F G H (.sh (.bl t)) v) : v = .bl t := fl_rep (d := .bl t) rfl (show Rep K G (.bl t) v from h)
theorem int_of {K : PySem.W.Frag} {F : Fr} {G H : Hp} {t : Int} {v : V} (h : SlOk K F G H (.sh (.int t)) v) : v = .int t := fl_rep (d := .int t) rfl (show Rep K G (.int t) v from h)
/-- flat data of the whole heap is data anywhere -/
theorem fl_any {K : PySem.W.Frag} {G G' : Hp} {v w : V} (h : d.fl = some w) (r : Rep K G d v) : Rep K G' d v := by
  rw [fl_rep h r]
  exact rep_fl h

/-! ### names and constants -/
theorem hg_var (i : Nat) (hρ : ρ[i]? = some (some s)) (hN : X.N[i]? = some x := by rfl) (hv : Vis X.env.scope x := by first | exact Or.inl rfl | exact Or.inr (Or.inl rfl) | exact Or.inr (Or.inr rfl)) (hd : (x == ("__debug__" : Str)) = false := by decide)
    (hcd : (x == ("__classdict__" : Str)) = false := by decide) : HG X (.Name x pos) ρ s := fun F G H σ Q ok k => by
  obtain ⟨v, hv', r⟩ := ok.sl i s hρ
  exact ⟨tVar i, pv i hN hv hd hcd, v, hv', k v r⟩
theorem hg_int {i : Int} {j} : HG X (.Constant (.int i) j pos) ρ (.sh (.int i)) := fun F G H σ Q ok k => ⟨_, pe_int, k _ (rep_fl rfl)⟩
theorem hg_bl {i : Bool} {j} : HG X (.Constant (.bool i) j pos) ρ (.sh (.bl i)) := fun F G H σ Q ok k => ⟨_, pe_bl, k _ (rep_fl rfl)⟩
theorem hg_non {j} : HG X (.Constant .none j pos) ρ (.sh .non) := fun F G H σ Q ok k => ⟨_, pe_non, k _ (rep_fl rfl)⟩
theorem hg_str {i : Str} {j} : HG X (.Constant (.str i) j pos) ρ (.sh (.str i)) := fun F G H σ Q ok k => ⟨_, pe_str, k _ (rep_fl rfl)⟩
theorem hg_glob {u : Value} {v : V} (hm : X.mg x = some u) (r : RelV v u) (hd' : ∀ G, Rep X.K G d v) (hg : Gl X x := by rfl) (hd : (x == ("__debug__" : Str)) = false := by decide) : HG X (.Name x pos) ρ (.sh d) := fun F G H σ Q ok k => ⟨_, pe_glob hg hm r hd, k _ (hd' G)⟩

/-! ### operators -/
def OpV (X : Cx) (f : Value → Value → Sem Value) (a b c : D) : Prop := ∃ r z, OpR X f r ∧ c.fl = some z ∧ ∀ (H : Hp) (v w : V) (Q : VK), Rep X.K (strip H) a v → Rep X.K (strip H) b w → Q z H → r v w H Q
theorem hg_op {op : Operator} (ha : HG X a ρ s1) (hb : HG X b ρ s2) (h : OpV X (binaryOp op) s1.data s2.data c') : HG X (.BinOp a op b pos) ρ (.sh c') := fun F G H σ Q ok k => by
  obtain ⟨r, z, hr, hz, hq⟩ := h
  exact ⟨_, pe_op hr pe_we pe_we, ha F G H σ _ ok fun v rv => hb F G H σ _ ok fun w rw => hq H v w Q (rv.rep ok.toHk) (rw.rep ok.toHk) (k z (rep_fl hz))⟩
theorem he_op {op : Operator} (ha : HE X a ρ (.sh d1) ρ1) (hb : HE X b ρ1 (.sh d2) ρ2) (h : OpV X (binaryOp op) d1 d2 c') : HE X (.BinOp a op b pos) ρ (.sh c') ρ2 := fun F G H σ Q ok k => by
  obtain ⟨r, z, hr, hz, hq⟩ := h
  exact ⟨_, pe_op hr pe_we pe_we, ha F G H σ _ ok fun v G1 H1 e1 ok1 rv => hb F G1 H1 σ _ ok1 fun w G2 H2 e2 ok2 rw =>
    hq H2 v w Q (Rep.monk ok2.toHk.exk (Rep.mono e2 rv.ok)) (Rep.monk ok2.toHk.exk rw.ok) (k z G2 H2 (e1.trans e2) ok2 ⟨rep_fl hz, fun z => by cases z⟩)⟩
theorem hg_cmp {op : CmpOp} (ha : HG X a ρ s1) (hb : HG X b ρ s2) (h : OpV X (compareOp op) s1.data s2.data c') (hm : behindInMarks op b = false := by first | exact nomark _ | rfl) : HG X (.Compare a [op] [b] pos) ρ (.sh c') := fun F G H σ Q ok k => by
  obtain ⟨r, z, hr, hz, hq⟩ := h
  exact ⟨_, pe_cmpR hr pe_we pe_we hm, ha F G H σ _ ok fun v rv => hb F G H σ _ ok fun w rw => hq H v w Q (rv.rep ok.toHk) (rw.rep ok.toHk) (k z (rep_fl hz))⟩
theorem he_cmp {op : CmpOp} (ha : HE X a ρ (.sh d1) ρ1) (hb : HE X b ρ1 (.sh d2) ρ2) (h : OpV X (compareOp op) d1 d2 c') (hm : behindInMarks op b = false := by first | exact nomark _ | rfl) : HE X (.Compare a [op] [b] pos) ρ (.sh c') ρ2 := fun F G H σ Q ok k => by
  obtain ⟨r, z, hr, hz, hq⟩ := h
  exact ⟨_, pe_cmpR hr pe_we pe_we hm, ha F G H σ _ ok fun v G1 H1 e1 ok1 rv => hb F G1 H1 σ _ ok1 fun w G2 H2 e2 ok2 rw =>
    hq H2 v w Q (Rep.monk ok2.toHk.exk (Rep.mono e2 rv.ok)) (Rep.monk ok2.toHk.exk rw.ok) (k z G2 H2 (e1.trans e2) ok2 ⟨rep_fl hz, fun z => by cases z⟩)⟩
theorem ht_cmp {op : CmpOp} {t : Bool} (ha : HE X a ρ (.sh d1) ρ1) (hb : HE X b ρ1 (.sh d2) ρ2) (h : OpV X (compareOp op) d1 d2 (.bl t)) (hm : behindInMarks op b = false := by first | exact nomark _ | rfl) : HT X (.Compare a [op] [b] pos) ρ t ρ2 := fun F G H σ Q ok k => by
  obtain ⟨r, z, hr, hz, hq⟩ := h
  cases hz
  exact ⟨_, pt_cmpR hr pe_we pe_we hm, ha F G H σ _ ok fun v G1 H1 e1 ok1 rv => hb F G1 H1 σ _ ok1 fun w G2 H2 e2 ok2 rw =>
    hq H2 v w _ (Rep.monk ok2.toHk.exk (Rep.mono e2 rv.ok)) (Rep.monk ok2.toHk.exk rw.ok) ⟨t, rfl, k G2 H2 (e1.trans e2) ok2⟩⟩
theorem ht_cmpG {op : CmpOp} {t : Bool} (ha : HG X a ρ s1) (hb : HG X b ρ s2) (h : OpV X (compareOp op) s1.data s2.data (.bl t)) (hm : behindInMarks op b = false := by first | exact nomark _ | rfl) : HT X (.Compare a [op] [b] pos) ρ t ρ := fun F G H σ Q ok k => by
  obtain ⟨r, z, hr, hz, hq⟩ := h
  cases hz
  exact ⟨_, pt_cmpR hr pe_we pe_we hm, ha F G H σ _ ok fun v rv => hb F G H σ _ ok fun w rw => hq H v w _ (rv.rep ok.toHk) (rw.rep ok.toHk) ⟨t, rfl, k G H (Ex.refl _) ok⟩⟩
/-- a < b < c -/
theorem hg_chain {op op' : CmpOp} {t u : Bool} {s3 : Sl} (ha : HG X a ρ s1) (hb : HG X b ρ s2) (hc : HG X c ρ s3) (h : OpV X (compareOp op) s1.data s2.data (.bl t)) (h' : OpV X (compareOp op') s2.data s3.data (.bl u))
    (hm : ∀ {r r' : R2} {ta tb tc : TE}, OpR X (compareOp op) r → OpR X (compareOp op') r' → PE X a ta → PE X b tb → PE X c tc → PE X (.Compare a [op, op'] [b, c] pos) (tChain r r' ta tb tc) := by intros; apply pe_chain <;> first | assumption | exact nomark _ | rfl) :
    HG X (.Compare a [op, op'] [b, c] pos) ρ (.sh (.bl (t && u))) := fun F G H σ Q ok k => by
  obtain ⟨r, z, hr, hz, hq⟩ := h
  obtain ⟨r', z', hr', hz', hq'⟩ := h'
  cases hz
  cases hz'
  refine ⟨_, hm hr hr' pe_we pe_we pe_we, ha F G H σ _ ok fun v rv => hb F G H σ _ ok fun w rw => hq H v w _ (rv.rep ok.toHk) (rw.rep ok.toHk) ⟨t, rfl, ?_⟩⟩
  cases t with
  | true => exact hc F G H σ _ ok fun y ry => hq' H w y _ (rw.rep ok.toHk) (ry.rep ok.toHk) (k _ (rep_fl rfl))
  | false => exact k _ (rep_fl rfl)
theorem ht_chain {op op' : CmpOp} {t u : Bool} {s3 : Sl} (ha : HG X a ρ s1) (hb : HG X b ρ s2) (hc : HG X c ρ s3) (h : OpV X (compareOp op) s1.data s2.data (.bl t)) (h' : OpV X (compareOp op') s2.data s3.data (.bl u))
    (hm : ∀ {r r' : R2} {ta tb tc : TE}, OpR X (compareOp op) r → OpR X (compareOp op') r' → PE X a ta → PE X b tb → PE X c tc → PT X (.Compare a [op, op'] [b, c] pos) (tTest (tChain r r' ta tb tc)) := by intros; apply pt_chain <;> first | assumption | exact nomark _ | rfl) :
    HT X (.Compare a [op, op'] [b, c] pos) ρ (t && u) ρ := fun F G H σ Q ok k => by
  obtain ⟨r, z, hr, hz, hq⟩ := h
  obtain ⟨r', z', hr', hz', hq'⟩ := h'
  cases hz
  cases hz'
  refine ⟨_, hm hr hr' pe_we pe_we pe_we, ha F G H σ _ ok fun v rv => hb F G H σ _ ok fun w rw => hq H v w _ (rv.rep ok.toHk) (rw.rep ok.toHk) ⟨t, rfl, ?_⟩⟩
  cases t with
  | true => exact hc F G H σ _ ok fun y ry => hq' H w y _ (rw.rep ok.toHk) (ry.rep ok.toHk) ⟨_, rfl, k G H (Ex.refl _) ok⟩
  | false => exact ⟨_, rfl, k G H (Ex.refl _) ok⟩
/-! the operators' answers -/
section
variable {i j : Int} {op : Operator}
theorem opI_ {f : Value → Value → Sem Value} {g : Int → Int → V} (h : OpR X f (rI0 g)) (e : d.fl = some (g i j)) : OpV X f (.int i) (.int j) d := ⟨_, _, h, e, fun H v w Q rv rw q => by
  rw [fl_rep (d := .int i) rfl rv, fl_rep (d := .int j) rfl rw]
  exact ⟨i, j, rfl, rfl, q⟩⟩
theorem opIC_ {f : Value → Value → Sem Value} {C : Int → Int → Prop} {g : Int → Int → V} (h : OpR X f (rI C g)) (hc : C i j) (e : d.fl = some (g i j)) : OpV X f (.int i) (.int j) d := ⟨_, _, h, e, fun H v w Q rv rw q => by
  rw [fl_rep (d := .int i) rfl rv, fl_rep (d := .int j) rfl rw]
  exact ⟨i, j, rfl, rfl, hc, q⟩⟩
theorem v_add : OpV X (binaryOp .Add) (.int i) (.int j) (.int (i + j)) := opI_ op_add rfl
theorem v_sub : OpV X (binaryOp .Sub) (.int i) (.int j) (.int (i - j)) := opI_ op_sub rfl
theorem v_mul (h : CMul i j) : OpV X (binaryOp .Mult) (.int i) (.int j) (.int (i * j)) := opIC_ op_mul h rfl
theorem v_mulW (h : CMulW i j) : OpV X (binaryOp .Mult) (.int i) (.int j) (.int (i * j)) := opIC_ op_mulW h rfl
theorem v_mod (h : 0 < j) : OpV X (binaryOp .Mod) (.int i) (.int j) (.int (i % j)) := opIC_ op_mod h rfl
theorem v_div (h : CDiv i j) : OpV X (binaryOp .FloorDiv) (.int i) (.int j) (.int (i / j)) := opIC_ op_fdiv h rfl
theorem v_divW (h : CDivW i j) : OpV X (binaryOp .FloorDiv) (.int i) (.int j) (.int (i / j)) := opIC_ op_fdivW h rfl
theorem v_pow (h : CPow i j) : OpV X (binaryOp .Pow) (.int i) (.int j) (.int (i ^ j.toNat)) := opIC_ op_pow h rfl
theorem v_lt : OpV X (compareOp .Lt) (.int i) (.int j) (.bl (decide (i < j))) := opI_ op_lt rfl
theorem v_le : OpV X (compareOp .LtE) (.int i) (.int j) (.bl (decide (i ≤ j))) := opI_ op_le rfl
theorem v_gt : OpV X (compareOp .Gt) (.int i) (.int j) (.bl (decide (j < i))) := opI_ op_gt rfl
theorem v_ge : OpV X (compareOp .GtE) (.int i) (.int j) (.bl (decide (j ≤ i))) := opI_ op_ge rfl
end
theorem v_eq {v w : V} (h1 : d1.fl = some v) (h2 : d2.fl = some w) (h : scal v w = true) : OpV X (compareOp .Eq) d1 d2 (.bl (decide (v = w))) := ⟨_, _, op_eq, rfl, fun H a b Q ra rb q => by
  rw [fl_rep h1 ra, fl_rep h2 rb]
  exact ⟨h, q⟩⟩
theorem v_ne {v w : V} (h1 : d1.fl = some v) (h2 : d2.fl = some w) (h : scal v w = true) : OpV X (compareOp .NotEq) d1 d2 (.bl (!decide (v = w))) := ⟨_, _, op_ne, rfl, fun H a b Q ra rb q => by
  rw [fl_rep h1 ra, fl_rep h2 rb]
  exact ⟨h, q⟩⟩
theorem v_isN {v : V} (h1 : d1.fl = some v) : OpV X (compareOp .Is) d1 .non (.bl (decide (v = .non))) := ⟨_, _, op_isN, rfl, fun H a b Q ra rb q => by
  rw [fl_rep h1 ra, fl_rep (d := .non) rfl rb]
  exact ⟨rfl, q⟩⟩
/-- k in d -/
theorem op_inDict (hu : X.A.units + 1 < cLine) : OpR X (compareOp .In) (fun y x H Q => ∃ a o, x = .ref a ∧ DGet H a y o ∧ Q (.bl o.isSome) H) := by
  intro pins s σ H y x u v Q I ry rx h
  obtain ⟨a, o, rfl, g, q⟩ := h
  obtain rfl : v = Value.ref a := rx
  exact d_in hu I g ry fun s3 I3 => ⟨.bl o.isSome, H, I3, rfl, q⟩
theorem op_notInDict (hu : X.A.units + 1 < cLine) : OpR X (compareOp .NotIn) (fun y x H Q => ∃ a o, x = .ref a ∧ DGet H a y o ∧ Q (.bl (!o.isSome)) H) := by
  intro pins s σ H y x u v Q I ry rx h
  obtain ⟨a, o, rfl, g, q⟩ := h
  obtain rfl : v = Value.ref a := rx
  exact d_notIn hu I g ry fun s3 I3 => ⟨.bl (!o.isSome), H, I3, rfl, q⟩
theorem v_inD {k : Key} {ks : List (Key × D)} (hu : X.A.units + 1 < cLine) (h1 : d1 = kD k) : OpV X (compareOp .In) d1 (.dct ks) (.bl (look ks k).isSome) := ⟨_, _, op_inDict hu, rfl, fun H a b Q ra rb q => by
  subst h1
  obtain ⟨p, vs, rfl, hp, r⟩ := rep_dct strip_sub rb
  rw [fl_rep (kD_fl k) ra]
  refine ⟨p, valV vs k, rfl, .inl ⟨vs, k, hp, rfl, rfl⟩, ?_⟩
  rw [repK_look_isSome r]
  exact q⟩
theorem v_ninD {k : Key} {ks : List (Key × D)} (hu : X.A.units + 1 < cLine) (h1 : d1 = kD k) : OpV X (compareOp .NotIn) d1 (.dct ks) (.bl (!(look ks k).isSome)) := ⟨_, _, op_notInDict hu, rfl, fun H a b Q ra rb q => by
  subst h1
  obtain ⟨p, vs, rfl, hp, r⟩ := rep_dct strip_sub rb
  rw [fl_rep (kD_fl k) ra]
  refine ⟨p, valV vs k, rfl, .inl ⟨vs, k, hp, rfl, rfl⟩, ?_⟩
  rw [repK_look_isSome r]
  exact q⟩
/-- flat items -/
def fls : List D → Option (List V)
  | [] => some []
  | d :: r => match d.fl, fls r with
    | some v, some vs => some (v :: vs)
    | _, _ => none
theorem fls_rep {K : PySem.W.Frag} {G : Hp} : ∀ {ds : List D} {vs ws : List V}, fls ds = some vs → RepL K G ds ws → ws = vs
  | [], vs, ws, h, r => by
    cases h
    exact repL_nil r
  | d :: ds, vs, ws, h, r => by
    obtain ⟨v, q, rfl, h1, h2⟩ := repL_cons r
    unfold fls at h
    split at h
    · rename_i e1 e2
      cases h
      rw [fl_rep e1 h1, fls_rep e2 h2]
    · cases h
theorem v_inL {v : V} {ds : List D} {vs : List V} (h1 : d1.fl = some v) (h2 : fls ds = some vs) (f1 : flatV v = true) (f2 : vs.all flatV = true) : OpV X (compareOp .In) d1 (.lst ds) (.bl (inV v vs)) := ⟨_, _, op_in_seq, rfl, fun H a b Q ra rb q => by
  obtain ⟨p, ws, rfl, hp, r⟩ := rep_lst strip_sub rb
  rw [fl_rep h1 ra]
  rw [fls_rep h2 r] at hp
  exact ⟨p, vs, rfl, .inl hp, f1, f2, q⟩⟩
theorem v_inT {v : V} {ds : List D} {vs : List V} (h1 : d1.fl = some v) (h2 : fls ds = some vs) (f1 : flatV v = true) (f2 : vs.all flatV = true) : OpV X (compareOp .In) d1 (.tup ds) (.bl (inV v vs)) := ⟨_, _, op_in_seq, rfl, fun H a b Q ra rb q => by
  obtain ⟨p, ws, rfl, hp, r⟩ := rep_tup strip_sub rb
  rw [fl_rep h1 ra]
  rw [fls_rep h2 r] at hp
  exact ⟨p, vs, rfl, .inr hp, f1, f2, q⟩⟩
theorem v_ninL {v : V} {ds : List D} {vs : List V} (h1 : d1.fl = some v) (h2 : fls ds = some vs) (f1 : flatV v = true) (f2 : vs.all flatV = true) : OpV X (compareOp .NotIn) d1 (.lst ds) (.bl (!inV v vs)) := ⟨_, _, op_notIn_seq, rfl, fun H a b Q ra rb q => by
  obtain ⟨p, ws, rfl, hp, r⟩ := rep_lst strip_sub rb
  rw [fl_rep h1 ra]
  rw [fls_rep h2 r] at hp
  exact ⟨p, vs, rfl, .inl hp, f1, f2, q⟩⟩
theorem v_ninT {v : V} {ds : List D} {vs : List V} (h1 : d1.fl = some v) (h2 : fls ds = some vs) (f1 : flatV v = true) (f2 : vs.all flatV = true) : OpV X (compareOp .NotIn) d1 (.tup ds) (.bl (!inV v vs)) := ⟨_, _, op_notIn_seq, rfl, fun H a b Q ra rb q => by
  obtain ⟨p, ws, rfl, hp, r⟩ := rep_tup strip_sub rb
  rw [fl_rep h1 ra]
  rw [fls_rep h2 r] at hp
  exact ⟨p, vs, rfl, .inr hp, f1, f2, q⟩⟩
/-- a sign in a text -/
theorem v_inS {ch : Nat} {z : Str} : OpV X (compareOp .In) (.str ⟨#[ch]⟩) (.str z) (.bl (decide (ch ∈ z.cps.toList))) := ⟨_, _, op_inS, rfl, fun H a b Q ra rb q => by
  rw [fl_rep (d := .str ⟨#[ch]⟩) rfl ra, fl_rep (d := .str z) rfl rb]
  exact ⟨ch, z, rfl, rfl, q⟩⟩
/-! ### and, or, not -/
theorem hg_and {t u : Bool} {rest : List Expr} (ha : HG X a ρ (.sh (.bl t))) (hb : t = true → HG X (.BoolOp .And (b :: rest) pos) ρ (.sh (.bl u))) : HG X (.BoolOp .And (a :: b :: rest) pos) ρ (.sh (.bl (t && u))) := fun F G H σ Q ok k =>
  ⟨_, pe_and pe_we pe_we, ha F G H σ _ ok fun v rv => ⟨t, bl_of rv, by
    cases t with
    | true => exact hb rfl F G H σ _ ok k
    | false => exact k _ (rep_fl rfl)⟩⟩
theorem hg_or {t u : Bool} {rest : List Expr} (ha : HG X a ρ (.sh (.bl t))) (hb : t = false → HG X (.BoolOp .Or (b :: rest) pos) ρ (.sh (.bl u))) : HG X (.BoolOp .Or (a :: b :: rest) pos) ρ (.sh (.bl (t || u))) := fun F G H σ Q ok k =>
  ⟨_, pe_or pe_we pe_we, ha F G H σ _ ok fun v rv => ⟨t, bl_of rv, by
    cases t with
    | true => exact k _ (rep_fl rfl)
    | false => exact hb rfl F G H σ _ ok k⟩⟩
theorem hg_one {o : BoolOp} (h : HG X a ρ s) : HG X (.BoolOp o [a] pos) ρ s := fun F G H σ Q ok k => ⟨_, pe_one pe_we, h F G H σ Q ok k⟩
theorem hg_not {t : Bool} (ha : HG X a ρ (.sh (.bl t))) : HG X (.UnaryOp .Not a pos) ρ (.sh (.bl (!t))) := fun F G H σ Q ok k => ⟨_, pe_not pe_we, ha F G H σ _ ok fun v rv => ⟨t, bl_of rv, k _ (rep_fl rfl)⟩⟩
/-- the same with effects -/
theorem he_and {t u : Bool} {rest : List Expr} (ha : HE X a ρ (.sh (.bl t)) ρ1) (hb : t = true → HE X (.BoolOp .And (b :: rest) pos) ρ1 (.sh (.bl u)) ρ2) (hf : t = false → ρ2 = ρ1) : HE X (.BoolOp .And (a :: b :: rest) pos) ρ (.sh (.bl (t && u))) ρ2 := fun F G H σ Q ok k =>
  ⟨_, pe_and pe_we pe_we, ha F G H σ _ ok fun v G1 H1 e1 ok1 rv => ⟨t, bl_of rv.ok, by
    cases t with
    | true => exact hb rfl F G1 H1 σ _ ok1 fun w G2 H2 e2 => k w G2 H2 (e1.trans e2)
    | false => rw [hf rfl] at k; exact k _ G1 H1 e1 ok1 ⟨rep_fl rfl, fun z => by cases z⟩⟩⟩
theorem he_or {t u : Bool} {rest : List Expr} (ha : HE X a ρ (.sh (.bl t)) ρ1) (hb : t = false → HE X (.BoolOp .Or (b :: rest) pos) ρ1 (.sh (.bl u)) ρ2) (hf : t = true → ρ2 = ρ1) : HE X (.BoolOp .Or (a :: b :: rest) pos) ρ (.sh (.bl (t || u))) ρ2 := fun F G H σ Q ok k =>
  ⟨_, pe_or pe_we pe_we, ha F G H σ _ ok fun v G1 H1 e1 ok1 rv => ⟨t, bl_of rv.ok, by
    cases t with
    | true => rw [hf rfl] at k; exact k _ G1 H1 e1 ok1 ⟨rep_fl rfl, fun z => by cases z⟩
    | false => exact hb rfl F G1 H1 σ _ ok1 fun w G2 H2 e2 => k w G2 H2 (e1.trans e2)⟩⟩
theorem he_one {o : BoolOp} (h : HE X a ρ s ρ') : HE X (.BoolOp o [a] pos) ρ s ρ' := fun F G H σ Q ok k => ⟨_, pe_one pe_we, h F G H σ Q ok k⟩
theorem he_not {t : Bool} (ha : HE X a ρ (.sh (.bl t)) ρ1) : HE X (.UnaryOp .Not a pos) ρ (.sh (.bl (!t))) ρ1 := fun F G H σ Q ok k => ⟨_, pe_not pe_we, ha F G H σ _ ok fun v G1 H1 e1 ok1 rv => ⟨t, bl_of rv.ok, k _ G1 H1 e1 ok1 ⟨rep_fl rfl, fun z => by cases z⟩⟩⟩
/-! tests -/
theorem ht_he {t : Bool} (h : HE X e ρ (.sh (.bl t)) ρ1) (he : ∀ whole, isTrue e X.env whole = (do let v ← whole; standAt e.pos; holding [v] (truthy v)) := by intro _; rfl) : HT X e ρ t ρ1 := fun F G H σ Q ok k =>
  ⟨_, pt_val pe_we he, h F G H σ _ ok fun v G1 H1 e1 ok1 rv => ⟨t, bl_of rv.ok, k G1 H1 e1 ok1⟩⟩
theorem ht_not {t : Bool} (h : HT X a ρ t ρ1) : HT X (.UnaryOp .Not a pos) ρ (!t) ρ1 := fun F G H σ Q ok k => ⟨_, pt_not pt_wt, h F G H σ _ ok k⟩
def HW (X : Cx) (e : Expr) (ρ : Rh) (b : Bool) (ρ' : Rh) : Prop := ∀ (F : Fr) (G H : Hp) (σ : L2.St) (Q : Bool → Hp → Prop), Ok X.K F G H σ ρ → (∀ G' H', Ex G G' → Ok X.K F G' H' σ ρ' → Q b H') → ∃ t, PW X e t ∧ t σ H Q
theorem pw_w {e : Expr} : PW X e (fun σ H Q => ∃ t, PW X e t ∧ t σ H Q) := ⟨fun whole pins s σ H Q I h => let ⟨t, p, q⟩ := h; p.run whole pins s σ H Q I q⟩
theorem ht_hw {t : Bool} (h : HW X e ρ t ρ1) : HT X e ρ t ρ1 := fun F G H σ Q ok k => let ⟨t, p, q⟩ := h F G H σ Q ok k; ⟨t, p.pt, q⟩
theorem hw_and1 {t : Bool} (h : HT X a ρ t ρ1) : HW X (.BoolOp .And [a] pos) ρ t ρ1 := fun F G H σ Q ok k => ⟨_, pw_and1 pt_wt, h F G H σ _ ok k⟩
theorem hw_or1 {t : Bool} (h : HT X a ρ t ρ1) : HW X (.BoolOp .Or [a] pos) ρ t ρ1 := fun F G H σ Q ok k => ⟨_, pw_or1 pt_wt, h F G H σ _ ok k⟩
theorem hw_and {t u : Bool} {rest : List Expr} (ha : HT X a ρ t ρ1) (hb : t = true → HW X (.BoolOp .And (b :: rest) pos) ρ1 u ρ2) (hf : t = false → ρ2 = ρ1) : HW X (.BoolOp .And (a :: b :: rest) pos) ρ (t && u) ρ2 := fun F G H σ Q ok k =>
  ⟨_, pw_and pt_wt pw_w, ha F G H σ _ ok fun G1 H1 e1 ok1 => by
    cases t with
    | true => exact hb rfl F G1 H1 σ _ ok1 fun G2 H2 e2 => k G2 H2 (e1.trans e2)
    | false => rw [hf rfl] at k; exact k G1 H1 e1 ok1⟩
theorem hw_or {t u : Bool} {rest : List Expr} (ha : HT X a ρ t ρ1) (hb : t = false → HW X (.BoolOp .Or (b :: rest) pos) ρ1 u ρ2) (hf : t = true → ρ2 = ρ1) : HW X (.BoolOp .Or (a :: b :: rest) pos) ρ (t || u) ρ2 := fun F G H σ Q ok k =>
  ⟨_, pw_or pt_wt pw_w, ha F G H σ _ ok fun G1 H1 e1 ok1 => by
    cases t with
    | true => rw [hf rfl] at k; exact k G1 H1 e1 ok1
    | false => exact hb rfl F G1 H1 σ _ ok1 fun G2 H2 e2 => k G2 H2 (e1.trans e2)⟩
theorem he_if {t : Bool} (hc : HT X c ρ t ρ1) (ha : t = true → HE X a ρ1 s ρ2) (hb : t = false → HE X b ρ1 s ρ2) : HE X (.IfExp c a b pos) ρ s ρ2 := fun F G H σ Q ok k =>
  ⟨_, pe_ifExp pt_wt pe_we pe_we, hc F G H σ _ ok fun G1 H1 e1 ok1 => by
    cases t with
    | true => exact ha rfl F G1 H1 σ _ ok1 fun v G2 H2 e2 => k v G2 H2 (e1.trans e2)
    | false => exact hb rfl F G1 H1 σ _ ok1 fun v G2 H2 e2 => k v G2 H2 (e1.trans e2)⟩
end
end PL
set_option Elab.async false
set_option linter.all false
set_option maxRecDepth 100000
namespace PL
open PySem L2
theorem ln_ok {n : Nat} (h : n ≤ 100000) : n ≤ sizeLine := Nat.le_trans h (by decide)
theorem ln_lt {n : Nat} (h : n < 100000) : n < sizeLine := Nat.lt_of_lt_of_le h (by decide)
section
variable {X : Cx} {ρ ρ' ρ1 ρ2 ρ3 : Rh} {s s1 s2 : Sl} {d d1 d2 : D} {e a b c o : Expr} {es : List Expr} {pos p apos cpos : Pos} {x f m : Str} {ds : List D} {ss : List Sl} {k : Nat} {r : Sl}
/-! ### arguments -/
theorem hga_nil : HGA X [] ρ [] := fun F G H σ Q ok k => ⟨_, pa_nil, k _ repL_mk0⟩
theorem hga_cons (h : HG X e ρ s) (hr : HGA X es ρ ss) (hs : starEach (e :: es) X.env = (false, eval e X.env) :: starEach es X.env := by rfl) : HGA X (e :: es) ρ (s :: ss) := fun F G H σ Q ok k =>
  ⟨_, pa_cons pe_we pa_wa hs, h F G H σ _ ok fun v rv => hr F G H σ _ ok fun vs rvs => k _ (repL_mk (rv.rep ok.toHk) rvs)⟩
theorem hea_nil : HEA X [] ρ [] ρ := fun F G H σ Q ok k => ⟨_, pa_nil, k _ G H (Ex.refl _) ok repL_mk0⟩
theorem hea_cons (h : HE X e ρ (.sh d) ρ1) (hr : HEA X es ρ1 ds ρ2) (hs : starEach (e :: es) X.env = (false, eval e X.env) :: starEach es X.env := by rfl) : HEA X (e :: es) ρ (d :: ds) ρ2 := fun F G H σ Q ok k =>
  ⟨_, pa_cons pe_we pa_wa hs, h F G H σ _ ok fun v G1 H1 e1 ok1 rv => hr F G1 H1 σ _ ok1 fun vs G2 H2 e2 ok2 rvs => k _ G2 H2 (e1.trans e2) ok2 (repL_mk (Rep.mono e2 rv.ok) rvs)⟩
/-! ### displays -/
theorem res_tup {K : PySem.W.Frag} {F : Fr} {G H : Hp} {σ : L2.St} {ρ : Rh} {vs : List V} {p : Addr} (ok : Ok K F G H σ ρ) (n : H p = none) (r : RepL K G ds vs) :
    Ok K F (upd G p (.tup vs)) (upd H p (.tup vs)) σ ρ ∧ Res K F (upd G p (.tup vs)) (upd H p (.tup vs)) σ ρ (.sh (.tup ds)) (.ref p) ∧ Ex G (upd G p (.tup vs)) := by
  obtain ⟨fb, fg, fa⟩ := ok.free n
  refine ⟨(ok.new n fun _ _ z => HO.noConfusion z).freeze fb fg upd_same (fun _ _ z => HO.noConfusion z) fa, ⟨?_, fun z => by cases z⟩, Ex.new fg⟩
  simp only [SlOk, Rep]
  exact ⟨p, vs, rfl, .inl (.inl upd_same), RepL.mono (Ex.new fg) r⟩
theorem res_ol {K : PySem.W.Frag} {F : Fr} {G H : Hp} {σ : L2.St} {ρ : Rh} {vs : List V} {p : Addr} (ok : Ok K F G H σ ρ) (n : H p = none) (r : RepL K G ds vs) :
    Ok K F G (upd H p (.lst vs)) σ ρ ∧ Res K F G (upd H p (.lst vs)) σ ρ (.ol ds) (.ref p) := by
  obtain ⟨fb, fg, fa⟩ := ok.free n
  exact ⟨ok.new n fun _ _ z => HO.noConfusion z, ⟨p, vs, rfl, fb, fg, upd_same, r⟩, fun _ => fa⟩
theorem res_od {K : PySem.W.Frag} {F : Fr} {G H : Hp} {σ : L2.St} {ρ : Rh} {ks : List (Key × D)} {vs : List (Key × V)} {p : Addr} (ok : Ok K F G H σ ρ) (n : H p = none) (r : RepK K G ks vs) :
    Ok K F G (upd H p (.dK vs)) σ ρ ∧ Res K F G (upd H p (.dK vs)) σ ρ (.od ks) (.ref p) := by
  obtain ⟨fb, fg, fa⟩ := ok.free n
  exact ⟨ok.new n fun _ _ z => HO.noConfusion z, ⟨p, vs, rfl, fb, fg, upd_same, r⟩, fun _ => fa⟩
theorem he_tup {x1} (h : HEA X es ρ ds ρ') (hl : ds.length ≤ 100000 := by decide) : HE X (.Tuple es x1 pos) ρ (.sh (.tup ds)) ρ' := fun F G H σ Q ok k =>
  ⟨_, pe_tup pa_wa, h F G H σ _ ok fun vs G1 H1 e1 ok1 r => ⟨ln_ok (by rw [repL_len r]; exact hl), fun p n => by
    obtain ⟨a, b, c⟩ := res_tup ok1 n r
    exact k _ _ _ (e1.trans c) a b⟩⟩
theorem he_lst (h : HEA X es ρ ds ρ') (hl : ds.length ≤ 100000 := by decide) : HE X (.List es pos) ρ (.ol ds) ρ' := fun F G H σ Q ok k =>
  ⟨_, pe_lst pa_wa, h F G H σ _ ok fun vs G1 H1 e1 ok1 r => ⟨ln_ok (by rw [repL_len r]; exact hl), fun p n => by
    obtain ⟨a, b⟩ := res_ol ok1 n r
    exact k _ _ _ e1 a b⟩⟩
theorem he_dict0 : HE X (.Dict [] [] pos) ρ (.od []) ρ := fun F G H σ Q ok k =>
  ⟨_, pe_dnewK, fun p n => by
    obtain ⟨a, b⟩ := res_od ok n (ks := []) repK_mk0
    exact k _ _ _ (Ex.refl _) a b⟩
/-! ### built-in calls that give flat data -/
def CallV (X : Cx) (f : Value) (ds : List D) (c : D) : Prop := ∃ r z, CallR X f r ∧ c.fl = some z ∧ ∀ (H : Hp) (vs : List V) (Q : VK), RepL X.K (strip H) ds vs → Q z H → r vs H Q
theorem hg_callB {id : String} (ha : HGA X (e :: es) ρ ss) (h : CallV X (.builtin id) (ss.map Sl.data) d) (hg : Gl X x) (hm : X.mg x = none) (hv : bootBuiltins x = some (.builtin id)) (hn : x ≠ "__name__" := by decide) (hdb : (x == ("__debug__" : Str)) = false := by decide)
    (he : starEach (e :: es) X.env = (false, eval e X.env) :: starEach es X.env := by rfl) (hpl : (backTo pos (starEach es X.env)).any (·.1) = false := by rfl) : HG X (.Call (.Name x p) (e :: es) [] pos) ρ (.sh d) := fun F G H σ Q ok k => by
  obtain ⟨r, z, hr, hz, hq⟩ := h
  exact ⟨_, pe_callB hr hg hm hv pa_wa hn hdb he hpl, ha F G H σ _ ok fun vs rv => hq H vs Q rv (k z (rep_fl hz))⟩
theorem he_callB {id : String} (ha : HEA X (e :: es) ρ ds ρ') (h : CallV X (.builtin id) ds d) (hg : Gl X x) (hm : X.mg x = none) (hv : bootBuiltins x = some (.builtin id)) (hn : x ≠ "__name__" := by decide) (hdb : (x == ("__debug__" : Str)) = false := by decide)
    (he : starEach (e :: es) X.env = (false, eval e X.env) :: starEach es X.env := by rfl) (hpl : (backTo pos (starEach es X.env)).any (·.1) = false := by rfl) : HE X (.Call (.Name x p) (e :: es) [] pos) ρ (.sh d) ρ' := fun F G H σ Q ok k => by
  obtain ⟨r, z, hr, hz, hq⟩ := h
  exact ⟨_, pe_callB hr hg hm hv pa_wa hn hdb he hpl, ha F G H σ _ ok fun vs G1 H1 e1 ok1 rv => hq H1 vs Q (RepL.monk ok1.toHk.exk rv) (k z G1 H1 e1 ok1 ⟨rep_fl hz, fun z => by cases z⟩)⟩
theorem c_abs {i : Int} : CallV X (.builtin "abs") [.int i] (.int (if i < 0 then -i else i)) := ⟨_, _, call_abs, rfl, fun H vs Q r q => by
  obtain ⟨v, t, rfl, h1, h2⟩ := repL_cons r
  rw [repL_nil h2, fl_rep (d := .int i) rfl h1]
  exact ⟨i, rfl, q⟩⟩
theorem c_min2 (hc : X.calm = true) {i j : Int} : CallV X (.builtin "min") [.int i, .int j] (.int (if j < i then j else i)) := ⟨_, _, call_min2 hc, rfl, fun H vs Q r q => by
  rw [repL_ints (ns := [i, j]) r]
  exact ⟨i, j, rfl, q⟩⟩
theorem c_max2 (hc : X.calm = true) {i j : Int} : CallV X (.builtin "max") [.int i, .int j] (.int (if j > i then j else i)) := ⟨_, _, call_max2 hc, rfl, fun H vs Q r q => by
  rw [repL_ints (ns := [i, j]) r]
  exact ⟨i, j, rfl, q⟩⟩
theorem c_lenL {es : List D} : CallV X (.builtin "len") [.lst es] (.int es.length) := ⟨_, _, call_len_seq, rfl, fun H vs Q r q => by
  obtain ⟨v, t, rfl, h1, h2⟩ := repL_cons r
  obtain ⟨p, ws, rfl, hp, rl⟩ := rep_lst strip_sub h1
  rw [repL_nil h2]
  exact ⟨p, ws, rfl, .inl hp, by rw [repL_len rl]; exact q⟩⟩
theorem c_lenT {es : List D} : CallV X (.builtin "len") [.tup es] (.int es.length) := ⟨_, _, call_len_seq, rfl, fun H vs Q r q => by
  obtain ⟨v, t, rfl, h1, h2⟩ := repL_cons r
  obtain ⟨p, ws, rfl, hp, rl⟩ := rep_tup strip_sub h1
  rw [repL_nil h2]
  exact ⟨p, ws, rfl, .inr hp, by rw [repL_len rl]; exact q⟩⟩
theorem c_lenS {z : Str} (hl : z.length ≤ 100000) : CallV X (.builtin "len") [.str z] (.int z.length) := ⟨_, _, call_len_str, rfl, fun H vs Q r q => by
  rw [repL_strs (ns := [z]) r]
  exact ⟨z, rfl, ln_ok hl, q⟩⟩
theorem call_lenDR : CallR X (.builtin "len") (fun xs H Q => ∃ a kvs, xs = [V.ref a] ∧ Rd H a (.dK kvs) ∧ Q (.int kvs.length) H) := by
  intro pins s σ H xs us Q I r h
  obtain ⟨a, kvs, rfl, ha, q⟩ := h
  obtain ⟨u, rfl, ru⟩ := vals1 r
  cases ru
  exact d_len I ha fun t s' I' => ⟨.int kvs.length, H, I', ⟨t, rfl⟩, q⟩
theorem c_lenD {ks : List (Key × D)} : CallV X (.builtin "len") [.dct ks] (.int ks.length) := ⟨_, _, call_lenDR, rfl, fun H vs Q r q => by
  obtain ⟨v, t, rfl, h1, h2⟩ := repL_cons r
  obtain ⟨p, ws, rfl, hp, rl⟩ := rep_dct strip_sub h1
  rw [repL_nil h2]
  exact ⟨p, ws, rfl, hp, by rw [repK_len rl]; exact q⟩⟩
theorem c_sum (hc : X.calm = true) {ns : List Int} : CallV X (.builtin "sum") [.lst (ns.map D.int)] (.int ns.sum) := ⟨_, _, cr_sum hc, rfl, fun H vs Q r q => by
  obtain ⟨v, t, rfl, h1, h2⟩ := repL_cons r
  obtain ⟨p, ws, rfl, hp, rl⟩ := rep_lst strip_sub h1
  rw [repL_nil h2]
  rw [repL_ints rl] at hp
  exact ⟨p, ns, rfl, hp, q⟩⟩
theorem c_all (hc : X.calm = true) {bs : List Bool} : CallV X (.builtin "all") [.lst (bs.map D.bl)] (.bl (bs.all id)) := ⟨_, _, cr_all hc, rfl, fun H vs Q r q => by
  obtain ⟨v, t, rfl, h1, h2⟩ := repL_cons r
  obtain ⟨p, ws, rfl, hp, rl⟩ := rep_lst strip_sub h1
  rw [repL_nil h2]
  rw [repL_bls rl] at hp
  exact ⟨p, bs, rfl, hp, q⟩⟩
def minI : List Int → Int
  | [] => 0
  | [a] => a
  | a :: r => if minI r < a then minI r else a
def maxI : List Int → Int
  | [] => 0
  | [a] => a
  | a :: r => if maxI r > a then maxI r else a
theorem minI_spec : ∀ {ns : List Int} {m : Int}, m ∈ ns → (∀ y ∈ ns, m ≤ y) → m = minI ns
  | [], m, h, _ => by cases h
  | [a], m, h, _ => by simpa [minI] using h
  | a :: b :: r, m, h, hm => by
    have rec_ : ∀ {l : List Int}, l ≠ [] → minI l ∈ l ∧ ∀ y ∈ l, minI l ≤ y := by
      intro l
      induction l with
      | nil => intro h; exact absurd rfl h
      | cons x t ih =>
        intro _
        cases t with
        | nil => simp [minI]
        | cons y t =>
          obtain ⟨i1, i2⟩ := ih (by simp)
          simp only [minI]
          generalize minI (y :: t) = q at i1 i2
          by_cases z : q < x
          · rw [if_pos z]
            refine ⟨List.mem_cons_of_mem _ i1, fun w hw => ?_⟩
            rcases List.mem_cons.mp hw with rfl | hw
            · omega
            · exact i2 w hw
          · rw [if_neg z]
            refine ⟨List.mem_cons_self, fun w hw => ?_⟩
            rcases List.mem_cons.mp hw with rfl | hw
            · omega
            · have := i2 w hw; omega
    obtain ⟨j1, j2⟩ := rec_ (l := a :: b :: r) (by simp)
    have := hm _ j1
    have := j2 _ h
    omega
theorem maxI_spec : ∀ {ns : List Int} {m : Int}, m ∈ ns → (∀ y ∈ ns, y ≤ m) → m = maxI ns
  | [], m, h, _ => by cases h
  | [a], m, h, _ => by simpa [maxI] using h
  | a :: b :: r, m, h, hm => by
    have rec_ : ∀ {l : List Int}, l ≠ [] → maxI l ∈ l ∧ ∀ y ∈ l, y ≤ maxI l := by
      intro l
      induction l with
      | nil => intro h; exact absurd rfl h
      | cons x t ih =>
        intro _
        cases t with
        | nil => simp [maxI]
        | cons y t =>
          obtain ⟨i1, i2⟩ := ih (by simp)
          simp only [maxI]
          generalize maxI (y :: t) = q at i1 i2
          by_cases z : q > x
          · rw [if_pos z]
            refine ⟨List.mem_cons_of_mem _ i1, fun w hw => ?_⟩
            rcases List.mem_cons.mp hw with rfl | hw
            · omega
            · exact i2 w hw
          · rw [if_neg z]
            refine ⟨List.mem_cons_self, fun w hw => ?_⟩
            rcases List.mem_cons.mp hw with rfl | hw
            · omega
            · have := i2 w hw; omega
    obtain ⟨j1, j2⟩ := rec_ (l := a :: b :: r) (by simp)
    have := hm _ j1
    have := j2 _ h
    omega
theorem c_minL (hc : X.calm = true) {ns : List Int} (h : 0 < ns.length) : CallV X (.builtin "min") [.lst (ns.map D.int)] (.int (minI ns)) := ⟨_, _, cr_min hc, rfl, fun H vs Q r q => by
  obtain ⟨v, t, rfl, h1, h2⟩ := repL_cons r
  obtain ⟨p, ws, rfl, hp, rl⟩ := rep_lst strip_sub h1
  rw [repL_nil h2]
  rw [repL_ints rl] at hp
  exact ⟨p, ns, rfl, hp, h, fun m hm hy => by rw [minI_spec hm hy]; exact q⟩⟩
theorem c_maxL (hc : X.calm = true) {ns : List Int} (h : 0 < ns.length) : CallV X (.builtin "max") [.lst (ns.map D.int)] (.int (maxI ns)) := ⟨_, _, cr_max hc, rfl, fun H vs Q r q => by
  obtain ⟨v, t, rfl, h1, h2⟩ := repL_cons r
  obtain ⟨p, ws, rfl, hp, rl⟩ := rep_lst strip_sub h1
  rw [repL_nil h2]
  rw [repL_ints rl] at hp
  exact ⟨p, ns, rfl, hp, h, fun m hm hy => by rw [maxI_spec hm hy]; exact q⟩⟩
/-! ### what a slot's items are -/
def Sl.items : Sl → Option (List D)
  | .sh (.lst ds) => some ds
  | .sh (.tup ds) => some ds
  | .ol ds => some ds
  | .io ds => some ds
  | _ => none
theorem SlOk.items {K : PySem.W.Frag} {F : Fr} {G H : Hp} {v : V} (hk : Hk F G H) (h : SlOk K F G H s v) (hi : s.items = some ds) : ∃ a vs, v = .ref a ∧ (SqL K H a vs ∨ SqT K H a vs) ∧ RepL K G ds vs := by
  cases s with
  | sh d =>
    cases d <;> first | (cases hi; done) | skip
    · cases hi
      obtain ⟨a, vs, e, q, r⟩ := rep_tup hk.sub h
      exact ⟨a, vs, e, .inr q, r⟩
    · cases hi
      obtain ⟨a, vs, e, q, r⟩ := rep_lst hk.sub h
      exact ⟨a, vs, e, .inl q, r⟩
  | ol ds' =>
    cases hi
    obtain ⟨p, vs, e, _, _, q, r⟩ := h
    exact ⟨p, vs, e, .inl (.inl (.inl q)), r⟩
  | od _ => cases hi
  | ot _ => cases hi
  | io ds' =>
    cases hi
    obtain ⟨vs, e, _, _, q, r⟩ := h
    exact ⟨_, vs, e, .inl (.inl (.inl q)), r⟩
def Sl.pairs : Sl → Option (List (Key × D))
  | .sh (.dct ds) => some ds
  | .od ds => some ds
  | _ => none
theorem SlOk.pairs {K : PySem.W.Frag} {F : Fr} {G H : Hp} {v : V} {ks : List (Key × D)} (hk : Hk F G H) (h : SlOk K F G H s v) (hi : s.pairs = some ks) : ∃ a vs, v = .ref a ∧ Rd H a (.dK vs) ∧ RepK K G ks vs := by
  cases s with
  | sh d =>
    cases d <;> first | (cases hi; done) | skip
    cases hi
    exact rep_dct hk.sub h
  | ol _ => cases hi
  | od ds' =>
    cases hi
    obtain ⟨p, vs, e, _, _, q, r⟩ := h
    exact ⟨p, vs, e, .inl q, r⟩
  | ot _ => cases hi
  | io _ => cases hi
/-! ### subscripts -/
def rIxLT (K : PySem.W.Frag) : R2 := fun x y H Q => rIxL K x y H Q ∨ rIxT K x y H Q
theorem ix_lt : IxR X (rIxLT X.K) := ix_list.or ix_tup
theorem atI_rep {K : PySem.W.Frag} {G : Hp} {vs : List V} {i : Int} (r : RepL K G ds vs) (h : atI ds i = some d) : ∃ v, atI vs i = some v ∧ Rep K G d v := by
  unfold atI at h ⊢
  rw [repL_len r]
  cases q : ixN ds.length i with
  | none => rw [q] at h; cases h
  | some j => rw [q] at h; exact repL_get r h
theorem hg_ix {i : Int} (ha : HG X a ρ s) (hb : HG X b ρ (.sh (.int i))) (hi : s.items = some ds) (h : atI ds i = some d) (hs : PlainIx b := by exact fun _ _ => rfl) : HG X (.Subscript a b pos) ρ (.sh d) := fun F G H σ Q ok k =>
  ⟨_, pe_ix ix_lt pe_we pe_we hs, ha F G H σ _ ok fun v rv => hb F G H σ _ ok fun w rw => by
    obtain ⟨p, vs, rfl, q, r⟩ := rv.items ok.toHk hi
    obtain ⟨z, hz, rz⟩ := atI_rep r h
    rw [int_of rw]
    exact q.imp (fun q => ⟨p, vs, i, z, rfl, rfl, q, hz, k z rz⟩) fun q => ⟨p, vs, i, z, rfl, rfl, q, hz, k z rz⟩⟩
theorem he_ix {i : Int} (ha : HE X a ρ s ρ1) (hb : HE X b ρ1 (.sh (.int i)) ρ2) (hi : s.items = some ds) (hsh : s.own = false) (h : atI ds i = some d) (hs : PlainIx b := by exact fun _ _ => rfl) : HE X (.Subscript a b pos) ρ (.sh d) ρ2 := fun F G H σ Q ok k =>
  ⟨_, pe_ix ix_lt pe_we pe_we hs, ha F G H σ _ ok fun v G1 H1 e1 ok1 rv => hb F G1 H1 σ _ ok1 fun w G2 H2 e2 ok2 rw => by
    obtain ⟨p, vs, rfl, q, r⟩ := (rv.ok.move (F := F) e2 (H' := H2) (fun z => by rw [hsh] at z; cases z)).items ok2.toHk hi
    obtain ⟨z, hz, rz⟩ := atI_rep r h
    rw [int_of rw.ok]
    have kk := k z G2 H2 (e1.trans e2) ok2 ⟨rz, fun z => by cases z⟩
    exact q.imp (fun q => ⟨p, vs, i, z, rfl, rfl, q, hz, kk⟩) fun q => ⟨p, vs, i, z, rfl, rfl, q, hz, kk⟩⟩
theorem hg_get {ky : Key} {ks : List (Key × D)} (hu : X.A.units + 1 < cLine) (ha : HG X a ρ s) (hb : HG X b ρ (.sh (kD ky))) (hi : s.pairs = some ks) (h : look ks ky = some d) (hs : NoSl b := by exact fun _ _ => rfl) : HG X (.Subscript a b pos) ρ (.sh d) := fun F G H σ Q ok k =>
  ⟨_, pe_dget hu pe_we pe_we hs, ha F G H σ _ ok fun v rv => hb F G H σ _ ok fun w rw => by
    obtain ⟨p, vs, rfl, q, r⟩ := rv.pairs ok.toHk hi
    obtain ⟨z, hz, rz⟩ := (repK_look r).1 d h
    rw [fl_rep (kD_fl ky) (show Rep X.K G (kD ky) w from rw)]
    exact ⟨p, z, rfl, .inl ⟨vs, ky, q, rfl, hz.symm⟩, k z rz⟩⟩
/-- d.get(k, x) -/
theorem hg_get2 {ky : Key} {ks : List (Key × D)} (hu : X.A.units + 1 < cLine) (ho : HG X o ρ s) (ha : HG X a ρ (.sh (kD ky))) (hb : HG X b ρ (.sh d)) (hi : s.pairs = some ks) (m : M2 X o "get" apos a b cpos) :
    HG X (.Call (.Attribute o "get" apos) [a, b] [] cpos) ρ (.sh ((look ks ky).getD d)) := fun F G H σ Q ok k =>
  ⟨_, pe_dget2 hu pe_we pe_we pe_we m, ho F G H σ _ ok fun v rv => by
    obtain ⟨p, vs, rfl, q, r⟩ := rv.pairs ok.toHk hi
    refine ⟨p, rfl, .inl ⟨vs, q⟩, ha F G H σ _ ok fun w rw => hb F G H σ _ ok fun y ry => ?_⟩
    rw [fl_rep (kD_fl ky) (show Rep X.K G (kD ky) w from rw)]
    refine ⟨_, .inl ⟨vs, ky, q, rfl, rfl⟩, k _ ?_⟩
    obtain ⟨r1, r2⟩ := repK_look (j := ky) r
    cases z : look ks ky with
    | none => rw [r2 z]; exact ry
    | some d' =>
      obtain ⟨u, e1, e2⟩ := r1 d' z
      rw [e1]
      exact e2⟩
/-! ### attributes -/
theorem repF_look {K : PySem.W.Frag} {G : Hp} {f : Str} : ∀ {fs : List (Str × D)} {vs : List (Str × V)} {d : D}, RepF K G fs vs → fs.lookup f = some d → ∃ v, vs.lookup f = some v ∧ Rep K G d v
  | [], vs, d, h, e => by cases e
  | (g, d0) :: fs, vs, d, h, e => by
    simp only [RepF] at h
    obtain ⟨v, r, rfl, h1, h2⟩ := h
    rw [List.lookup_cons] at e ⊢
    cases z : f == g with
    | true => rw [z] at e; simp only at e ⊢; cases e; exact ⟨v, rfl, h1⟩
    | false => rw [z] at e; simp only at e ⊢; exact repF_look h2 e
theorem hg_fld {C : Addr} {fs : List (Str × D)} (ha : HG X a ρ (.sh (.obj C fs))) (cl : Cls X.K C) (na : NoAttr X.K C f) (h : fs.lookup f = some d) (hb : attributeBase a f X.env (eval a X.env) = eval a X.env := by rfl) : HG X (.Attribute a f pos) ρ (.sh d) := fun F G H σ Q ok k =>
  ⟨_, pe_fld pe_we hb, ha F G H σ _ ok fun v rv => by
    simp only [SlOk, Rep] at rv
    obtain ⟨p, dx, vs, rfl, q, r⟩ := rv
    obtain ⟨z, e1, e2⟩ := repF_look r h
    exact ⟨p, C, dx, vs, z, rfl, ok.sub.ins q, cl, na, e1, k z e2⟩⟩
end
end PL
set_option Elab.async false
set_option linter.all false
set_option maxRecDepth 100000
namespace PL
open PySem L2
/-! ### a lock that ends where it is told -/
section
variable {X : Cx} {pins : List (Addr × Obj)} {σ : L2.St} {H : Hp} {s : Shared}
def Unl (X : Cx) (H : Hp) (P : Hp → Prop) : Prop := P H ∨ ∃ d od u, H d = some (.frz od u) ∧ (∀ o' u', X.H_0 d ≠ some (.frz o' u')) ∧ P (upd H d u)
theorem inv_unl {P : Hp → Prop} (I : Inv X pins σ H s) (h : Unl X H P) : ∃ H', Inv X pins σ H' s ∧ P H' := by
  rcases h with h | ⟨d, od, u, e, n, h⟩
  · exact ⟨H, I, h⟩
  · exact ⟨_, I.unlock e n, h⟩
theorem pe_unl {e : Expr} {t : TE} (h : PE X e t) : PE X e (fun σ H Q => t σ H fun v H' => Unl X H' (Q v)) :=
  ⟨fun pins s σ H Q I q => thn (h.run pins s σ H _ I q) fun u s1 ⟨v, H1, I1, r, q1⟩ => let ⟨H2, I2, q2⟩ := inv_unl I1 q1; ⟨v, H2, I2, r, q2⟩⟩
def unlD (X : Cx) (D : Ends) : Ends := ⟨fun σ' H' => Unl X H' (D.nx σ'), fun v H' => Unl X H' (D.rt v), fun σ' H' => Unl X H' (D.bk σ'), fun σ' H' => Unl X H' (D.ct σ')⟩
theorem ps_unl {st : Stmt} {t : TS} (h : PS X st t) : PS X st (fun D σ H => t (unlD X D) σ H) :=
  ⟨fun pins s σ H D I q => thn (h.run pins s σ H _ I q) fun f s1 q1 => by
    cases f with
    | next => obtain ⟨σ', H', I', q⟩ := q1; obtain ⟨H2, I2, q2⟩ := inv_unl I' q; exact ⟨σ', H2, I2, q2⟩
    | brk => obtain ⟨σ', H', I', q⟩ := q1; obtain ⟨H2, I2, q2⟩ := inv_unl I' q; exact ⟨σ', H2, I2, q2⟩
    | cont => obtain ⟨σ', H', I', q⟩ := q1; obtain ⟨H2, I2, q2⟩ := inv_unl I' q; exact ⟨σ', H2, I2, q2⟩
    | ret u => obtain ⟨v, σ', H', I', r, q⟩ := q1; obtain ⟨H2, I2, q2⟩ := inv_unl I' q; exact ⟨v, σ', H2, I2, r, q2⟩⟩
/-- a dict is locked as its walk begins -/
def iKeysL (X : Cx) (td : TE) : TI := fun σ H R => td σ H fun x H1 => ∃ d kvs, x = .ref d ∧ H1 d = some (.dK kvs) ∧ ∀ o, (∀ o' u', X.H_0 d ≠ some (.frz o' u')) → R (Itk d o kvs) (upd H1 d (.frz o (.dK kvs)))
def iItemsL (X : Cx) (td : TE) : TI := fun σ H R => td σ H fun x H1 => ∃ d kvs, x = .ref d ∧ H1 d = some (.dK kvs) ∧ ∀ o, (∀ o' u', X.H_0 d ≠ some (.frz o' u')) → R (Iti d o kvs) (upd H1 d (.frz o (.dK kvs)))
variable {tg e : Expr} {td : TE} {apos cpos : Pos}
theorem pi_keysL (he : PE X e td) : PI X tg e (iKeysL X td) := by
  refine ⟨fun pins s σ H R I h => ?_⟩
  refine thn (he.run pins s σ H _ I h) fun u s1 ⟨x, H1, I1, rx, d, kvs, ex, hd, q⟩ => ?_
  subst ex
  obtain rfl : u = Value.ref d := rx
  have nf := I1.nofrz hd trivial
  obtain ⟨od, I2⟩ := I1.lock hd trivial
  have q := q od nf
  obtain ⟨hs, hgd, hx, es, ep, vs, hdt, hsz, kv, hm⟩ := I2.frzK upd_same
  refine iter_keys hs hgd hx hdt (pi_one (tk := s1.toks) I2 _ (turn_keys _ hdt) ⟨_, Heap.get?_push_size _ rfl, rfl, ?_⟩ q)
  rw [hsz] <;> rfl
theorem pi_itemsL {elts : List Expr} {kk : Nat} {tpos : Pos} (he : PE X e td) (hbase : attributeBase e "items" X.env (eval e X.env) = eval e X.env := by rfl) (hline : (apos.endLine == cpos.line) = true := by rfl) :
    PI X (.Tuple elts kk tpos) (.Call (.Attribute e "items" apos) [] [] cpos) (iItemsL X td) := by
  refine ⟨fun pins s σ H R I h => ?_⟩
  refine wpAny_Call_method (T := "dict") (id := "dict.items") hbase rfl hline F.plainAttrs_dict F.slot_dict_items F.type_dict_items (thn (he.run pins s σ H _ I h) fun u s1 ⟨x, H1, I1', rx, d, kvs, ex, hd', q⟩ => ?_)
  subst ex
  obtain rfl : u = Value.ref d := rx
  have nf := I1'.nofrz hd' trivial
  obtain ⟨od, I1⟩ := I1'.lock hd' trivial
  have q := q od nf
  obtain ⟨hs, hgd, hx, es, ep, vs, hdt, hsz, kv, hm⟩ := I1.frzK upd_same
  have hl : kvs.length = vs.length := Paired.length kv
  refine ⟨hm.dictOf.typeIs, hm.dictOf.mapOf.noDict, ?_⟩
  have I2 : Inv X pins σ (upd H1 d (.frz od (.dK kvs))) { s1 with heap := s1.heap.push { cls := .type "dict_items", data := .fields #[.ref d] } } := I1.kept (t' := s1.toks) fun b ob q => Heap.get?_push_of_some _ q
  have fin : wpAny (model X.prog X.w) X.A (pyIter (.ref s1.heap.objs.size)) (PIE X pins σ (.Tuple elts kk tpos) R) X.xe { s1 with heap := s1.heap.push { cls := .type "dict_items", data := .fields #[.ref d] } } := by
    refine wpAny_pyIter_items (d := d) (knd := mixKind X.prog X.w) ⟨_, Heap.get?_push_size _ rfl, rfl, rfl⟩ (hm.push _) (pi_one (tk := s1.toks) I2 _ (turn_items _ hdt) ⟨.none, .none, ?_⟩ q)
    rw [hl]
    exact Heap.get?_push_size _ rfl
  show wpAny _ _ (callWith cpos (.builtin "dict.items") [.ref d] [] []) _ X.xe s1
  exact method_meetsIn F.slot_dict_items F.entry_dict_items rfl (PySem.evalArgs_none ⟨rfl, hm.dictOf.typeIs, F.args_dict_items_1 _, _, meets_dict_items (mixKind X.prog X.w) d hs, ⟨vs, hm.dictOf⟩, fin⟩)
end
/-! ### walks over data -/
def FrLe (F F' : Fr) : Prop := Ex F.B F'.B ∧ Ex F.G0 F'.G0
structure Wk (K : PySem.W.Frag) (F : Fr) (J : It) (ds : List D) : Prop where
  go : ∀ i F' G H σ ρ, FrLe F F' → i < ds.length → Ok K F' G H σ ρ → J.go i H
  st : ∀ F' G H σ ρ, FrLe F F' → Ok K F' G H σ ρ → J.stop ds.length H
  yl : ∀ i F' G H σ ρ x H', FrLe F F' → i < ds.length → Ok K F' G H σ ρ → J.yld i H x H' → ∃ d G', ds[i]? = some d ∧ Ex G G' ∧ Ok K F' G' H' σ ρ ∧ Rep K G' d x
theorem FrLe.refl (F : Fr) : FrLe F F := ⟨Ex.refl _, Ex.refl _⟩
/-- from the walk's frame back -/
def Exit (X : Cx) (F F' : Fr) : Prop := F'.io = F.io ∧ ∀ G H σ ρ (P : Hp → Prop), Ok X.K F' G H σ ρ → (∀ H', Ok X.K F G H' σ ρ → (∀ s v, Res X.K F' G H σ ρ s v → Res X.K F G H' σ ρ s v) → P H') → Unl X H P
section
variable (X : Cx)
def WI (tg iter : Expr) : TI := fun σ H R => ∃ wi, PI X tg iter wi ∧ wi σ H R
def WG (tg : Expr) : TG := fun v σ H Q => ∃ g, PG X tg g ∧ g v σ H Q
def WGs (tgs : List Expr) : TGs := fun v σ H Q => ∃ g, PGs X tgs g ∧ g v σ H Q
def HI (tg iter : Expr) (ρ : Rh) (ds : List D) (ρ' : Rh) : Prop := ∀ (F : Fr) (G H : Hp) (σ : L2.St) (R : It → Hp → Prop), Ok X.K F G H σ ρ →
  (∀ J F' G' H', Ex G G' → Ok X.K F' G' H' σ ρ' → F'.G0 = G' → Wk X.K F' J ds → Exit X F F' → R J H') → WI X tg iter σ H R
def HB (tg : Expr) (is : List Nat) (d : D) (ρ ρ' : Rh) : Prop := ∀ (F : Fr) (G H : Hp) (σ : L2.St) (v : V) (Q : L2.St → Hp → Prop), Ok X.K F G H σ ρ → Rep X.K G d v →
  (∀ σ', Ok X.K F G H σ' ρ' → (∀ i, i ∉ is → σ'[i]? = σ[i]?) → σ'.length = σ.length → Q σ' H) → WG X tg v σ H Q
def HBs (tgs : List Expr) (is : List Nat) (ds : List D) (ρ ρ' : Rh) : Prop := ∀ (F : Fr) (G H : Hp) (σ : L2.St) (vs : List V) (Q : L2.St → Hp → Prop), Ok X.K F G H σ ρ → RepL X.K G ds vs →
  (∀ σ', Ok X.K F G H σ' ρ' → (∀ i, i ∉ is → σ'[i]? = σ[i]?) → σ'.length = σ.length → Q σ' H) → WGs X tgs vs σ H Q
end
section
variable {X : Cx} {ρ ρ' ρ1 ρ2 ρ3 : Rh} {s s1 s2 : Sl} {d d1 d2 : D} {e a b c o tg iter : Expr} {es : List Expr} {pos p apos cpos : Pos} {x f m : Str} {ds : List D} {ss : List Sl} {k : Nat} {r : Sl}
theorem pi_wi : PI X tg iter (WI X tg iter) := ⟨fun pins s σ H R I h => let ⟨t, p, q⟩ := h; p.run pins s σ H R I q⟩
theorem pg_wg : PG X tg (WG X tg) := ⟨fun pins s σ H v u Q I r h => let ⟨t, p, q⟩ := h; p.run pins s σ H v u Q I r q⟩
theorem pgs_wgs : PGs X es (WGs X es) := ⟨fun pins s σ H v u Q I r h => let ⟨t, p, q⟩ := h; p.run pins s σ H v u Q I r q⟩
/-- the same heap, but all that is frozen now is kept -/
theorem Ok.into {K : PySem.W.Frag} {F : Fr} {G H : Hp} {σ : L2.St} (ok : Ok K F G H σ ρ) : Ok K ⟨F.B, G, F.io⟩ G H σ ρ where
  sub := ok.sub
  bh := ok.bh
  g0 := Ex.refl _
  gn := fun p o h => .inl h
  nf := ok.nf
  fz := ok.fz
  len := ok.len
  sl := fun i s hi => by
    obtain ⟨v, h1, h2⟩ := ok.sl i s hi
    exact ⟨v, h1, by cases s <;> exact h2⟩
  ow := ok.ow
theorem SlOk.reF {K : PySem.W.Frag} {B G0 G0' G H : Hp} {io : Addr} {v : V} (h : SlOk K ⟨B, G0, io⟩ G H s v) : SlOk K ⟨B, G0', io⟩ G H s v := by cases s <;> exact h
theorem exit_into {F : Fr} {G H : Hp} {σ : L2.St} (ok : Ok X.K F G H σ ρ) : Exit X F ⟨F.B, G, F.io⟩ := ⟨rfl, fun G2 H2 σ2 ρ2 P ok2 k => .inl (k H2 ⟨⟨ok2.sub, ok2.bh, ok.g0.trans ok2.g0, fun p o h => by
    rcases ok2.gn p o h with q | q
    · exact ok.gn p o q
    · exact .inr q, ok2.nf, ok2.fz⟩, ok2.len, fun i s hi => by
    obtain ⟨v, h1, h2⟩ := ok2.sl i s hi
    exact ⟨v, h1, by cases s <;> exact h2⟩, ok2.ow⟩ fun s v r => ⟨by cases s <;> exact r.ok, r.ap⟩)⟩
theorem wk_items {K : PySem.W.Frag} {F : Fr} {J : It} {vs : List V} {Gd : Hp → Prop} (w : Walk J vs.length Gd (YAt vs)) (hg : ∀ F' G H σ ρ, FrLe F F' → Ok K F' G H σ ρ → Gd H) (hr : RepL K F.G0 ds vs) : Wk K F J ds where
  go := fun i F' G H σ ρ le hi ok => w.goes i H (by rw [repL_len hr]; exact hi) (hg _ _ _ _ _ le ok)
  st := fun F' G H σ ρ le ok => by rw [← repL_len hr]; exact w.stops H (hg _ _ _ _ _ le ok)
  yl := fun i F' G H σ ρ x H' le hi ok y => by
    obtain ⟨e, h⟩ := w.yields i H x H' (by rw [repL_len hr]; exact hi) (hg _ _ _ _ _ le ok) y
    subst e
    obtain ⟨d, h1, h2⟩ := repL_get' hr h
    exact ⟨d, G, h1, Ex.refl _, ok, h2.mono (le.2.trans ok.g0)⟩
/-- over a list, a tuple -/
theorem hi_seq (h : HE X e ρ (.sh d) ρ') (hd : d = .lst ds ∨ d = .tup ds) : HI X tg e ρ ds ρ' := fun F G H σ R ok k => by
  rcases hd with rfl | rfl
  · refine ⟨_, pi_list pe_we, h F G H σ _ ok fun v G1 H1 e1 ok1 r => ?_⟩
    have rr := r.ok
    simp only [SlOk, Rep] at rr
    obtain ⟨p, vs, rfl, q, rl⟩ := rr
    exact ⟨p, rfl, ⟨vs, q.sq ok1.sub⟩, k _ _ G1 H1 e1 ok1.into rfl (wk_items walk_list (fun F' G H σ ρ le ok => (q.mono (le.2.trans ok.g0)).sq ok.sub) rl) (exit_into ok1)⟩
  · refine ⟨_, pi_tup pe_we, h F G H σ _ ok fun v G1 H1 e1 ok1 r => ?_⟩
    have rr := r.ok
    simp only [SlOk, Rep] at rr
    obtain ⟨p, vs, rfl, q, rl⟩ := rr
    exact ⟨p, rfl, ⟨vs, q.sq ok1.sub⟩, k _ _ G1 H1 e1 ok1.into rfl (wk_items walk_tup (fun F' G H σ ρ le ok => (q.mono (le.2.trans ok.g0)).sq ok.sub) rl) (exit_into ok1)⟩
/-- range(n), range(a, b) -/
def rngD (lo : Int) (n : Nat) : List D := (List.range n).map fun (i : Nat) => D.int (lo + (i : Int))
theorem wk_range {K : PySem.W.Frag} {F : Fr} {lo : Int} {n : Nat} : Wk K F (Itr lo n) (rngD lo n) where
  go := fun i F' G H σ ρ le hi ok => by simpa [rngD, Itr] using hi
  st := fun F' G H σ ρ le ok => by simp [rngD, Itr]
  yl := fun i F' G H σ ρ x H' le hi ok y => by
    obtain ⟨rfl, rfl⟩ := y
    refine ⟨.int (lo + i), G, ?_, Ex.refl _, ok, rep_fl rfl⟩
    have hi : i < n := by simpa [rngD] using hi
    simp [rngD, hi]
theorem hi_range1 {n : Int} (h : HE X a ρ (.sh (.int n)) ρ') (h1 : -(2 ^ 62) ≤ n) (h2 : n < 2 ^ 62) (hg : Gl X "range") (hm : X.mg "range" = none) (hs : starEach [a] X.env = [(false, eval a X.env)] := by rfl) : HI X tg (.Call (.Name "range" p) [a] [] pos) ρ (rngD 0 n.toNat) ρ' := fun F G H σ R ok k =>
  ⟨_, pi_range1 hg hm pa_wa hs, hea_cons (ds := []) h hea_nil hs F G H σ _ ok fun vs G1 H1 e1 ok1 r => by
    rw [repL_ints (ns := [n]) r]
    exact ⟨n, rfl, h1, h2, k _ _ G1 H1 e1 ok1.into rfl wk_range (exit_into ok1)⟩⟩
theorem hi_range2 {n m : Int} (h : HE X a ρ (.sh (.int n)) ρ1) (h' : HE X b ρ1 (.sh (.int m)) ρ') (h1 : -(2 ^ 62) ≤ n ∧ n < 2 ^ 62 ∧ -(2 ^ 62) ≤ m ∧ m < 2 ^ 62) (hg : Gl X "range") (hm : X.mg "range" = none)
    (hs : starEach [a, b] X.env = [(false, eval a X.env), (false, eval b X.env)] := by rfl) (hs2 : starEach [b] X.env = [(false, eval b X.env)] := by rfl) : HI X tg (.Call (.Name "range" p) [a, b] [] pos) ρ (rngD n (m - n).toNat) ρ' := fun F G H σ R ok k =>
  ⟨_, pi_range2 hg hm pa_wa hs hs2, hea_cons (ds := [.int m]) h (hea_cons (ds := []) h' hea_nil hs2) (by rw [hs, hs2]) F G H σ _ ok fun vs G1 H1 e1 ok1 r => by
    rw [repL_ints (ns := [n, m]) r]
    exact ⟨n, m, rfl, h1, k _ _ G1 H1 e1 ok1.into rfl wk_range (exit_into ok1)⟩⟩
/-! over a dict -/
theorem ok_lock {F : Fr} {G H : Hp} {σ : L2.St} {K : PySem.W.Frag} {p : Addr} {ob : Obj} {vs : List (Key × V)} (ok : Ok K F G H σ ρ) (g : G p = some (.dK vs)) (h : H p = some (.dK vs)) :
    Ok K ⟨upd F.B p (.frz ob (.dK vs)), G, F.io⟩ G (upd H p (.frz ob (.dK vs))) σ ρ := by
  have hne : ∀ (i : Nat) (s : Sl) (q : Addr), ρ[i]? = some (some s) → s.own = true → σ[i]? = some (some (.ref q)) → q ≠ p := fun i s q hi o hq z => by
    obtain ⟨v, h1, h2⟩ := ok.sl i s hi
    obtain ⟨p', u, e, _, g', _, _⟩ := own_ref h2 o
    rw [h1, e] at hq
    cases hq
    rw [z, g] at g'
    cases g'
  refine ⟨⟨fun a u e => ?_, fun a u e => ?_, Ex.refl _, fun a u e => .inl e, ok.nf, fun a o u e => ?_⟩, ok.len, fun i s hi => ?_, ok.ow⟩
  · by_cases z : a = p
    · subst z
      rw [g] at e
      cases e
      exact .inr ⟨⟨ob, upd_same⟩, fun _ _ _ z => HO.noConfusion z, fun _ _ z => HO.noConfusion z, fun _ z => HO.noConfusion z⟩
    · rw [upd_ne z]
      exact ok.sub a u e
  · have e : (upd F.B p (.frz ob (.dK vs))) a = some u := e
    by_cases z : a = p
    · subst z
      rw [upd_same] at e ⊢
      exact e
    · rw [upd_ne z] at e ⊢
      exact ok.bh a u e
  · show (upd F.B p (.frz ob (.dK vs))) a = some (.frz o (.dK u))
    by_cases z : a = p
    · subst z
      rw [upd_same] at e ⊢
      exact e
    · rw [upd_ne z] at e ⊢
      exact ok.fz a o u e
  · obtain ⟨v, h1, h2⟩ := ok.sl i s hi
    refine ⟨v, h1, ?_⟩
    cases s with
    | sh d => exact h2
    | ol ds =>
      obtain ⟨q, ws, rfl, b, g', hh, r⟩ := h2
      have z := hne i _ q hi rfl h1
      exact ⟨q, ws, rfl, by show upd F.B p _ q = none; rw [upd_ne z]; exact b, g', by rw [upd_ne z]; exact hh, r⟩
    | od ds =>
      obtain ⟨q, ws, rfl, b, g', hh, r⟩ := h2
      have z := hne i _ q hi rfl h1
      exact ⟨q, ws, rfl, by show upd F.B p _ q = none; rw [upd_ne z]; exact b, g', by rw [upd_ne z]; exact hh, r⟩
    | ot ds =>
      obtain ⟨q, ws, rfl, b, g', hh, r⟩ := h2
      have z := hne i _ q hi rfl h1
      exact ⟨q, ws, rfl, by show upd F.B p _ q = none; rw [upd_ne z]; exact b, g', by rw [upd_ne z]; exact hh, r⟩
    | io ds =>
      obtain ⟨ws, rfl, b, g', hh, r⟩ := h2
      have z := hne i _ F.io hi rfl h1
      exact ⟨ws, rfl, by show upd F.B p _ F.io = none; rw [upd_ne z]; exact b, g', by show upd H p _ F.io = _; rw [upd_ne z]; exact hh, r⟩
theorem exit_lock {F : Fr} {G H : Hp} {σ : L2.St} {p : Addr} {ob : Obj} {vs : List (Key × V)} (ok : Ok X.K F G H σ ρ) (g : G p = some (.dK vs)) (h : H p = some (.dK vs)) (n : ∀ o' u', X.H_0 p ≠ some (.frz o' u')) :
    Exit X F ⟨upd F.B p (.frz ob (.dK vs)), G, F.io⟩ := ⟨rfl, fun G2 H2 σ2 ρ2 P ok2 k => by
  have hp2 : H2 p = some (.frz ob (.dK vs)) := ok2.bh p _ upd_same
  have g2 : G2 p = some (.dK vs) := ok2.g0 p _ g
  have slm : ∀ s v, SlOk X.K ⟨upd F.B p (.frz ob (.dK vs)), G, F.io⟩ G2 H2 s v → SlOk X.K F G2 (upd H2 p (.dK vs)) s v := fun s v h2 => by
    cases s with
    | sh d => exact h2
    | ol ds =>
      obtain ⟨q, ws, rfl, b, g', hh, r⟩ := h2
      have z : q ≠ p := fun z => by rw [z, g2] at g'; cases g'
      exact ⟨q, ws, rfl, by have b : upd F.B p _ q = none := b; rw [upd_ne z] at b; exact b, g', by rw [upd_ne z]; exact hh, r⟩
    | od ds =>
      obtain ⟨q, ws, rfl, b, g', hh, r⟩ := h2
      have z : q ≠ p := fun z => by rw [z, g2] at g'; cases g'
      exact ⟨q, ws, rfl, by have b : upd F.B p _ q = none := b; rw [upd_ne z] at b; exact b, g', by rw [upd_ne z]; exact hh, r⟩
    | ot ds =>
      obtain ⟨q, ws, rfl, b, g', hh, r⟩ := h2
      have z : q ≠ p := fun z => by rw [z, g2] at g'; cases g'
      exact ⟨q, ws, rfl, by have b : upd F.B p _ q = none := b; rw [upd_ne z] at b; exact b, g', by rw [upd_ne z]; exact hh, r⟩
    | io ds =>
      obtain ⟨ws, rfl, b, g', hh, r⟩ := h2
      have g' : G2 F.io = none := g'
      have z : F.io ≠ p := fun z => by rw [z, g2] at g'; cases g'
      exact ⟨ws, rfl, by have b : upd F.B p _ F.io = none := b; rw [upd_ne z] at b; exact b, g', by rw [upd_ne z]; exact hh, r⟩
  refine .inr ⟨p, ob, .dK vs, hp2, n, k _ ⟨⟨fun a u e => ?_, fun a u e => ?_, ok.g0.trans ok2.g0, fun a u e => ?_, ok2.nf, fun a o u e => ?_⟩, ok2.len, fun i s hi => ?_, ok2.ow⟩ fun s v r => ⟨slm s v r.ok, r.ap⟩⟩
  · by_cases z : a = p
    · subst z
      rw [g2] at e
      cases e
      exact .inl upd_same
    · rw [upd_ne z]
      exact ok2.sub a u e
  · by_cases z : a = p
    · subst z
      have := ok.bh _ _ e
      rw [h] at this
      cases this
      exact upd_same
    · rw [upd_ne z]
      refine ok2.bh a u ?_
      show upd F.B p _ a = some u
      rw [upd_ne z]
      exact e
  · rcases ok2.gn a u e with q | q
    · exact ok.gn a u q
    · have q : upd F.B p _ a = none := q
      by_cases z : a = p
      · subst z
        rw [upd_same] at q
        cases q
      · rw [upd_ne z] at q
        exact .inr q
  · by_cases z : a = p
    · subst z
      rw [upd_same] at e
      cases e
    · rw [upd_ne z] at e
      have q : upd F.B p _ a = some (.frz o (.dK u)) := ok2.fz a o u e
      rw [upd_ne z] at q
      exact q
  · obtain ⟨v, h1, h2⟩ := ok2.sl i s hi
    exact ⟨v, h1, slm s v h2⟩⟩
theorem repK_get {K : PySem.W.Frag} {G : Hp} : ∀ {ks : List (Key × D)} {vs : List (Key × V)} {i : Nat} {kk : Key} {v : V}, RepK K G ks vs → vs[i]? = some (kk, v) → ∃ d, ks[i]? = some (kk, d) ∧ Rep K G d v
  | [], vs, i, kk, v, h, e => by rw [repK_nil h] at e; simp at e
  | (k0, d0) :: ks, vs, 0, kk, v, h, e => by
    obtain ⟨w, r, rfl, h1, h2⟩ := repK_cons h
    simp at e
    obtain ⟨rfl, rfl⟩ := e
    exact ⟨d0, rfl, h1⟩
  | (k0, d0) :: ks, vs, i + 1, kk, v, h, e => by
    obtain ⟨w, r, rfl, h1, h2⟩ := repK_cons h
    simp at e
    obtain ⟨d, e1, e2⟩ := repK_get h2 e
    exact ⟨d, by simpa using e1, e2⟩
def keysD (ks : List (Key × D)) : List D := ks.map fun kv => kD kv.1
def itemsD (ks : List (Key × D)) : List D := ks.map fun kv => .tup [kD kv.1, kv.2]
theorem wk_keys {K : PySem.W.Frag} {F : Fr} {p : Addr} {ob : Obj} {vs : List (Key × V)} {ks : List (Key × D)} (hg : ∀ F' G H σ ρ, FrLe F F' → Ok K F' G H σ ρ → H p = some (.frz ob (.dK vs))) (hr : RepK K F.G0 ks vs) : Wk K F (Itk p ob vs) (keysD ks) where
  go := fun i F' G H σ ρ le hi ok => walk_keys.goes i H (by rw [repK_len hr]; simpa [keysD] using hi) (hg _ _ _ _ _ le ok)
  st := fun F' G H σ ρ le ok => by
    have := (walk_keys (d := p) (o := ob) (kvs := vs)).stops H (hg _ _ _ _ _ le ok)
    rw [repK_len hr] at this
    simpa [keysD] using this
  yl := fun i F' G H σ ρ x H' le hi ok y => by
    obtain ⟨e, kk, v, h1, h2⟩ := walk_keys.yields i H x H' (by rw [repK_len hr]; simpa [keysD] using hi) (hg _ _ _ _ _ le ok) y
    subst e h2
    obtain ⟨d, e1, _⟩ := repK_get hr h1
    exact ⟨kD kk, G, by simp [keysD, e1], Ex.refl _, ok, rep_fl (kD_fl kk)⟩
theorem wk_itemsD {K : PySem.W.Frag} {F : Fr} {p : Addr} {ob : Obj} {vs : List (Key × V)} {ks : List (Key × D)} (hg : ∀ F' G H σ ρ, FrLe F F' → Ok K F' G H σ ρ → H p = some (.frz ob (.dK vs))) (hr : RepK K F.G0 ks vs) : Wk K F (Iti p ob vs) (itemsD ks) where
  go := fun i F' G H σ ρ le hi ok => walk_items.goes i H (by rw [repK_len hr]; simpa [itemsD] using hi) (hg _ _ _ _ _ le ok)
  st := fun F' G H σ ρ le ok => by
    have := (walk_items (d := p) (o := ob) (kvs := vs)).stops H (hg _ _ _ _ _ le ok)
    rw [repK_len hr] at this
    simpa [itemsD] using this
  yl := fun i F' G H σ ρ x H' le hi ok y => by
    have hi' : i < vs.length := by rw [repK_len hr]; simpa [itemsD] using hi
    obtain ⟨T, a, b, h1, h2, h3, h4, h5⟩ := walk_items.yields i H x H' hi' (hg _ _ _ _ _ le ok) y
    subst h1 h3
    obtain ⟨⟨kk, v⟩, hv⟩ : ∃ z, vs[i]? = some z := ⟨_, List.getElem?_eq_getElem hi'⟩
    simp only [hv, Option.map_some, Option.some.injEq] at h4 h5
    subst h4 h5
    obtain ⟨d, e1, e2⟩ := repK_get hr hv
    obtain ⟨q1, q2, q3⟩ := res_tup (ds := [kD kk, d]) ok h2 (repL_mk (rep_fl (kD_fl kk)) (repL_one (e2.mono (le.2.trans ok.g0))))
    exact ⟨_, _, by simp [itemsD, e1], q3, q1, q2.ok⟩
--HK
theorem hi_keys {ks : List (Key × D)} (h : HE X e ρ (.sh (.dct ks)) ρ') : HI X tg e ρ (keysD ks) ρ' := fun F G H σ R ok k => by
  refine ⟨fun σ H R => WE X e σ H fun x H1 => (∃ d kvs, x = .ref d ∧ H1 d = some (.dK kvs) ∧ ∀ o, (∀ o' u', X.H_0 d ≠ some (.frz o' u')) → R (Itk d o kvs) (upd H1 d (.frz o (.dK kvs)))) ∨ ∃ d o kvs, x = .ref d ∧ H1 d = some (.frz o (.dK kvs)) ∧ R (Itk d o kvs) H1, ?_, ?_⟩
  · refine ⟨fun pins s σ H R I h => ?_⟩
    obtain ⟨t, pt, q⟩ := h
    refine thn (pt.run pins s σ H _ I q) fun u s1 ⟨x, H1, I1, rx, q1⟩ => ?_
    rcases q1 with ⟨d, kvs, ex, hd, q⟩ | ⟨d, o, kvs, ex, hd, q⟩
    · subst ex
      obtain rfl : u = Value.ref d := rx
      have nf := I1.nofrz hd trivial
      obtain ⟨od, I2⟩ := I1.lock hd trivial
      have q := q od nf
      obtain ⟨hs, hgd, hx, es, ep, vs, hdt, hsz, kv, hm⟩ := I2.frzK upd_same
      refine iter_keys hs hgd hx hdt (pi_one (tk := s1.toks) I2 _ (turn_keys _ hdt) ⟨_, Heap.get?_push_size _ rfl, rfl, ?_⟩ q)
      rw [hsz] <;> rfl
    · subst ex
      obtain rfl : u = Value.ref d := rx
      obtain ⟨hs, hgd, hx, es, ep, vs, hdt, hsz, kv, hm⟩ := I1.frzK hd
      refine iter_keys hs hgd hx hdt (pi_one (tk := s1.toks) I1 _ (turn_keys _ hdt) ⟨_, Heap.get?_push_size _ rfl, rfl, ?_⟩ q)
      rw [hsz] <;> rfl
  · refine h F G H σ _ ok fun v G1 H1 e1 ok1 r => ?_
    have rr := r.ok
    simp only [SlOk, Rep] at rr
    obtain ⟨p, vs, rfl, q, rl⟩ := rr
    rcases ok1.sub p _ q with hp | ⟨⟨ob, hp⟩, _⟩
    · refine .inl ⟨p, vs, rfl, hp, fun ob n => ?_⟩
      exact k _ _ G1 _ e1 (ok_lock ok1 q hp) rfl (wk_keys (fun F' G H σ ρ le ok => ok.bh p _ (le.1 p _ upd_same)) rl) (exit_lock ok1 q hp n)
    · exact .inr ⟨p, ob, vs, rfl, hp, k _ _ G1 H1 e1 ok1.into rfl (wk_keys (fun F' G H σ ρ le ok => ok.bh p _ (le.1 p _ (ok1.fz p _ _ hp))) rl) (exit_into ok1)⟩
theorem hi_items {ks : List (Key × D)} {elts : List Expr} {kk : Nat} {tpos : Pos} (h : HE X e ρ (.sh (.dct ks)) ρ') (hbase : attributeBase e "items" X.env (eval e X.env) = eval e X.env := by rfl) (hline : (apos.endLine == cpos.line) = true := by rfl) :
    HI X (.Tuple elts kk tpos) (.Call (.Attribute e "items" apos) [] [] cpos) ρ (itemsD ks) ρ' := fun F G H σ R ok k => by
  refine ⟨fun σ H R => WE X e σ H fun x H1 => (∃ d kvs, x = .ref d ∧ H1 d = some (.dK kvs) ∧ ∀ o, (∀ o' u', X.H_0 d ≠ some (.frz o' u')) → R (Iti d o kvs) (upd H1 d (.frz o (.dK kvs)))) ∨ ∃ d o kvs, x = .ref d ∧ H1 d = some (.frz o (.dK kvs)) ∧ R (Iti d o kvs) H1, ?_, ?_⟩
  · refine ⟨fun pins s σ H R I h => ?_⟩
    obtain ⟨t, pt, q⟩ := h
    refine wpAny_Call_method (T := "dict") (id := "dict.items") hbase rfl hline PySem.F.plainAttrs_dict PySem.F.slot_dict_items PySem.F.type_dict_items (thn (pt.run pins s σ H _ I q) fun u s1 ⟨x, H1, I1, rx, q1⟩ => ?_)
    rcases q1 with ⟨d, kvs, ex, hd, q⟩ | ⟨d, o, kvs, ex, hd, q⟩
    · subst ex
      obtain rfl : u = Value.ref d := rx
      have nf := I1.nofrz hd trivial
      obtain ⟨od, I2⟩ := I1.lock hd trivial
      have q := q od nf
      have hd : upd H1 d (.frz od (.dK kvs)) d = some (.frz od (.dK kvs)) := upd_same
      generalize upd H1 d (.frz od (.dK kvs)) = H2 at I2 q hd
      have I1 := I2
      obtain ⟨hs, hgd, hx, es, ep, vs, hdt, hsz, kv, hm⟩ := I1.frzK hd
      have hl : kvs.length = vs.length := Paired.length kv
      refine ⟨hm.dictOf.typeIs, hm.dictOf.mapOf.noDict, ?_⟩
      have I2 : Inv X pins σ H2 { s1 with heap := s1.heap.push { cls := .type "dict_items", data := .fields #[.ref d] } } := I1.kept (t' := s1.toks) fun b ob q => Heap.get?_push_of_some _ q
      have fin : wpAny (model X.prog X.w) X.A (pyIter (.ref s1.heap.objs.size)) (PIE X pins σ (.Tuple elts kk tpos) R) X.xe { s1 with heap := s1.heap.push { cls := .type "dict_items", data := .fields #[.ref d] } } := by
        refine wpAny_pyIter_items (d := d) (knd := mixKind X.prog X.w) ⟨_, Heap.get?_push_size _ rfl, rfl, rfl⟩ (hm.push _) (pi_one (tk := s1.toks) I2 _ (turn_items _ hdt) ⟨.none, .none, ?_⟩ q)
        rw [hl]
        exact Heap.get?_push_size _ rfl
      show wpAny _ _ (callWith cpos (.builtin "dict.items") [.ref d] [] []) _ X.xe s1
      exact method_meetsIn PySem.F.slot_dict_items PySem.F.entry_dict_items rfl (PySem.evalArgs_none ⟨rfl, hm.dictOf.typeIs, PySem.F.args_dict_items_1 _, _, meets_dict_items (mixKind X.prog X.w) d hs, ⟨vs, hm.dictOf⟩, fin⟩)
    · subst ex
      obtain rfl : u = Value.ref d := rx
      generalize H1 = H2 at I1 q hd
      obtain ⟨hs, hgd, hx, es, ep, vs, hdt, hsz, kv, hm⟩ := I1.frzK hd
      have hl : kvs.length = vs.length := Paired.length kv
      refine ⟨hm.dictOf.typeIs, hm.dictOf.mapOf.noDict, ?_⟩
      have I2 : Inv X pins σ H2 { s1 with heap := s1.heap.push { cls := .type "dict_items", data := .fields #[.ref d] } } := I1.kept (t' := s1.toks) fun b ob q => Heap.get?_push_of_some _ q
      have fin : wpAny (model X.prog X.w) X.A (pyIter (.ref s1.heap.objs.size)) (PIE X pins σ (.Tuple elts kk tpos) R) X.xe { s1 with heap := s1.heap.push { cls := .type "dict_items", data := .fields #[.ref d] } } := by
        refine wpAny_pyIter_items (d := d) (knd := mixKind X.prog X.w) ⟨_, Heap.get?_push_size _ rfl, rfl, rfl⟩ (hm.push _) (pi_one (tk := s1.toks) I2 _ (turn_items _ hdt) ⟨.none, .none, ?_⟩ q)
        rw [hl]
        exact Heap.get?_push_size _ rfl
      show wpAny _ _ (callWith cpos (.builtin "dict.items") [.ref d] [] []) _ X.xe s1
      exact method_meetsIn PySem.F.slot_dict_items PySem.F.entry_dict_items rfl (PySem.evalArgs_none ⟨rfl, hm.dictOf.typeIs, PySem.F.args_dict_items_1 _, _, meets_dict_items (mixKind X.prog X.w) d hs, ⟨vs, hm.dictOf⟩, fin⟩)
  · refine h F G H σ _ ok fun v G1 H1 e1 ok1 r => ?_
    have rr := r.ok
    simp only [SlOk, Rep] at rr
    obtain ⟨p, vs, rfl, q, rl⟩ := rr
    rcases ok1.sub p _ q with hp | ⟨⟨ob, hp⟩, _⟩
    · refine .inl ⟨p, vs, rfl, hp, fun ob n => ?_⟩
      exact k _ _ G1 _ e1 (ok_lock ok1 q hp) rfl (wk_itemsD (fun F' G H σ ρ le ok => ok.bh p _ (le.1 p _ upd_same)) rl) (exit_lock ok1 q hp n)
    · exact .inr ⟨p, ob, vs, rfl, hp, k _ _ G1 H1 e1 ok1.into rfl (wk_itemsD (fun F' G H σ ρ le ok => ok.bh p _ (le.1 p _ (ok1.fz p _ _ hp))) rl) (exit_into ok1)⟩
end
end PL
set_option Elab.async false
set_option linter.all false
set_option maxRecDepth 100000
namespace PL
open PySem L2
section
variable {X : Cx} {ρ ρ' ρ1 ρ2 ρ3 : Rh} {s s1 s2 : Sl} {d d1 d2 : D} {e a b c o tg iter : Expr} {es : List Expr} {pos p apos cpos pos' : Pos} {x f m : Str} {ds : List D} {ss : List Sl} {k : Nat} {r : Sl} {st : Stmt} {sts body : List Stmt} {out : Out}
/-! ### targets -/
theorem hb_name (i : Nat) (hN : X.N.Nodup) (hi : X.N[i]? = some x := by rfl) (hx : Loc X.env.scope x := by first | exact Or.inl rfl | exact Or.inr rfl) (hf : X.fn x = true ∨ X.env.scope.names.lookup x = some .local := by first | exact .inl rfl | exact .inr rfl) :
    HB X (.Name x pos) [i] d ρ (ρ.set i (some (.sh d))) := fun F G H σ v Q ok r k =>
  ⟨_, pg_name hN hi hx hf, k _ (ok.put ⟨r, fun z => by cases z⟩) (fun j hj => by rw [List.getElem?_set_ne (fun z => hj (by simp [z]))]) (by rw [List.length_set])⟩
theorem hbs_nil : HBs X [] [] [] ρ ρ := fun F G H σ vs Q ok r k => ⟨_, pgs_nil, repL_nil r, k σ ok (fun _ _ => rfl) rfl⟩
theorem hbs_cons {is js : List Nat} (h : HB X e is d ρ ρ1) (hr : HBs X es js ds ρ1 ρ2) (hs : (assignEach (e :: es) X.env).map (·.2) = assign e X.env :: (assignEach es X.env).map (·.2) := by rfl) : HBs X (e :: es) (is ++ js) (d :: ds) ρ ρ2 := fun F G H σ vs Q ok r k => by
  obtain ⟨v, vr, rfl, r1, r2⟩ := repL_cons r
  exact ⟨_, pgs_cons pg_wg pgs_wgs hs, v, vr, rfl, h F G H σ v _ ok r1 fun σ1 ok1 e1 l1 => hr F G H σ1 vr _ ok1 r2 fun σ2 ok2 e2 l2 => k σ2 ok2 (fun i hi => by
    rw [e2 i (fun z => hi (List.mem_append_right _ z)), e1 i (fun z => hi (List.mem_append_left _ z))]) (by rw [l2, l1])⟩
theorem hb_tup {kk : Nat} {is : List Nat} (h : HBs X es is ds ρ ρ1) (hc : X.calm = true := by rfl) (hn : (assignEach es X.env).length = ds.length := by rfl) (hst : (assignEach es X.env).findIdx? (·.1) = none := by rfl) : HB X (.Tuple es kk pos) is (.tup ds) ρ ρ1 := fun F G H σ v Q ok r k => by
  obtain ⟨p, vs, rfl, q, rl⟩ := rep_tup ok.sub r
  exact ⟨_, pg_tup hc pgs_wgs hn hst, p, vs, rfl, q, repL_len rl, h F G H σ vs Q ok rl k⟩
/-! ### statements -/
theorem hs_nil : HS X [] ρ (.nx ρ) := fun F G H σ D ok post => ⟨_, pss_nil, post σ G H ok⟩
theorem hs_cons (h : HS1 X st ρ (.nx ρ1)) (hr : HS X sts ρ1 out) : HS X (st :: sts) ρ out := fun F G H σ D ok post =>
  ⟨_, pss_cons ps_ws pss_wss, h F G H σ { D with nx := WSs X sts D } ok fun σ' G' H' ok' => hr F G' H' σ' D ok' post⟩
theorem hs_stop (h : HS1 X st ρ out) (hn : ∀ ρ', out ≠ .nx ρ') : HS X (st :: sts) ρ out := fun F G H σ D ok post =>
  ⟨_, pss_cons ps_ws pss_wss, h F G H σ { D with nx := WSs X sts D } ok (by
    cases out with
    | nx ρ' => exact absurd rfl (hn ρ')
    | rt s ρ' => exact post
    | bk ρ' => exact post
    | ct ρ' => exact post)⟩
/-- an if whose chosen branch is known: what follows it, in one -/
theorem hs_if {t : Bool} {aa bb : List Stmt} (hc : HT X c ρ t ρ1) (h1 : t = true → HS X aa ρ1 out) (h2 : t = false → HS X bb ρ1 out) : HS1 X (.If c aa bb pos) ρ out := fun F G H σ D ok post =>
  ⟨_, ps_if pt_wt pss_wss pss_wss, hc F G H σ _ ok fun G1 H1 e1 ok1 => by
    cases t with
    | true => exact h1 rfl F G1 H1 σ D ok1 post
    | false => exact h2 rfl F G1 H1 σ D ok1 post⟩
theorem hs_pass : HS1 X (.Pass pos) ρ (.nx ρ) := fun F G H σ D ok post => ⟨_, ps_pass, post σ G H ok⟩
theorem hs_cont : HS1 X (.Continue pos) ρ (.ct ρ) := fun F G H σ D ok post => ⟨_, ps_continue, post σ G H ok⟩
theorem hs_break : HS1 X (.Break pos) ρ (.bk ρ) := fun F G H σ D ok post => ⟨_, ps_break, post σ G H ok⟩
theorem hs_ret (h : HE X e ρ s ρ') : HS1 X (.Return (some e) pos) ρ (.rt s ρ') := fun F G H σ D ok post => ⟨_, ps_ret pe_we, h F G H σ _ ok fun v G1 H1 e1 ok1 r => post v σ G1 H1 ok1 r⟩
theorem hs_ret0 : HS1 X (.Return none pos) ρ (.rt (.sh .non) ρ) := fun F G H σ D ok post => ⟨_, ps_retN, post _ σ G H ok ⟨rep_fl rfl, fun z => by cases z⟩⟩
theorem hs_expr (h : HE X e ρ s ρ') (hs : swapsWith e none pos.line X.env = pure false := by rfl) : HS1 X (.Expr e pos) ρ (.nx ρ') := fun F G H σ D ok post => ⟨_, ps_expr pe_we hs, h F G H σ _ ok fun v G1 H1 e1 ok1 r => post σ G1 H1 ok1⟩
theorem hs_set (i : Nat) (h : HE X e ρ s ρ1) (hN : X.N.Nodup) (hi : X.N[i]? = some x := by rfl) (hx : Loc X.env.scope x := by first | exact Or.inl rfl | exact Or.inr rfl) (hs : swapsWith e (some (.Name x pos')) pos.line X.env = pure false := by rfl)
    (hf : X.fn x = true ∨ X.env.scope.names.lookup x = some .local := by first | exact .inl rfl | exact .inr rfl) : HS1 X (.Assign [.Name x pos'] e pos) ρ (.nx (ρ1.set i (some s))) := fun F G H σ D ok post =>
  ⟨_, ps_set hN hi hx pe_we hs hf, h F G H σ _ ok fun v G1 H1 e1 ok1 r => post _ G1 H1 (ok1.put r)⟩
theorem hs_asg {is : List Nat} (h : HE X e ρ (.sh d) ρ1) (hb : HB X tg is d ρ1 ρ2) (hs : swapsWithSole [tg] e pos.line X.env = pure false := by rfl) (hw : swappedStores [tg] e X.env = pure none := by rfl) (h1 : (assignEach [tg] X.env).map (·.2) = [assign tg X.env] := by rfl) :
    HS1 X (.Assign [tg] e pos) ρ (.nx ρ2) := fun F G H σ D ok post =>
  ⟨_, ps_asg pe_we pg_wg hs hw h1, h F G H σ _ ok fun v G1 H1 e1 ok1 r => hb F G1 H1 σ v _ ok1 r.ok fun σ' ok' _ _ => post _ G1 H1 ok'⟩
/-- a, b = e1, e2 -/
theorem hs_par {i j : Nat} {y : Str} {px py pt : Pos} {kt k2 pt2} (h : HEA X [a, b] ρ [d1, d2] ρ1) (hps : ∀ {ta : TA}, PA X [a, b] ta → PS X (.Assign [.Tuple [.Name x px, .Name y py] kt pt] (.Tuple [a, b] k2 pt2) pos) (tPar i j ta)) :
    HS1 X (.Assign [.Tuple [.Name x px, .Name y py] kt pt] (.Tuple [a, b] k2 pt2) pos) ρ (.nx ((ρ1.set i (some (.sh d1))).set j (some (.sh d2)))) := fun F G H σ D ok post =>
  ⟨_, hps pa_wa, h F G H σ _ ok fun vs G1 H1 e1 ok1 r => by
    obtain ⟨v, t, rfl, r1, r2⟩ := repL_cons r
    obtain ⟨w, t, rfl, r2, r3⟩ := repL_cons r2
    rw [repL_nil r3]
    exact ⟨v, w, rfl, post _ G1 H1 ((ok1.put (s := .sh d1) ⟨r1, fun z => by cases z⟩).put (s := .sh d2) ⟨r2, fun z => by cases z⟩)⟩⟩
/-! ### changing what is owned -/
theorem ok_chg {K : PySem.W.Frag} {F : Fr} {G H : Hp} {σ : L2.St} {i : Nat} {q : Addr} {u : HO} {s' : Sl} (ok : Ok K F G H σ ρ) (hi : ρ[i]? = some (some s)) (ho : s.own = true) (hq : σ[i]? = some (some (.ref q))) (nu : ∀ a b, u ≠ .frz a b)
    (hs : SlOk K F G (upd H q u) s' (.ref q)) : Ok K F G (upd H q u) σ (ρ.set i (some s')) := by
  obtain ⟨v, h1, h2⟩ := ok.sl i s hi
  rw [hq] at h1
  cases h1
  obtain ⟨q', u0, e, hb, hg, hh, hm⟩ := own_ref h2 ho
  cases e
  have sub' : Sub G (upd H q u) := fun a o e => by
    have z : a ≠ q := fun z => by rw [z, hg] at e; cases e
    rw [upd_ne z]
    exact ok.sub a o e
  refine ⟨⟨sub', fun a o e => ?_, ok.g0, ok.gn, ok.nf, fun a o v e => ?_⟩, ?_, fun j t hj => ?_, fun j l t t' a hj hl ot ot' ha hb' => ?_⟩
  · have z : a ≠ q := fun z => by rw [z, hb] at e; cases e
    rw [upd_ne z]
    exact ok.bh a o e
  · by_cases z : a = q
    · subst z
      rw [upd_same] at e
      exact absurd (Option.some.inj e) (nu _ _)
    · rw [upd_ne z] at e
      exact ok.fz a o v e
  · rw [List.length_set]
    exact ok.len
  · by_cases z : i = j
    · subst z
      have hlt : i < ρ.length := (List.getElem?_eq_some_iff.mp hi).1
      rw [List.getElem?_set_self hlt] at hj
      cases hj
      exact ⟨_, hq, hs⟩
    · rw [List.getElem?_set_ne z] at hj
      obtain ⟨w, e1, e2⟩ := ok.sl j t hj
      refine ⟨w, e1, e2.move (Ex.refl _) fun ot a ea => ?_⟩
      have hga : G a = none := by
        obtain ⟨a', _, ea', _, g', _⟩ := own_ref e2 ot
        rw [ea] at ea'
        cases ea'
        exact g'
      refine ⟨hga, ?_⟩
      rw [upd_ne]
      intro y
      subst y
      rw [ea] at e1
      exact z (ok.ow i j s t a hi hj ho ot hq e1)
  · have aux : ∀ n (y : Sl), (ρ.set i (some s'))[n]? = some (some y) → y.own = true → ∃ y' : Sl, ρ[n]? = some (some y') ∧ y'.own = true ∨ (n = i ∧ y = s') := fun n y h oy => by
      by_cases z : i = n
      · subst z
        have hlt : i < ρ.length := (List.getElem?_eq_some_iff.mp hi).1
        rw [List.getElem?_set_self hlt] at h
        cases h
        exact ⟨s, .inl ⟨hi, ho⟩⟩
      · rw [List.getElem?_set_ne z] at h
        exact ⟨y, .inl ⟨h, oy⟩⟩
    have fix : ∀ n (y : Sl), (ρ.set i (some s'))[n]? = some (some y) → y.own = true → ∃ y' : Sl, ρ[n]? = some (some y') ∧ y'.own = true := fun n y h oy => by
      obtain ⟨y', h | ⟨rfl, rfl⟩⟩ := aux n y h oy
      · exact ⟨y', h⟩
      · exact ⟨s, hi, ho⟩
    obtain ⟨y1, e1, o1⟩ := fix j t hj ot
    obtain ⟨y2, e2, o2⟩ := fix l t' hl ot'
    exact ok.ow j l y1 y2 a e1 e2 o1 o2 ha hb'
/-- what a list slot holds -/
def Sl.setL : Sl → List D → Sl
  | .io _, ds => .io ds
  | _, ds => .ol ds
def Sl.isL : Sl → Option (List D)
  | .ol ds => some ds
  | .io ds => some ds
  | _ => none
theorem slL_own (h : s.isL = some ds) : s.own = true := by cases s <;> first | rfl | cases h
theorem slL_at {K : PySem.W.Frag} {F : Fr} {G H : Hp} {v : V} (h : s.isL = some ds) (r : SlOk K F G H s v) : ∃ q vs, v = .ref q ∧ H q = some (.lst vs) ∧ RepL K G ds vs ∧
    ∀ {G' H' : Hp} {ds' : List D} {vs' : List V}, G' q = none → H' q = some (.lst vs') → RepL K G' ds' vs' → SlOk K F G' H' (s.setL ds') (.ref q) := by
  cases s with
  | ol d =>
    cases h
    obtain ⟨q, vs, rfl, hb, hg, hh, rl⟩ := r
    exact ⟨q, vs, rfl, hh, rl, fun g' h' r' => ⟨q, _, rfl, hb, g', h', r'⟩⟩
  | io d =>
    cases h
    obtain ⟨vs, rfl, hb, hg, hh, rl⟩ := r
    exact ⟨_, vs, rfl, hh, rl, fun g' h' r' => ⟨_, rfl, hb, g', h', r'⟩⟩
  | _ => cases h
/-- xs.append(e) -/
theorem hs_append (i : Nat) {lpos : Pos} (h : HE X e ρ (.sh d) ρ1) (hi : ρ[i]? = some (some s)) (hi1 : ρ1[i]? = some (some s1)) (hl : s1.isL = some ds) (hz : ds.length < 100000) (hN : X.N[i]? = some x := by rfl)
    (hv : Vis X.env.scope x := by first | exact Or.inl rfl | exact Or.inr (Or.inl rfl) | exact Or.inr (Or.inr rfl)) (hst : ∀ {ta te : TE}, PE X (.Name x lpos) ta → PA X [e] (tCons te tNil) → PE X (.Call (.Attribute (.Name x lpos) "append" apos) [e] [] cpos) (tBM X.K "list" rAppend ta (tCons te tNil)) := by
      intro ta te h1 h2; exact pe_bm PySem.F.plainAttrs_list PySem.F.slot_list_append PySem.F.type_list_append mt_append h1 h2)
    (hsl : s.isL.isSome = true) (hpa : ∀ {te : TE}, PE X e te → PA X [e] (tCons te tNil) := by intro te h; exact pa_cons h pa_nil) (hd : (x == ("__debug__" : Str)) = false := by decide) (hcd : (x == ("__classdict__" : Str)) = false := by decide)
    (hs : swapsWith (.Call (.Attribute (.Name x lpos) "append" apos) [e] [] cpos) none pos.line X.env = pure false := by rfl) :
    HS1 X (.Expr (.Call (.Attribute (.Name x lpos) "append" apos) [e] [] cpos) pos) ρ (.nx (ρ1.set i (some (s1.setL (ds ++ [d]))))) := fun F G H σ D ok post => by
  obtain ⟨v, hv1, r⟩ := ok.sl i s hi
  obtain ⟨ds0, hds0⟩ : ∃ z, s.isL = some z := Option.isSome_iff_exists.mp hsl
  obtain ⟨q0, vs0, rfl, hh0, _, _⟩ := slL_at hds0 r
  refine ⟨_, ps_expr (hst (pv i hN hv hd hcd) (hpa pe_we)) hs, .ref q0, hv1, .inl ⟨rfl, _, SqL.of hh0⟩, h F G H σ _ ok fun w G1 H1 e1 ok1 rw => ?_⟩
  obtain ⟨v1, hv2, r1⟩ := ok1.sl i s1 hi1
  rw [hv1] at hv2
  cases hv2
  obtain ⟨q, vs, eq, hh, rl, fin⟩ := slL_at hl r1
  cases eq
  have hg : G1 q0 = none := by
    obtain ⟨p', _, e', _, g', _⟩ := own_ref r1 (slL_own hl)
    cases e'
    exact g'
  exact ⟨q0, vs, w, rfl, rfl, hh, ln_lt (by rw [repL_len rl]; exact hz), post σ G1 _ (ok_chg ok1 hi1 (slL_own hl) hv1 (fun _ _ z => HO.noConfusion z) (fin hg upd_same (repL_append rl (repL_one rw.ok))))⟩
/-- d[k] = e, d an owned dict's name -/
theorem hs_dput (i : Nat) {lpos : Pos} {ky : Key} {ks : List (Key × D)} (hu : X.A.units + 1 < cLine) (h : HE X e ρ (.sh d) ρ1) (hi1 : ρ1[i]? = some (some (.od ks))) (hk : HG X a ρ1 (.sh (kD ky))) (hz : ks.length < 100000) (hN : X.N[i]? = some x := by rfl)
    (hv : Vis X.env.scope x := by first | exact Or.inl rfl | exact Or.inr (Or.inl rfl) | exact Or.inr (Or.inr rfl)) (hd : (x == ("__debug__" : Str)) = false := by decide) (hcd : (x == ("__classdict__" : Str)) = false := by decide)
    (hs : swapsWith e (some (.Subscript (.Name x lpos) a pos')) pos.line X.env = pure false := by rfl) :
    HS1 X (.Assign [.Subscript (.Name x lpos) a pos'] e pos) ρ (.nx (ρ1.set i (some (.od (putD ks ky d))))) := fun F G H σ D ok post =>
  ⟨_, ps_dput hu (pv i hN hv hd hcd) pe_we pe_we hs, h F G H σ _ ok fun w G1 H1 e1 ok1 rw => by
    obtain ⟨v1, hv2, q, vs, rfl, hb, hg, hh, rl⟩ := ok1.sl i (.od ks) hi1
    refine ⟨.ref q, hv2, hk F G1 H1 σ _ ok1 fun y ry => ?_⟩
    rw [fl_rep (kD_fl ky) (show Rep X.K G1 (kD ky) y from ry)]
    exact ⟨q, _, rfl, DPut.k hh (ln_lt (by rw [repK_len rl]; exact hz)), post σ G1 _ (ok_chg ok1 hi1 rfl hv2 (fun _ _ z => HO.noConfusion z) ⟨q, _, rfl, hb, hg, upd_same, repK_put rl rw.ok⟩)⟩⟩
/-- an owned slot is from now on shared -/
theorem ok_share {K : PySem.W.Frag} {F : Fr} {G H : Hp} {σ : L2.St} {i : Nat} (ok : Ok K F G H σ ρ) (hi : ρ[i]? = some (some s)) (ho : s.own = true) : ∃ G', Ex G G' ∧ Ok K F G' H σ (ρ.set i (some (.sh s.data))) := by
  obtain ⟨v, h1, h2⟩ := ok.sl i s hi
  obtain ⟨p, u, rfl, hb, hg, hh, hm⟩ := own_ref h2 ho
  have hlt : i < ρ.length := (List.getElem?_eq_some_iff.mp hi).1
  have ok0 : Ok K F G H σ (ρ.set i none) := ⟨ok.toHk, by rw [List.length_set]; exact ok.len, fun j t hj => by
    by_cases z : i = j
    · subst z; rw [List.getElem?_set_self hlt] at hj; cases hj
    · rw [List.getElem?_set_ne z] at hj; exact ok.sl j t hj, fun j l t t' a hj hl => by
    by_cases z : i = j
    · subst z; rw [List.getElem?_set_self hlt] at hj; cases hj
    · by_cases z' : i = l
      · subst z'; rw [List.getElem?_set_self hlt] at hl; cases hl
      · rw [List.getElem?_set_ne z] at hj; rw [List.getElem?_set_ne z'] at hl; exact ok.ow j l t t' a hj hl⟩
  have ap : Apart σ (ρ.set i none) (.ref p) := fun j t hj oj ej => by
    by_cases z : i = j
    · subst z; rw [List.getElem?_set_self hlt] at hj; cases hj
    · rw [List.getElem?_set_ne z] at hj
      exact z (ok.ow i j s t p hi hj ho oj h1 ej)
  have nz : ∀ q w, u ≠ .frz q w := fun q w z => by subst z; exact hm
  have ok1 := ok0.freeze hb hg hh nz ap
  refine ⟨upd G p u, Ex.new hg, ?_⟩
  have rep : Rep K (upd G p u) s.data (.ref p) := by
    cases s with
    | sh d => cases ho
    | ol ds =>
      obtain ⟨p', vs, e, _, _, hh', r⟩ := h2
      cases e
      rw [hh] at hh'
      cases hh'
      simp only [Sl.data, Rep]
      exact ⟨p, vs, rfl, upd_same, RepL.mono (Ex.new hg) r⟩
    | od ds =>
      obtain ⟨p', vs, e, _, _, hh', r⟩ := h2
      cases e
      rw [hh] at hh'
      cases hh'
      simp only [Sl.data, Rep]
      exact ⟨p, vs, rfl, upd_same, RepK.mono (Ex.new hg) r⟩
    | ot ds =>
      obtain ⟨p', vs, e, _, _, hh', r⟩ := h2
      cases e
      rw [hh] at hh'
      cases hh'
      simp only [Sl.data, Rep]
      exact ⟨p, vs, rfl, upd_same, RepT.mono (Ex.new hg) r⟩
    | io ds =>
      obtain ⟨vs, e, _, _, hh', r⟩ := h2
      cases e
      rw [hh] at hh'
      cases hh'
      simp only [Sl.data, Rep]
      exact ⟨_, vs, rfl, upd_same, RepL.mono (Ex.new hg) r⟩
  have e2 : (σ.set i (some (.ref p))) = σ := by
    refine List.ext_getElem? fun j => ?_
    by_cases z : i = j
    · subst z; rw [List.getElem?_set_self (by rw [ok.len]; exact hlt), h1]
    · rw [List.getElem?_set_ne z]
  have e3 : (ρ.set i none).set i (some (.sh s.data)) = ρ.set i (some (.sh s.data)) := List.set_set ..
  have := ok1.put (i := i) (s := .sh s.data) (v := .ref p) ⟨rep, fun z => by cases z⟩
  rw [e2, e3] at this
  exact this
theorem hs_share (i : Nat) (hi : ρ[i]? = some (some s)) (ho : s.own = true) (h : HS X sts (ρ.set i (some (.sh s.data))) out) : HS X sts ρ out := fun F G H σ D ok post => by
  obtain ⟨G', _, ok'⟩ := ok_share ok hi ho
  exact h F G' H σ D ok' post
theorem hs1_share (i : Nat) (hi : ρ[i]? = some (some s)) (ho : s.own = true) (h : HS1 X st (ρ.set i (some (.sh s.data))) out) : HS1 X st ρ out := fun F G H σ D ok post => by
  obtain ⟨G', _, ok'⟩ := ok_share ok hi ho
  exact h F G' H σ D ok' post
theorem he_share (i : Nat) (hi : ρ[i]? = some (some s1)) (ho : s1.own = true) (h : HE X e (ρ.set i (some (.sh s1.data))) s ρ') : HE X e ρ s ρ' := fun F G H σ Q ok k => by
  obtain ⟨G', e1, ok'⟩ := ok_share ok hi ho
  exact h F G' H σ Q ok' fun v G2 H2 e2 => k v G2 H2 (e1.trans e2)
end
/-! ### for -/
section
variable {X : Cx} {ρ ρ' ρ0 ρ1 ρ2 ρ3 : Rh} {s s1 s2 : Sl} {d d1 d2 : D} {tg iter : Expr} {pos : Pos} {ds : List D} {body : List Stmt} {out : Out}
theorem hs_forG {is : List Nat} (hi : HI X tg iter ρ ds ρ0) (inv : Nat → Rh) (n : Nat) (hn : n ≤ ds.length) (h0 : inv 0 = ρ0)
    (turn : ∀ i d, i < n → ds[i]? = some d → ∃ ρt, HB X tg is d (inv i) ρt ∧ (HS X body ρt (.nx (inv (i + 1))) ∨ HS X body ρt (.ct (inv (i + 1)))))
    (fin : (n = ds.length ∧ out = .nx (inv n)) ∨ ∃ d ρt o, ds[n]? = some d ∧ HB X tg is d (inv n) ρt ∧ HS X body ρt o ∧ ((∃ s ρ', o = .rt s ρ' ∧ out = .rt s ρ') ∨ ∃ ρ', o = .bk ρ' ∧ out = .nx ρ'))
    (hp : PassesOwn (model X.prog X.w) X.A X.env X.xe := by exact PassesOwn.never) (hc : X.calm = true := by rfl) (hs : ∀ x, foldedSetIterable iter X.env x = pure x := by intro _; rfl) : HS1 X (.For tg iter body [] pos) ρ out := fun F G H σ D ok post => by
  refine ⟨_, ps_unl (ps_for hp hc pi_wi pg_wg pss_wss hs), hi F G H σ _ ok fun J F' G1 H1 e1 ok1 _ wk ex => ?_⟩
  obtain ⟨exio, ex⟩ := ex
  refine ⟨fun i m σ2 H2 => m = n + 1 - i ∧ i ≤ n ∧ ∃ G2, Ok X.K F' G2 H2 σ2 (inv i), ⟨n + 1, by simp, Nat.zero_le _, G1, by rw [h0]; exact ok1⟩, ?_⟩
  rintro i m σ2 H2 ⟨rfl, hi, G2, ok2⟩
  by_cases hlt : i < n
  · have hlt' : i < ds.length := by omega
    refine .inr ⟨wk.go i F' G2 H2 σ2 _ (FrLe.refl _) hlt' ok2, fun σ3 H3 => ∃ G3, Ok X.K F' G3 H3 σ3 (inv (i + 1)), fun σ3 H3 ⟨G3, ok3⟩ => ⟨n + 1 - (i + 1), by omega, rfl, hlt, G3, ok3⟩, fun x H3 y => ?_⟩
    obtain ⟨d, G3, hd, e3, ok3, rd⟩ := wk.yl i F' G2 H2 σ2 _ x H3 (FrLe.refl _) hlt' ok2 y
    obtain ⟨ρt, hb, hbody⟩ := turn i d hlt hd
    refine hb F' G3 H3 σ2 x _ ok3 rd fun σ4 ok4 _ _ => ?_
    rcases hbody with hbody | hbody
    · exact hbody F' G3 H3 σ4 _ ok4 fun σ5 G5 H5 ok5 => ⟨G5, ok5⟩
    · exact hbody F' G3 H3 σ4 _ ok4 fun σ5 G5 H5 ok5 => ⟨G5, ok5⟩
  · have e : i = n := by omega
    subst e
    rcases fin with ⟨hlen, rfl⟩ | ⟨d', ρt, o, hd', hb, hbody, ho⟩
    · exact .inl ⟨by have := wk.st F' G2 H2 σ2 _ (FrLe.refl _) ok2; rw [← hlen] at this; exact this, ex G2 H2 σ2 _ (D.nx σ2) ok2 fun H3 ok3 _ => post σ2 G2 H3 ok3⟩
    · have hlt' : i < ds.length := (List.getElem?_eq_some_iff.mp hd').1
      refine .inr ⟨wk.go i F' G2 H2 σ2 _ (FrLe.refl _) hlt' ok2, fun _ _ => False, fun _ _ z => z.elim, fun x H3 y => ?_⟩
      obtain ⟨d, G3, hd, e3, ok3, rd⟩ := wk.yl i F' G2 H2 σ2 _ x H3 (FrLe.refl _) hlt' ok2 y
      rw [hd'] at hd
      cases hd
      refine hb F' G3 H3 σ2 x _ ok3 rd fun σ4 ok4 _ _ => ?_
      rcases ho with ⟨s, ρ', rfl, rfl⟩ | ⟨ρ', rfl, rfl⟩
      · exact hbody F' G3 H3 σ4 _ ok4 fun v σ5 G5 H5 ok5 r => ex G5 H5 σ5 _ (D.rt v) ok5 fun H6 ok6 rr => post v σ5 G5 H6 ok6 (rr s v r)
      · exact hbody F' G3 H3 σ4 _ ok4 fun σ5 G5 H5 ok5 => ex G5 H5 σ5 _ (D.nx σ5) ok5 fun H6 ok6 _ => post σ5 G5 H6 ok6
theorem hs_for {is : List Nat} (hi : HI X tg iter ρ ds ρ0) (inv : Nat → Rh) (h0 : inv 0 = ρ0)
    (turn : ∀ i d, ds[i]? = some d → ∃ ρt, HB X tg is d (inv i) ρt ∧ (HS X body ρt (.nx (inv (i + 1))) ∨ HS X body ρt (.ct (inv (i + 1)))))
    (hp : PassesOwn (model X.prog X.w) X.A X.env X.xe := by exact PassesOwn.never) (hc : X.calm = true := by rfl) (hs : ∀ x, foldedSetIterable iter X.env x = pure x := by intro _; rfl) : HS1 X (.For tg iter body [] pos) ρ (.nx (inv ds.length)) :=
  hs_forG hi inv ds.length (Nat.le_refl _) h0 (fun i d _ h => turn i d h) (.inl ⟨rfl, rfl⟩) hp hc hs
end
end PL
set_option Elab.async false
set_option linter.all false
set_option maxRecDepth 100000
namespace PL
open PySem L2
/-! ### what a def is worth -/
def Sl.nio : Sl → Bool
  | .io _ => false
  | _ => true
def spR (K : PySem.W.Frag) (Fn : List D → Sl → Prop) : Sp := fun vs H Q _ => ∃ G ds r, r.nio = true ∧ Sub G H ∧ Nf G ∧ RepL K G ds vs ∧ Fn ds r ∧ ∀ v G' H', Hk ⟨H, G, 0⟩ G' H' → SlOk K ⟨H, G, 0⟩ G' H' r v → Q v H'
/-- a def that is called by its name -/
structure Fd (P : Program) (w : World) (K : PySem.W.Frag) (mg : Str → Option Value) (base : Heap) (k : Nat) (x : Str) (Fn : List D → Sl → Prop) : Prop where
  ex : ∃ f fd ps, FnOk P w K mg base CX0 k f fd ps (spR K Fn) ∧ mg x = some (.ref f) ∧ PySem.W.keepIn K (.ref f) = true ∧ Binds K fd ps []
structure Md (P : Program) (w : World) (K : PySem.W.Frag) (mg : Str → Option Value) (base : Heap) (k : Nat) (C : Addr) (m : Str) (Fn : List D → Sl → Prop) : Prop where
  ex : ∃ f fd ps, FnOk P w K mg base CX0 k f fd ps (spR K Fn) ∧ Meth K C m f ∧ Binds K fd ps []
/-- a def that changes the list that is its first argument -/
def spIo (K : PySem.W.Frag) (Fn : List D → List D → Sl → List D → Prop) : Sp := fun vs H Q _ => ∃ G p ws l ls ds r l', r.nio = true ∧ vs = .ref p :: ws ∧ Sub G H ∧ Nf G ∧ G p = none ∧ H p = some (.lst ls) ∧ RepL K G l ls ∧ RepL K G ds ws ∧ Fn l ds r l' ∧
  ∀ v G' H' ls', Hk ⟨fun a => if a = p then none else H a, G, p⟩ G' H' → G' p = none → H' p = some (.lst ls') → RepL K G' l' ls' → SlOk K ⟨H, G, p⟩ G' H' r v → Q v H'
structure Fio (P : Program) (w : World) (K : PySem.W.Frag) (mg : Str → Option Value) (base : Heap) (k : Nat) (x : Str) (Fn : List D → List D → Sl → List D → Prop) : Prop where
  ex : ∃ f fd ps, FnOk P w K mg base CX0 k f fd ps (spIo K Fn) ∧ mg x = some (.ref f) ∧ PySem.W.keepIn K (.ref f) = true ∧ Binds K fd ps []
theorem rebase {K : PySem.W.Frag} {F : Fr} {B G0 G H : Hp} {io : Addr} {r : Sl} {v : V} (h : SlOk K ⟨B, G0, io⟩ G H r v) (n : r.nio = true) (e : Ex F.B B) : SlOk K F G H r v := by
  cases r with
  | sh d => exact h
  | ol ds => obtain ⟨p, vs, rfl, b, g, q, r⟩ := h; exact ⟨p, vs, rfl, none_of_ex e b, g, q, r⟩
  | od ds => obtain ⟨p, vs, rfl, b, g, q, r⟩ := h; exact ⟨p, vs, rfl, none_of_ex e b, g, q, r⟩
  | ot ds => obtain ⟨p, vs, rfl, b, g, q, r⟩ := h; exact ⟨p, vs, rfl, none_of_ex e b, g, q, r⟩
  | io ds => cases n
theorem own_new {K : PySem.W.Frag} {B G0 G H : Hp} {io : Addr} {r : Sl} {v : V} (h : SlOk K ⟨B, G0, io⟩ G H r v) (n : r.nio = true) (o : r.own = true) : ∃ p, v = .ref p ∧ B p = none := by
  obtain ⟨p, u, e, b, _⟩ := own_ref h o
  exact ⟨p, e, b⟩
section
variable {X : Cx} {ρ ρ' ρ1 ρ2 ρ3 : Rh} {s s1 s2 : Sl} {d d1 d2 : D} {e a b c o : Expr} {es : List Expr} {pos p apos cpos : Pos} {x f m : Str} {ds : List D} {ss : List Sl} {k : Nat} {r : Sl} {Fn : List D → Sl → Prop}
theorem he_call (cd : Fd X.prog X.w X.K X.mg X.base k x Fn) (hr : Room k X.A) (ha : HEA X (e :: es) ρ ds ρ') (hf : Fn ds r) (hn : r.nio = true := by rfl) (hg : Gl X x := by rfl) (hdb : (x == ("__debug__" : Str)) = false := by decide)
    (hst : starEach (e :: es) X.env = (false, eval e X.env) :: starEach es X.env := by rfl) (hpl : (backTo pos (starEach es X.env)).any (·.1) = false := by rfl) : HE X (.Call (.Name x p) (e :: es) [] pos) ρ r ρ' := fun F G H σ Q ok kk => by
  obtain ⟨f, fd, ps, F1, hm, hk, hb⟩ := cd.ex
  refine ⟨_, pe_call F1 hr hg hm hk hb .nil pass0 pa_wa hdb hst hpl, ha F G H σ _ ok fun vs G1 H1 e1 ok1 rv => ?_⟩
  refine ⟨G1, ds, r, hn, ok1.sub, ok1.nf, by rw [List.append_nil]; exact rv, hf, fun v G2 H2 hk2 sl => ?_⟩
  refine kk v G2 H2 (e1.trans hk2.g0) (ok1.called hk2) ⟨rebase sl hn ok1.bh, fun oo => ?_⟩
  obtain ⟨q, rfl, bq⟩ := own_new sl hn oo
  exact (ok1.free bq).2.2
/-- a call that hands back flat data: what is owned may be lent -/
theorem he_callS (cd : Fd X.prog X.w X.K X.mg X.base k x Fn) (hr : Room k X.A) (ha : HGA X (e :: es) ρ ss) (hf : Fn (ss.map Sl.data) (.sh d)) {z : V} (hz : d.fl = some z) (hg : Gl X x := by rfl) (hdb : (x == ("__debug__" : Str)) = false := by decide)
    (hst : starEach (e :: es) X.env = (false, eval e X.env) :: starEach es X.env := by rfl) (hpl : (backTo pos (starEach es X.env)).any (·.1) = false := by rfl) : HE X (.Call (.Name x p) (e :: es) [] pos) ρ (.sh d) ρ := fun F G H σ Q ok kk => by
  obtain ⟨f, fd, ps, F1, hm, hk, hb⟩ := cd.ex
  refine ⟨_, pe_call F1 hr hg hm hk hb .nil pass0 pa_wa hdb hst hpl, ha F G H σ _ ok fun vs rv => ?_⟩
  refine ⟨strip H, ss.map Sl.data, .sh d, rfl, strip_sub, strip_nf, by rw [List.append_nil]; exact rv, hf, fun v G2 H2 hk2 sl => ?_⟩
  exact kk v G H2 (Ex.refl _) (ok.grow hk2.bh hk2.fz) ⟨fl_any hz (show Rep X.K G2 d v from sl), fun z => by cases z⟩
theorem he_meth {C : Addr} {fs : List (Str × D)} {pl : Sem Bool} (cd : Md X.prog X.w X.K X.mg X.base k C m Fn) (cl : Cls X.K C) (hr : Room k X.A) (ho : HE X o ρ (.sh (.obj C fs)) ρ1) (hno : ∀ vs, RepF X.K (fun _ => none) [] vs → True) (hfl : ∀ (G : Hp) (vs : List (Str × V)), RepF X.K G fs vs → vs.lookup m = none)
    (ha : HEA X (e :: es) ρ1 ds ρ2) (hf : Fn (.obj C fs :: ds) r) (hn : r.nio = true := by rfl)
    (hst : starEach (e :: es) X.env = (false, eval e X.env) :: starEach es X.env := by rfl) (hpl : (backTo pos (starEach es X.env)).any (·.1) = false := by rfl)
    (ht : eval (.Call (.Attribute o m apos) (e :: es) [] pos) X.env = (do
      let ov ← eval o X.env
      standAt apos.atName
      let (f, first) ← holding [ov] (getMethod ov m pl)
      callWith pos f first (backTo pos (starEach (e :: es) X.env)) (backToKw pos (keywordEach [] X.env))) := by rfl) : HE X (.Call (.Attribute o m apos) (e :: es) [] pos) ρ r ρ2 := fun F G H σ Q ok kk => by
  obtain ⟨f, fd, ps, F1, hm, hb⟩ := cd.ex
  refine ⟨_, pe_meth (pl := pl) pe_we cl hm F1 hr hb .nil pass0 pa_wa hst hpl ht, ho F G H σ _ ok fun v G1 H1 e1 ok1 rv => ?_⟩
  have rr := rv.ok
  simp only [SlOk, Rep] at rr
  obtain ⟨p, dx, vs, rfl, q, rf⟩ := rr
  refine ⟨p, dx, vs, rfl, ok1.sub.ins q, hfl G1 vs rf, ha F G1 H1 σ _ ok1 fun ws G2 H2 e2 ok2 rv2 => ?_⟩
  refine ⟨G2, .obj C fs :: ds, r, hn, ok2.sub, ok2.nf, ?_, hf, fun v G3 H3 hk3 sl => ?_⟩
  · rw [List.append_nil]
    exact repL_mk (rv.ok.mono e2) rv2
  · refine kk v G3 H3 ((e1.trans e2).trans hk3.g0) (ok2.called hk3) ⟨rebase sl hn ok2.bh, fun oo => ?_⟩
    obtain ⟨q, rfl, bq⟩ := own_new sl hn oo
    exact (ok2.free bq).2.2
theorem he_meth0 {C : Addr} {fs : List (Str × D)} {pl : Sem Bool} (cd : Md X.prog X.w X.K X.mg X.base k C m Fn) (cl : Cls X.K C) (hr : Room k X.A) (ho : HE X o ρ (.sh (.obj C fs)) ρ1) (hfl : ∀ (G : Hp) (vs : List (Str × V)), RepF X.K G fs vs → vs.lookup m = none)
    (hf : Fn [.obj C fs] r) (hn : r.nio = true := by rfl)
    (ht : eval (.Call (.Attribute o m apos) [] [] pos) X.env = (do
      let ov ← eval o X.env
      standAt apos.atName
      let (f, first) ← holding [ov] (getMethod ov m pl)
      callWith pos f first (backTo pos (starEach [] X.env)) (backToKw pos (keywordEach [] X.env))) := by rfl) : HE X (.Call (.Attribute o m apos) [] [] pos) ρ r ρ1 := fun F G H σ Q ok kk => by
  obtain ⟨f, fd, ps, F1, hm, hb⟩ := cd.ex
  refine ⟨_, pe_meth0 (pl := pl) pe_we cl hm F1 hr hb .nil pass0 ht, ho F G H σ _ ok fun v G1 H1 e1 ok1 rv => ?_⟩
  have rr := rv.ok
  simp only [SlOk, Rep] at rr
  obtain ⟨p, dx, vs, rfl, q, rf⟩ := rr
  refine ⟨p, dx, vs, rfl, ok1.sub.ins q, hfl G1 vs rf, ?_⟩
  refine ⟨G1, [.obj C fs], r, hn, ok1.sub, ok1.nf, repL_one rv.ok, hf, fun v G3 H3 hk3 sl => ?_⟩
  refine kk v G3 H3 (e1.trans hk3.g0) (ok1.called hk3) ⟨rebase sl hn ok1.bh, fun oo => ?_⟩
  obtain ⟨q, rfl, bq⟩ := own_new sl hn oo
  exact (ok1.free bq).2.2
/-- f(xs, ..) that changes xs, an owned list's name -/
theorem he_callIo {Fio' : List D → List D → Sl → List D → Prop} (i : Nat) {y : Str} {ypos : Pos} {l l' : List D} (cd : Fio X.prog X.w X.K X.mg X.base k x Fio') (hr : Room k X.A) (hi : ρ[i]? = some (some s)) (hl0 : s.isL.isSome = true) (ha : HEA X es ρ ds ρ1) (hi1 : ρ1[i]? = some (some s1)) (hl : s1.isL = some l) (hf : Fio' l ds r l') (hn : r.nio = true := by rfl) (hg : Gl X x := by rfl)
    (hN : X.N[i]? = some y := by rfl) (hv : Vis X.env.scope y := by first | exact Or.inl rfl | exact Or.inr (Or.inl rfl) | exact Or.inr (Or.inr rfl)) (hdb : (x == ("__debug__" : Str)) = false := by decide) (hd : (y == ("__debug__" : Str)) = false := by decide) (hcd : (y == ("__classdict__" : Str)) = false := by decide)
    (hst : starEach (.Name y ypos :: es) X.env = (false, eval (.Name y ypos) X.env) :: starEach es X.env := by rfl) (hpl : (backTo pos (starEach es X.env)).any (·.1) = false := by rfl) : HE X (.Call (.Name x p) (.Name y ypos :: es) [] pos) ρ r (ρ1.set i (some (s1.setL l'))) := fun F G H σ Q ok kk => by
  obtain ⟨f, fd, ps, F1, hm, hk, hb⟩ := cd.ex
  obtain ⟨v0, hv0, r0⟩ := ok.sl i s hi
  refine ⟨_, pe_call F1 hr hg hm hk hb .nil pass0 (pa_cons (pv i hN hv hd hcd) pa_wa hst) hdb hst hpl, v0, hv0, ha F G H σ _ ok fun vs G1 H1 e1 ok1 rv => ?_⟩
  obtain ⟨v1, hv1, r1⟩ := ok1.sl i s1 hi1
  rw [hv0] at hv1
  cases hv1
  have ho := slL_own hl
  obtain ⟨q, ls, rfl, hq, rl, fin⟩ := slL_at hl r1
  obtain ⟨q', _, e', bq, gq, _, _⟩ := own_ref r1 ho
  cases e'
  refine ⟨G1, q, vs, l, ls, ds, r, l', hn, by rw [List.append_nil], ok1.sub, ok1.nf, gq, hq, rl, rv, hf, fun v G2 H2 ls' hk2 g2 h2 rl2 sl => ?_⟩
  have hne : ∀ (j : Nat) (t : Sl) (a : Addr), j ≠ i → ρ1[j]? = some (some t) → t.own = true → σ[j]? = some (some (.ref a)) → a ≠ q := fun j t a hj h1 ht h3 z => by
    subst z
    exact hj (ok1.ow j i t s1 a h1 hi1 ht ho h3 hv0)
  have bh2 : Ex F.B H2 := fun a o ea => by
    have z : a ≠ q := fun z => by rw [z, bq] at ea; cases ea
    refine hk2.bh a o ?_
    show (if a = q then none else H1 a) = some o
    rw [if_neg z]
    exact ok1.bh a o ea
  have hlt : i < ρ1.length := (List.getElem?_eq_some_iff.mp hi1).1
  have okF : Ok X.K F G2 H2 σ (ρ1.set i (some (s1.setL l'))) := by
    refine ⟨⟨hk2.sub, bh2, ok1.g0.trans hk2.g0, fun a o ea => ?_, hk2.nf, fun a o u ea => ?_⟩, by rw [List.length_set]; exact ok1.len, fun j t hj => ?_, fun j n t t' a hj hn' ot ot' ea eb => ?_⟩
    · rcases hk2.gn a o ea with z | z
      · exact ok1.gn a o z
      · by_cases y : a = q
        · rw [y]; exact .inr bq
        · have z : (if a = q then none else H1 a) = none := z
          rw [if_neg y] at z
          exact .inr (none_of_ex ok1.bh z)
    · have z : (if a = q then none else H1 a) = some (.frz o (.dK u)) := hk2.fz a o u ea
      by_cases y : a = q
      · rw [if_pos y] at z; cases z
      · rw [if_neg y] at z
        exact ok1.fz a o u z
    · by_cases z : i = j
      · subst z
        rw [List.getElem?_set_self hlt] at hj
        cases hj
        exact ⟨_, hv0, fin g2 h2 rl2⟩
      · rw [List.getElem?_set_ne z] at hj
        obtain ⟨w, w1, w2⟩ := ok1.sl j t hj
        refine ⟨w, w1, w2.move hk2.g0 fun ot a ea => ?_⟩
        subst ea
        have nq := hne j t a (Ne.symm z) hj ot w1
        obtain ⟨a', u, ea', b', g', h', _⟩ := own_ref w2 ot
        cases ea'
        have hB : (fun a => if a = q then none else H1 a) a = some u := by
          show (if a = q then none else H1 a) = some u
          rw [if_neg nq]
          exact h'
        refine ⟨?_, (hk2.bh a u hB).trans h'.symm⟩
        cases z2 : G2 a with
        | none => rfl
        | some u' =>
          rcases hk2.gn a u' z2 with y | y
          · rw [show G1 a = some u' from y] at g'; cases g'
          · have y : (if a = q then none else H1 a) = none := y
            have hB : (if a = q then none else H1 a) = some u := hB
            rw [y] at hB; cases hB
    · have fix : ∀ n (y : Sl), (ρ1.set i (some (s1.setL l')))[n]? = some (some y) → y.own = true → ∃ y' : Sl, ρ1[n]? = some (some y') ∧ y'.own = true := fun n y h oy => by
        by_cases z : i = n
        · subst z
          exact ⟨s1, hi1, ho⟩
        · rw [List.getElem?_set_ne z] at h
          exact ⟨y, h, oy⟩
      obtain ⟨y1, f1, o1⟩ := fix j t hj ot
      obtain ⟨y2, f2, o2⟩ := fix n t' hn' ot'
      exact ok1.ow j n y1 y2 a f1 f2 o1 o2 ea eb
  refine kk v G2 H2 (e1.trans hk2.g0) okF ⟨rebase sl hn ok1.bh, fun oo => ?_⟩
  obtain ⟨q2, rfl, bq2⟩ := own_new sl hn oo
  intro j t hj oj ej
  by_cases z : i = j
  · subst z
    rw [hv0] at ej
    cases ej
    rw [hq] at bq2
    cases bq2
  · rw [List.getElem?_set_ne z] at hj
    exact (ok1.free bq2).2.2 j t hj oj ej
end
/-! ### a def's body -/
def st0 (n : Nat) (ds : List D) : Rh := ds.map (fun d => some (.sh d)) ++ List.replicate (n - ds.length) none
def HF (X : Cx) (sts : List Stmt) (ρ : Rh) (r : Sl) : Prop := (∃ ρ', HS X sts ρ (.rt r ρ')) ∨ (r = .sh .non ∧ ∃ ρ', HS X sts ρ (.nx ρ'))
section
variable {P : Program} {w : World} {K : PySem.W.Frag} {mg : Str → Option Value} {base : Heap}
theorem ok_start {F : Fr} {G H : Hp} {N : List Str} {ds : List D} {vs : List V} (hk : Hk F G H) (r : RepL K G ds vs) : Ok K F G H (L2.start N vs) (st0 N.length ds) := by
  have hl := repL_len r
  refine ⟨hk, ?_, fun i s h => ?_, fun i j s t p h h' o o' => ?_⟩
  · simp [L2.start, st0, hl]
  · unfold st0 at h
    by_cases z : i < ds.length
    · rw [List.getElem?_append_left (by simpa using z), List.getElem?_map] at h
      obtain ⟨d, hd⟩ : ∃ d, ds[i]? = some d := ⟨_, List.getElem?_eq_getElem z⟩
      rw [hd] at h
      cases h
      obtain ⟨v, e1, e2⟩ := repL_get r hd
      refine ⟨v, ?_, e2⟩
      unfold L2.start
      rw [List.getElem?_append_left (by simpa [hl] using z), List.getElem?_map, e1]
      rfl
    · rw [List.getElem?_append_right (by simpa using z)] at h
      obtain ⟨_, h⟩ := List.getElem?_eq_some_iff.mp h
      rw [List.getElem_replicate] at h
      cases h
  · have none_own : ∀ {i : Nat} {s : Sl}, (st0 N.length ds)[i]? = some (some s) → s.own = false := fun {i s} h => by
      unfold st0 at h
      by_cases z : i < ds.length
      · rw [List.getElem?_append_left (by simpa using z), List.getElem?_map] at h
        obtain ⟨d, hd⟩ : ∃ d, ds[i]? = some d := ⟨_, List.getElem?_eq_getElem z⟩
        rw [hd] at h
        cases h
        rfl
      · rw [List.getElem?_append_right (by simpa using z)] at h
        obtain ⟨_, h⟩ := List.getElem?_eq_some_iff.mp h
        rw [List.getElem_replicate] at h
        cases h
    rw [none_own h] at o
    cases o
theorem fn_ok {x qual : Str} {st : Stmt} {f : Addr} {fd : FuncData} {N ps : List Str} {k : Nat} {Fn : List D → Sl → Prop} (F : Fun K x qual st f fd) (S : FnScope N ps (defScope st)) (len : ∀ ds r, Fn ds r → ds.length = ps.length)
    (body : ∀ (cdv : Value) (A : Around) (outer : List Env) (s : Shared) (H : Hp) (E : XK), Room k (A.deeper (PyProof.Rows.envOfC qual (defScope st) s.heap.objs.size f cdv)) → ∀ ds r, Fn ds r →
      HF (cxOf CX0 P w K mg base N qual (defScope st) f cdv A outer s H E).nox (defBody st) (st0 N.length ds) r) : FnOk P w K mg base CX0 (k + 1) f fd ps (spR K Fn) := by
  refine F.ok S (fun vs H Q E h => ?_) fun cdv A outer s H vs Q E hr h => ?_
  · obtain ⟨G, ds, r, _, _, _, rv, hf, _⟩ := h
    rw [repL_len rv]
    exact len ds r hf
  · obtain ⟨G, ds, r, hn, sub, nf, rv, hf, kk⟩ := h
    refine ⟨_, pss_wss, ?_⟩
    have hk : Hk ⟨H, G, 0⟩ G H := Hk.start sub nf 0
    rcases body cdv A outer s H E hr ds r hf with ⟨ρ', hs⟩ | ⟨rfl, ρ', hs⟩
    · exact hs ⟨H, G, 0⟩ G H _ _ (ok_start hk rv) fun v σ G' H' ok' rr => kk v G' H' ok'.toHk rr.ok
    · exact hs ⟨H, G, 0⟩ G H _ _ (ok_start hk rv) fun σ G' H' ok' => kk .non G' H' ok'.toHk (rep_fl rfl)
def stI (n : Nat) (l : List D) (ds : List D) : Rh := some (.io l) :: (ds.map (fun d => some (.sh d)) ++ List.replicate (n - (ds.length + 1)) none)
theorem ok_startI {F : Fr} {G H : Hp} {N : List Str} {l ds : List D} {vs ls : List V} (hk : Hk F G H) (hb : F.B F.io = none) (hg : G F.io = none) (hh : H F.io = some (.lst ls)) (rl : RepL K G l ls) (r : RepL K G ds vs) : Ok K F G H (L2.start N (.ref F.io :: vs)) (stI N.length l ds) := by
  have hl := repL_len r
  have cls : ∀ {i : Nat} {s : Sl}, (stI N.length l ds)[i]? = some (some s) → (i = 0 ∧ s = .io l) ∨ ∃ j d, i = j + 1 ∧ s = .sh d ∧ ds[j]? = some d := fun {i s} h => by
    cases i with
    | zero => simp only [stI, List.getElem?_cons_zero, Option.some.injEq] at h; exact .inl ⟨rfl, h.symm⟩
    | succ i =>
      simp only [stI, List.getElem?_cons_succ] at h
      by_cases z : i < ds.length
      · rw [List.getElem?_append_left (by simpa using z), List.getElem?_map] at h
        obtain ⟨d, hd⟩ : ∃ d, ds[i]? = some d := ⟨_, List.getElem?_eq_getElem z⟩
        rw [hd] at h
        cases h
        exact .inr ⟨i, d, rfl, rfl, hd⟩
      · rw [List.getElem?_append_right (by simpa using z)] at h
        obtain ⟨_, h⟩ := List.getElem?_eq_some_iff.mp h
        rw [List.getElem_replicate] at h
        cases h
  refine ⟨hk, ?_, fun i s h => ?_, fun i j s t p h h' o o' _ _ => ?_⟩
  · simp only [L2.start, stI, List.map_cons, List.length_append, List.length_cons, List.length_map, List.length_replicate, hl]
    omega
  · rcases cls h with ⟨rfl, rfl⟩ | ⟨j, d, rfl, rfl, hd⟩
    · exact ⟨.ref F.io, by simp [L2.start], ls, rfl, hb, hg, hh, rl⟩
    · obtain ⟨v, e1, e2⟩ := repL_get r hd
      have z : j < vs.length := (List.getElem?_eq_some_iff.mp e1).1
      refine ⟨v, ?_, e2⟩
      unfold L2.start
      rw [List.map_cons, List.cons_append, List.getElem?_cons_succ, List.getElem?_append_left (by simpa using z), List.getElem?_map, e1]
      rfl
  · rcases cls h with ⟨rfl, rfl⟩ | ⟨_, _, _, rfl, _⟩
    · rcases cls h' with ⟨rfl, rfl⟩ | ⟨_, _, _, rfl, _⟩
      · rfl
      · cases o'
    · cases o
theorem fn_okI {x qual : Str} {st : Stmt} {f : Addr} {fd : FuncData} {N ps : List Str} {k : Nat} {Fn : List D → List D → Sl → List D → Prop} (F : Fun K x qual st f fd) (S : FnScope N ps (defScope st)) (len : ∀ l ds r l', Fn l ds r l' → ds.length + 1 = ps.length)
    (body : ∀ (cdv : Value) (A : Around) (outer : List Env) (s : Shared) (H : Hp) (E : XK), Room k (A.deeper (PyProof.Rows.envOfC qual (defScope st) s.heap.objs.size f cdv)) → ∀ l ds r l', Fn l ds r l' →
      ∃ ρ', HS (cxOf CX0 P w K mg base N qual (defScope st) f cdv A outer s H E).nox (defBody st) (stI N.length l ds) (.rt r ρ') ∧ ρ'[0]? = some (some (.io l'))) : FnOk P w K mg base CX0 (k + 1) f fd ps (spIo K Fn) := by
  refine F.ok S (fun vs H Q E h => ?_) fun cdv A outer s H vs Q E hr h => ?_
  · obtain ⟨G, p, ws, l, ls, ds, r, l', _, rfl, _, _, _, _, _, rv, hf, _⟩ := h
    rw [List.length_cons, repL_len rv]
    exact len l ds r l' hf
  · obtain ⟨G, p, ws, l, ls, ds, r, l', hn, rfl, sub, nf, gp, hp, rl, rv, hf, kk⟩ := h
    refine ⟨_, pss_wss, ?_⟩
    have hne : ∀ a o, G a = some o → a ≠ p := fun a o e z => by rw [z, gp] at e; cases e
    by_cases hfz : True
    · have hk : Hk ⟨fun a => if a = p then none else H a, G, p⟩ G H := ⟨sub, fun a o e => by
          have e : (if a = p then none else H a) = some o := e
          by_cases z : a = p
          · rw [if_pos z] at e; cases e
          · rw [if_neg z] at e; exact e, Ex.refl _, fun a o e => .inl e, nf, fun a o u e => by
          show (if a = p then none else H a) = some (.frz o (.dK u))
          have z : a ≠ p := fun z => by rw [z, hp] at e; cases e
          rw [if_neg z]
          exact e⟩
      obtain ⟨ρ', hs, h0⟩ := body cdv A outer s H E hr l ds r l' hf
      refine hs ⟨fun a => if a = p then none else H a, G, p⟩ G H _ _ (ok_startI (F := ⟨fun a => if a = p then none else H a, G, p⟩) hk (if_pos rfl) gp hp rl rv) fun v σ G' H' ok' rr => ?_
      obtain ⟨v0, e0, ls', rfl, b0, g0, hh0, rl0⟩ := ok'.sl 0 (.io l') h0
      have ro := rr.ok
      refine kk v G' H' ls' ok'.toHk g0 hh0 rl0 ?_
      cases r with
      | sh d => exact ro
      | ol es =>
        obtain ⟨q, vs, rfl, b, g, h, r⟩ := ro
        have z : q ≠ p := fun z => rr.ap rfl 0 (.io l') h0 rfl (by rw [e0, z])
        have b : (if q = p then none else H q) = none := b
        rw [if_neg z] at b
        exact ⟨q, vs, rfl, b, g, h, r⟩
      | od es =>
        obtain ⟨q, vs, rfl, b, g, h, r⟩ := ro
        have z : q ≠ p := fun z => rr.ap rfl 0 (.io l') h0 rfl (by rw [e0, z])
        have b : (if q = p then none else H q) = none := b
        rw [if_neg z] at b
        exact ⟨q, vs, rfl, b, g, h, r⟩
      | ot es =>
        obtain ⟨q, vs, rfl, b, g, h, r⟩ := ro
        have z : q ≠ p := fun z => rr.ap rfl 0 (.io l') h0 rfl (by rw [e0, z])
        have b : (if q = p then none else H q) = none := b
        rw [if_neg z] at b
        exact ⟨q, vs, rfl, b, g, h, r⟩
      | io es => cases hn
    · exact absurd trivial hfz
end
end PL
set_option Elab.async false
set_option linter.all false
set_option maxRecDepth 100000
namespace PL
open PySem L2
def wr (ρ : Rh) : List Nat → Rh
  | [] => ρ
  | v :: vs => (wr ρ vs).set v none
theorem wr_len (ρ : Rh) : ∀ vs, (wr ρ vs).length = ρ.length
  | [] => rfl
  | v :: vs => by unfold wr; rw [List.length_set, wr_len ρ vs]
theorem wr_out {ρ : Rh} {i : Nat} : ∀ {vs : List Nat}, i ∉ vs → (wr ρ vs)[i]? = ρ[i]?
  | [], _ => rfl
  | v :: vs, h => by
    unfold wr
    rw [List.getElem?_set_ne (fun z => h (by rw [z]; exact List.mem_cons_self)), wr_out fun z => h (List.mem_cons_of_mem _ z)]
theorem wr_in {ρ : Rh} {i : Nat} {s : Sl} : ∀ {vs : List Nat}, i ∈ vs → (wr ρ vs)[i]? ≠ some (some s)
  | v :: vs, h, e => by
    unfold wr at e
    by_cases z : v = i
    · subst z
      by_cases y : v < (wr ρ vs).length
      · rw [List.getElem?_set_self y] at e; cases e
      · rw [List.getElem?_eq_none (by rw [List.length_set]; omega)] at e; cases e
    · rw [List.getElem?_set_ne z] at e
      rcases List.mem_cons.mp h with q | q
      · exact z q.symm
      · exact wr_in q e
theorem wr_some {ρ : Rh} {i : Nat} {s : Sl} {vs : List Nat} (h : (wr ρ vs)[i]? = some (some s)) : ρ[i]? = some (some s) ∧ i ∉ vs := by
  by_cases z : i ∈ vs
  · exact absurd h (wr_in z)
  · exact ⟨by rw [← wr_out z]; exact h, z⟩
theorem wipe_at {σ : L2.St} {i : Nat} : ∀ {vs : List Nat}, i ∈ vs → (wipe σ vs)[i]? = if i < σ.length then some none else none
  | v :: vs, h => by
    unfold wipe
    by_cases z : v = i
    · subst z
      by_cases y : v < σ.length
      · rw [if_pos y, List.getElem?_set_self (by rw [wipe_length]; exact y)]
      · rw [if_neg y, List.getElem?_eq_none (by rw [List.length_set, wipe_length]; omega)]
    · rw [List.getElem?_set_ne z]
      rcases List.mem_cons.mp h with q | q
      · exact absurd q.symm z
      · exact wipe_at q
theorem wipe_eq {σ σ2 : L2.St} {vs is : List Nat} (h : ∀ i, i ∉ is → σ2[i]? = (wipe σ vs)[i]?) (hl : σ2.length = (wipe σ vs).length) (hs : ∀ i ∈ is, i ∈ vs) : wipe σ2 vs = wipe σ vs := by
  refine List.ext_getElem? fun i => ?_
  by_cases z : i ∈ vs
  · rw [wipe_at z, wipe_at z, hl, wipe_length]
  · rw [wipe_out z, h i fun y => z (hs i y), wipe_out z]
section
variable {K : PySem.W.Frag} {F F0 : Fr} {G G1 G2 H H1 H2 : Hp} {σ σ2 : L2.St} {ρ ρ0 ρ2 : Rh} {vs : List Nat} {p : Addr} {o u : HO}
theorem ok_wipe (ok : Ok K F G H σ ρ) : Ok K F G H (wipe σ vs) (wr ρ vs) := ⟨ok.toHk, by rw [wipe_length, wr_len]; exact ok.len, fun i s h => by
  obtain ⟨h1, h2⟩ := wr_some h
  obtain ⟨v, e1, e2⟩ := ok.sl i s h1
  exact ⟨v, by rw [wipe_out h2]; exact e1, e2⟩, fun i j s t q h h' o o' e e' => by
  obtain ⟨h1, h2⟩ := wr_some h
  obtain ⟨h3, h4⟩ := wr_some h'
  rw [wipe_out h2] at e
  rw [wipe_out h4] at e'
  exact ok.ow i j s t q h1 h3 o o' e e'⟩
theorem ok_unwipe (ok : Ok K F G H (wipe σ vs) (wr ρ vs)) (ok0 : Ok K F0 G1 H1 σ ρ0) (e : Ex G1 G) (hl : ρ.length = ρ0.length) (h : ∀ j ∈ vs, ρ[j]? = ρ0[j]?) (hn : ∀ j ∈ vs, ∀ s : Sl, ρ0[j]? = some (some s) → s.own = false) : Ok K F G H σ ρ := ⟨ok.toHk, by rw [hl]; exact ok0.len, fun i s hi => by
  by_cases z : i ∈ vs
  · rw [h i z] at hi
    obtain ⟨v, e1, e2⟩ := ok0.sl i s hi
    refine ⟨v, e1, ?_⟩
    have := hn i z s hi
    cases s with
    | sh d => exact Rep.mono e e2
    | _ => cases this
  · obtain ⟨v, e1, e2⟩ := ok.sl i s (by rw [wr_out z]; exact hi)
    rw [wipe_out z] at e1
    exact ⟨v, e1, e2⟩, fun i j s t q hi hj o o' e1 e2 => by
  have out : ∀ {n : Nat} {y : Sl}, ρ[n]? = some (some y) → y.own = true → n ∉ vs := fun {n y} h1 h2 z => by
    rw [h n z] at h1
    rw [hn n z y h1] at h2
    cases h2
  have zi := out hi o
  have zj := out hj o'
  exact ok.ow i j s t q (by rw [wr_out zi]; exact hi) (by rw [wr_out zj]; exact hj) o o' (by rw [wipe_out zi]; exact e1) (by rw [wipe_out zj]; exact e2)⟩
/-- an object apart is kept by what follows -/
theorem ok_guard (ok : Ok K F G H σ ρ) (h : H p = some o) (ap : Apart σ ρ (.ref p)) : Ok K ⟨upd F.B p o, G, F.io⟩ G H σ ρ := by
  refine ⟨⟨ok.sub, fun a u e => ?_, Ex.refl _, fun a u e => .inl e, ok.nf, fun a q u e => ?_⟩, ok.len, fun i s hi => ?_, ok.ow⟩
  · have e : upd F.B p o a = some u := e
    by_cases z : a = p
    · subst z; rw [upd_same] at e; rw [h]; exact e
    · rw [upd_ne z] at e; exact ok.bh a u e
  · show upd F.B p o a = some (.frz q (.dK u))
    by_cases z : a = p
    · subst z; rw [upd_same]; rw [h] at e; exact e
    · rw [upd_ne z]; exact ok.fz a q u e
  · obtain ⟨v, e1, e2⟩ := ok.sl i s hi
    refine ⟨v, e1, ?_⟩
    have hne : ∀ q, s.own = true → v = .ref q → q ≠ p := fun q oo ev z => ap i s hi oo (by rw [e1, ev, z])
    cases s with
    | sh d => exact e2
    | ol ds => obtain ⟨q, ws, rfl, b, r⟩ := e2; exact ⟨q, ws, rfl, by show upd F.B p o q = none; rw [upd_ne (hne q rfl rfl)]; exact b, r⟩
    | od ds => obtain ⟨q, ws, rfl, b, r⟩ := e2; exact ⟨q, ws, rfl, by show upd F.B p o q = none; rw [upd_ne (hne q rfl rfl)]; exact b, r⟩
    | ot ds => obtain ⟨q, ws, rfl, b, r⟩ := e2; exact ⟨q, ws, rfl, by show upd F.B p o q = none; rw [upd_ne (hne q rfl rfl)]; exact b, r⟩
    | io ds => obtain ⟨ws, rfl, b, r⟩ := e2; exact ⟨ws, rfl, by show upd F.B p o F.io = none; rw [upd_ne (hne _ rfl rfl)]; exact b, r⟩
theorem ok_unguard (ok2 : Ok K ⟨upd F.B p o, G, F.io⟩ G2 H2 σ2 ρ2) (hk : Hk F G H) (fb : F.B p = none) (g : G p = none) (nz : ∀ a b, o ≠ .frz a b) : Ok K F G2 H2 σ2 ρ2 ∧ H2 p = some o ∧ G2 p = none ∧ Apart σ2 ρ2 (.ref p) := by
  have hp := ok2.bh p o upd_same
  refine ⟨⟨⟨ok2.sub, fun a u e => ?_, hk.g0.trans ok2.g0, fun a u e => ?_, ok2.nf, fun a q u e => ?_⟩, ok2.len, fun i s hi => ?_, ok2.ow⟩, hp, ?_, fun i t hi oo e => ?_⟩
  · have z : a ≠ p := fun z => by rw [z, fb] at e; cases e
    refine ok2.bh a u ?_
    show upd F.B p o a = some u
    rw [upd_ne z]; exact e
  · rcases ok2.gn a u e with q | q
    · exact hk.gn a u q
    · have q : upd F.B p o a = none := q
      by_cases z : a = p
      · subst z; rw [upd_same] at q; cases q
      · rw [upd_ne z] at q; exact .inr q
  · have y : upd F.B p o a = some (.frz q (.dK u)) := ok2.fz a q u e
    by_cases z : a = p
    · subst z; rw [upd_same] at y; exact absurd (Option.some.inj y) (nz _ _)
    · rw [upd_ne z] at y; exact y
  · obtain ⟨v, e1, e2⟩ := ok2.sl i s hi
    refine ⟨v, e1, ?_⟩
    have down : ∀ q, upd F.B p o q = none → F.B q = none := fun q b => by
      by_cases z : q = p
      · subst z; exact fb
      · rw [upd_ne z] at b; exact b
    cases s with
    | sh d => exact e2
    | ol ds => obtain ⟨q, ws, rfl, b, r⟩ := e2; exact ⟨q, ws, rfl, down _ b, r⟩
    | od ds => obtain ⟨q, ws, rfl, b, r⟩ := e2; exact ⟨q, ws, rfl, down _ b, r⟩
    | ot ds => obtain ⟨q, ws, rfl, b, r⟩ := e2; exact ⟨q, ws, rfl, down _ b, r⟩
    | io ds => obtain ⟨ws, rfl, b, r⟩ := e2; exact ⟨ws, rfl, down _ b, r⟩
  · cases r : G2 p with
    | none => rfl
    | some u =>
      rcases ok2.gn p u r with q | q
      · rw [show G p = some u from q] at g; cases g
      · have q : upd F.B p o p = none := q
        rw [upd_same] at q; cases q
  · obtain ⟨v, e1, e2⟩ := ok2.sl i t hi
    obtain ⟨q, _, ev, b, _⟩ := own_ref e2 oo
    rw [e1, ev] at e
    cases e
    have b : upd F.B p o p = none := b
    rw [upd_same] at b; cases b
theorem ok_side (ok : Ok K F G H σ ρ) (fb : F.B p = none) (g : G p = none) (ap : Apart σ ρ (.ref p)) (nz : ∀ a b, u ≠ .frz a b) : Ok K F G (upd H p u) σ ρ :=
  ok.move ⟨fun a o e => by
      have z : a ≠ p := fun z => by rw [z, g] at e; cases e
      rw [upd_ne z]; exact ok.sub a o e, fun a o e => by
      have z : a ≠ p := fun z => by rw [z, fb] at e; cases e
      rw [upd_ne z]; exact ok.bh a o e, ok.g0, ok.gn, ok.nf, fun a q v e => by
      by_cases z : a = p
      · subst z; rw [upd_same] at e; exact absurd (Option.some.inj e) (nz _ _)
      · rw [upd_ne z] at e; exact ok.fz a q v e⟩ (Ex.refl _) fun i s q hi oo hq => by
    have z : q ≠ p := fun z => ap i s hi oo (by rw [hq, z])
    obtain ⟨v, e1, e2⟩ := ok.sl i s hi
    obtain ⟨q', _, ev, _, g', _, _⟩ := own_ref e2 oo
    rw [e1, ev] at hq
    cases hq
    exact ⟨g', by rw [upd_ne z]⟩
theorem apart_wipe (ap : Apart σ ρ (.ref p)) : Apart (wipe σ vs) (wr ρ vs) (.ref p) := fun i t h o e => by
  obtain ⟨h1, h2⟩ := wr_some h
  rw [wipe_out h2] at e
  exact ap i t h1 o e
end
/-! ### comprehensions -/
section
variable {X : Cx} {ρ ρ' ρ0 ρ1 ρ2 ρ3 : Rh} {s s1 s2 : Sl} {d d1 d2 : D} {tg iter elt kx vx : Expr} {ifs : List Expr} {scope : Scope} {own : List (Str × Nat)} {pos spos py : Pos} {ds : List D} {y : Str}
def HTs (X : Cx) (ifs : List Expr) (ρ : Rh) (b : Bool) (ρ' : Rh) : Prop := ∀ (F : Fr) (G H : Hp) (σ : L2.St) (Q : Bool → Hp → Prop), Ok X.K F G H σ ρ → (∀ G' H', Ex G G' → Ok X.K F G' H' σ ρ' → Q b H') → ∃ t, PTs X ifs t ∧ t σ H Q
theorem hts_nil : HTs X [] ρ true ρ := fun F G H σ Q ok k => ⟨_, pts_nil, k G H (Ex.refl _) ok⟩
theorem hts_one {c : Expr} {b : Bool} (h : HT X c ρ b ρ') : HTs X [c] ρ b ρ' := fun F G H σ Q ok k => ⟨_, pts_one pt_wt, h F G H σ Q ok k⟩
abbrev Bk (X : Cx) (scope : Scope) (s : Shared) (H : Hp) (C : Addr) (cl : List (Str × Addr)) (fp : List Addr) : Cx := X.blk s H scope (compEnvC scope cl C X.env) fp
/-- what a comprehension does: the slots R i ahead of the i-th turn, acc i what is made so far -/
structure Cmp (X : Cx) (tg : Expr) (ifs : List Expr) (elt : Expr) (scope : Scope) (vs : List Nat) (ds : List D) (ρ0 : Rh) (R : Nat → Rh) (acc : Nat → List D) : Prop where
  r0 : R 0 = ρ0
  a0 : acc 0 = []
  len : ∀ i, i ≤ ds.length → (R i).length = ρ0.length
  keep : ∀ i, i ≤ ds.length → ∀ j ∈ vs, (R i)[j]? = ρ0[j]?
  sh : ∀ j ∈ vs, ∀ s : Sl, ρ0[j]? = some (some s) → s.own = false
  big : ∀ i, i ≤ ds.length → (acc i).length < 100000
  turn : ∀ i d, ds[i]? = some d → ∃ (is : List Nat) (ρt : Rh) (b : Bool) (ρ1 : Rh), (∀ j ∈ is, j ∈ vs) ∧ (∀ s H C cl fp, HB (Bk X scope s H C cl fp) tg is d (wr (R i) vs) ρt) ∧ (∀ s H C cl fp, HTs (Bk X scope s H C cl fp) ifs ρt b ρ1) ∧
    (b = true → ∃ r ρ2, (∀ s H C cl fp, HE (Bk X scope s H C cl fp) elt ρ1 (.sh r) ρ2) ∧ acc (i + 1) = acc i ++ [r] ∧ wr ρ2 vs = wr (R (i + 1)) vs) ∧
    (b = false → acc (i + 1) = acc i ∧ wr ρ1 vs = wr (R (i + 1)) vs)
theorem lc_read {R : Nat → Rh} {acc : Nat → List D} {F : Fr} {G H : Hp} {σ : L2.St} {Q : VK} (hi : HI X tg iter ρ ds ρ0) (c : Cmp X tg ifs elt scope (own.map (·.2)) ds ρ0 R acc) (ok : Ok X.K F G H σ ρ)
    (kk : ∀ v G' H', Ex G G' → Ok X.K F G' H' σ (R ds.length) → Res X.K F G' H' σ (R ds.length) (.ol (acc ds.length)) v → Q v H') :
    tLc (WI X tg iter) (fun v σ H Q => ∀ s H0 C cl fp, WG (Bk X scope s H0 C cl fp) tg v σ H Q) (fun σ H Q => ∀ s H0 C cl fp, ∃ t, PTs (Bk X scope s H0 C cl fp) ifs t ∧ t σ H Q) (fun σ H Q => ∀ s H0 C cl fp, WE (Bk X scope s H0 C cl fp) elt σ H Q) (own.map (·.2)) σ H (fun v H' => Unl X H' (Q v)) := by
  refine hi F G H σ _ ok fun J F' G1 H1 e1 ok1 hG0 wk ex => fun Dl hD => ?_
  obtain ⟨exio, ex⟩ := ex
  obtain ⟨fb, fg, fa⟩ := ok1.free hD
  refine ⟨fun i m H2 => m = ds.length + 1 - i ∧ i ≤ ds.length ∧ ∃ G2 av, RepL X.K G2 (acc i) av ∧ H2 Dl = some (.lst av) ∧ G2 Dl = none ∧ Apart (wipe σ (own.map (·.2))) (wr (R i) (own.map (·.2))) (.ref Dl) ∧ Ok X.K F' G2 H2 (wipe σ (own.map (·.2))) (wr (R i) (own.map (·.2))),
    ⟨ds.length + 1, by simp, Nat.zero_le _, G1, [], by rw [c.a0]; exact repL_mk0, upd_same, fg, by rw [c.r0]; exact apart_wipe fa, by rw [c.r0]; exact ok_wipe (ok1.new hD fun _ _ z => HO.noConfusion z)⟩, ?_⟩
  rintro i m H2 ⟨rfl, hle, G2, av, rav, hDl, gDl, apD, ok2⟩
  by_cases hlt : i < ds.length
  · refine .inr ⟨wk.go i F' G2 H2 _ _ (FrLe.refl _) hlt ok2, fun H3 => ∃ G3 av, RepL X.K G3 (acc (i + 1)) av ∧ H3 Dl = some (.lst av) ∧ G3 Dl = none ∧ Apart (wipe σ (own.map (·.2))) (wr (R (i + 1)) (own.map (·.2))) (.ref Dl) ∧ Ok X.K F' G3 H3 (wipe σ (own.map (·.2))) (wr (R (i + 1)) (own.map (·.2))),
      fun H3 h => ⟨ds.length + 1 - (i + 1), by omega, rfl, hlt, h⟩, fun x H3 y => ?_⟩
    have okg := ok_guard ok2 hDl apD
    have le : FrLe F' ⟨upd F'.B Dl (.lst av), G2, F'.io⟩ := ⟨Ex.new fb, ok2.g0⟩
    obtain ⟨d, G3, hd, e3, ok3, rd⟩ := wk.yl i _ G2 H2 _ _ x H3 le hlt okg y
    obtain ⟨is, ρt, b, ρ1, his, hb, ht, hyes, hno⟩ := c.turn i d hd
    intro s0 H0 C0 cl0 fp0
    refine hb s0 H0 C0 cl0 fp0 _ G3 H3 _ x _ ok3 rd fun σ4 ok4 se sl => ?_
    have hw : wipe σ4 (own.map (·.2)) = wipe σ (own.map (·.2)) := wipe_eq se sl his
    refine ⟨hw, fun s1 H01 C1 cl1 fp1 => ht s1 H01 C1 cl1 fp1 _ G3 H3 σ4 _ ok4 fun G5 H5 e5 ok5 => ?_⟩
    cases b with
    | true =>
      obtain ⟨r, ρ2, he, ha, hr⟩ := hyes rfl
      show (if true = true then _ else _)
      rw [if_pos rfl]
      intro s2 H02 C2 cl2 fp2
      refine he s2 H02 C2 cl2 fp2 _ G5 H5 σ4 _ ok5 fun z G6 H6 e6 ok6 rz => ?_
      have ok7 := ok_wipe (vs := own.map (·.2)) ok6
      rw [hw, hr] at ok7
      obtain ⟨ok8, h8, g8, a8⟩ := ok_unguard ok7 ok2.toHk fb gDl fun _ _ z => HO.noConfusion z
      have g6 : Ex G2 G6 := (e3.trans e5).trans e6
      refine ⟨av, h8, ln_lt (by rw [repL_len rav]; exact c.big i hle), G6, av ++ [z], ?_, upd_same, g8, a8, ok_side ok8 fb g8 a8 fun _ _ z => HO.noConfusion z⟩
      rw [ha]
      exact repL_append (RepL.mono g6 rav) (repL_one rz.ok)
    | false =>
      obtain ⟨ha, hr⟩ := hno rfl
      show (if false = true then _ else _)
      rw [if_neg Bool.false_ne_true]
      have ok7 := ok_wipe (vs := own.map (·.2)) ok5
      rw [hw, hr] at ok7
      obtain ⟨ok8, h8, g8, a8⟩ := ok_unguard ok7 ok2.toHk fb gDl fun _ _ z => HO.noConfusion z
      refine ⟨G5, av, ?_, h8, g8, a8, ok8⟩
      rw [ha]
      exact RepL.mono (e3.trans e5) rav
  · have e : i = ds.length := by omega
    subst e
    have ok9 : Ok X.K F' G2 H2 σ (R ds.length) := ok_unwipe ok2 ok1 (by rw [← hG0]; exact ok2.g0) (c.len _ (Nat.le_refl _)) (c.keep _ (Nat.le_refl _)) c.sh
    have ap9 : Apart σ (R ds.length) (.ref Dl) := fun j t hj oj ej => by
      by_cases z : j ∈ own.map (·.2)
      · rw [c.keep _ (Nat.le_refl _) j z] at hj
        rw [c.sh j z t hj] at oj
        cases oj
      · exact apD j t (by rw [wr_out z]; exact hj) oj (by rw [wipe_out z]; exact ej)
    refine .inl ⟨wk.st F' G2 H2 _ _ (FrLe.refl _) ok2, ex G2 H2 σ _ (Q (.ref Dl)) ok9 fun H3 ok3 rr => ?_⟩
    exact kk _ G2 H3 (e1.trans (by rw [← hG0]; exact ok2.g0)) ok3 (rr (.ol (acc ds.length)) (.ref Dl) ⟨⟨Dl, av, rfl, fb, gDl, hDl, rav⟩, fun _ => ap9⟩)
theorem he_lc {R : Nat → Rh} {acc : Nat → List D} (own : List (Str × Nat)) (hi : HI X tg iter ρ ds ρ0) (c : Cmp X tg ifs elt scope (own.map (·.2)) ds ρ0 R acc) (hN : X.N.Nodup) (ok : BlkOk X.N X.env.scope scope own) (hc : X.calm = true := by rfl) (hs : ∀ x, foldedSetIterable iter X.env x = pure x := by intro _; rfl) :
    HE X (.ListComp elt [⟨tg, iter, ifs, 0⟩] scope pos) ρ (.ol (acc ds.length)) (R ds.length) := fun F G H σ Q okk kk =>
  ⟨_, pe_unl (pe_lc hc hN pi_wi ok (fun s H C cl fp => ⟨fun pins s' σ H' v u Q I r h => (pg_wg (X := Bk X scope s H C cl fp)).run pins s' σ H' v u Q I r (h s H C cl fp)⟩)
    (fun s H C cl fp => ⟨fun pins s' σ H' Q I h => let ⟨t, p, q⟩ := h s H C cl fp; p.run pins s' σ H' Q I q⟩) (fun s H C cl fp => ⟨fun pins s' σ H' Q I h => (pe_we (X := Bk X scope s H C cl fp)).run pins s' σ H' Q I (h s H C cl fp)⟩) hs), lc_read hi c okk kk⟩
theorem hs_setLc {R : Nat → Rh} {acc : Nat → List D} (i : Nat) (own : List (Str × Nat)) (hi : HI X tg iter ρ ds ρ0) (c : Cmp X tg ifs elt scope (own.map (·.2)) ds ρ0 R acc) (hN : X.N.Nodup) (ok : BlkOk X.N X.env.scope scope own)
    (hsw : swapsWith (.ListComp elt [⟨tg, iter, ifs, 0⟩] scope pos) (some (.Name y py)) spos.line X.env = pure true) (hy : X.N[i]? = some y := by rfl) (hyl : X.env.scope.names.lookup y = some .local := by rfl) (hc : X.calm = true := by rfl) (hs : ∀ x, foldedSetIterable iter X.env x = pure x := by intro _; rfl) :
    HS1 X (.Assign [.Name y py] (.ListComp elt [⟨tg, iter, ifs, 0⟩] scope pos) spos) ρ (.nx ((R ds.length).set i (some (.ol (acc ds.length))))) := fun F G H σ D okk post =>
  ⟨_, ps_unl (ps_setLc hc hN hy hyl hsw pi_wi ok (fun s H C cl fp => ⟨fun pins s' σ H' v u Q I r h => (pg_wg (X := Bk X scope s H C cl fp)).run pins s' σ H' v u Q I r (h s H C cl fp)⟩)
    (fun s H C cl fp => ⟨fun pins s' σ H' Q I h => let ⟨t, p, q⟩ := h s H C cl fp; p.run pins s' σ H' Q I q⟩) (fun s H C cl fp => ⟨fun pins s' σ H' Q I h => (pe_we (X := Bk X scope s H C cl fp)).run pins s' σ H' Q I (h s H C cl fp)⟩) hs),
    lc_read (Q := fun x H1 => D.nx (σ.set i (some x)) H1) hi c okk fun v G' H' e ok' r => post _ G' H' (ok'.put r)⟩
/-- a comprehension that changes no slot and leaves nothing out -/
theorem cmp_map {f : D → D} (hsh : ∀ j ∈ own.map (·.2), ∀ s : Sl, ρ0[j]? = some (some s) → s.own = false) (hbig : ds.length < 100000) (is : List Nat) (his : ∀ j ∈ is, j ∈ own.map (·.2))
    (ht : ∀ (i : Nat) (d : D), ds[i]? = some d → ∃ ρt, (∀ s H C cl fp, HB (Bk X scope s H C cl fp) tg is d (wr ρ0 (own.map (·.2))) ρt) ∧ ∃ ρ2, (∀ s H C cl fp, HE (Bk X scope s H C cl fp) elt ρt (.sh (f d)) ρ2) ∧ wr ρ2 (own.map (·.2)) = wr ρ0 (own.map (·.2))) :
    Cmp X tg [] elt scope (own.map (·.2)) ds ρ0 (fun _ => ρ0) (fun i => (ds.take i).map f) where
  r0 := rfl
  a0 := rfl
  len := fun _ _ => rfl
  keep := fun _ _ _ _ => rfl
  sh := hsh
  big := fun i hi => by rw [List.length_map, List.length_take]; omega
  turn := fun i d hd => by
    obtain ⟨ρt, hb, ρ2, he, hw⟩ := ht i d hd
    refine ⟨is, ρt, true, ρt, his, hb, fun _ _ _ _ _ => hts_nil, fun _ => ⟨f d, ρ2, he, ?_, hw⟩, fun z => by cases z⟩
    rw [List.take_add_one, hd, List.map_append]
    rfl
theorem cmp_filter {f : D → D} {g : D → Bool} {c : Expr} (hsh : ∀ j ∈ own.map (·.2), ∀ s : Sl, ρ0[j]? = some (some s) → s.own = false) (hbig : ds.length < 100000) (is : List Nat) (his : ∀ j ∈ is, j ∈ own.map (·.2))
    (ht : ∀ (i : Nat) (d : D), ds[i]? = some d → ∃ ρt, (∀ s H C cl fp, HB (Bk X scope s H C cl fp) tg is d (wr ρ0 (own.map (·.2))) ρt) ∧ wr ρt (own.map (·.2)) = wr ρ0 (own.map (·.2)) ∧ (∀ s H C cl fp, HT (Bk X scope s H C cl fp) c ρt (g d) ρt) ∧ (g d = true → ∀ s H C cl fp, HE (Bk X scope s H C cl fp) elt ρt (.sh (f d)) ρt)) :
    Cmp X tg [c] elt scope (own.map (·.2)) ds ρ0 (fun _ => ρ0) (fun i => ((ds.take i).filter g).map f) where
  r0 := rfl
  a0 := rfl
  len := fun _ _ => rfl
  keep := fun _ _ _ _ => rfl
  sh := hsh
  big := fun i hi => by
    rw [List.length_map]
    have := List.length_filter_le g (ds.take i)
    rw [List.length_take] at this
    omega
  turn := fun i d hd => by
    obtain ⟨ρt, hb, hw, hc, he⟩ := ht i d hd
    refine ⟨is, ρt, g d, ρt, his, hb, fun s H C cl fp => hts_one (hc s H C cl fp), fun z => ⟨f d, ρt, he z, ?_, hw⟩, fun z => ⟨?_, hw⟩⟩
    · rw [List.take_add_one, hd, List.filter_append, List.map_append]
      simp [z]
    · rw [List.take_add_one, hd, List.filter_append, List.map_append]
      simp [z]
end
section
variable {X : Cx} {sts : List Stmt} {ρ ρ' : Rh} {r : Sl}
theorem hf_ret (h : HS X sts ρ (.rt r ρ')) : HF X sts ρ r := .inl ⟨ρ', h⟩
theorem hf_none (h : HS X sts ρ (.nx ρ')) : HF X sts ρ (.sh .non) := .inr ⟨rfl, ρ', h⟩
end
end PL
set_option Elab.async false
set_option linter.all false
set_option maxRecDepth 100000
namespace PL
open PySem L2
section
variable {X : Cx} {ρ ρ' ρ0 ρ1 ρ2 ρ3 : Rh} {s s1 s2 : Sl} {d d1 d2 : D} {e a b c o : Expr} {es : List Expr} {pos p q apos cpos : Pos} {x f m : Str} {ds : List D} {ss : List Sl} {k : Nat} {r : Sl}
theorem hg_neg {i : Int} (h : HG X a ρ (.sh (.int i))) : HG X (.UnaryOp .USub a pos) ρ (.sh (.int (-i))) := fun F G H σ Q ok k =>
  ⟨_, pe_un un_neg pe_we, h F G H σ _ ok fun v r => ⟨i, int_of r, k _ (rep_fl rfl)⟩⟩
/-! ### isinstance -/
def D.ty : D → Option String
  | .non => some "NoneType"
  | .bl _ => some "bool"
  | .int _ => some "int"
  | .str _ => some "str"
  | .tup _ => some "tuple"
  | .ktup _ => some "tuple"
  | .lst _ => some "list"
  | .dct _ => some "dict"
  | _ => none
theorem tyx {K : PySem.W.Frag} {H : Hp} {v : V} {t : String} (h : Rep K (strip H) d v) (ht : d.ty = some t) : TyX K H v (.type t) := by
  cases d with
  | non => cases ht; simp only [Rep] at h; subst h; exact .base .non
  | bl x => cases ht; simp only [Rep] at h; subst h; exact .base (.bl _)
  | int x => cases ht; simp only [Rep] at h; subst h; exact .base (.int _)
  | str x => cases ht; simp only [Rep] at h; subst h; exact .base (.str _)
  | ad x => cases ht
  | obj _ _ => cases ht
  | tup l =>
    cases ht
    simp only [Rep] at h
    obtain ⟨p, vs, rfl, q, _⟩ := h
    rcases q with (q | ⟨o, q⟩) | (q | ⟨o, q⟩) | ⟨o, its, n, e, c, _⟩
    · rcases strip_sub _ _ q with q | ⟨⟨o, q⟩, _⟩
      · exact .base (.tup q)
      · exact .fTuple q
    · exact .fTuple (strip_sub.frz q)
    · cases q
    · cases q
    · exact .kTuple e c
  | ktup l =>
    cases ht
    simp only [Rep] at h
    obtain ⟨p, o, vs, rfl, q, _⟩ := h
    exact .fTuple (strip_sub.frz q)
  | lst l =>
    cases ht
    simp only [Rep] at h
    obtain ⟨p, vs, rfl, q, _⟩ := h
    rcases strip_sub _ _ q with q | ⟨⟨o, q⟩, _⟩
    · exact .base (.lst q)
    · exact .base (.frz q)
  | klst l => cases ht
  | gtup _ => cases ht
  | dtt _ => cases ht
  | dct l =>
    cases ht
    simp only [Rep] at h
    obtain ⟨p, vs, rfl, q, _⟩ := h
    rcases strip_sub _ _ q with q | ⟨⟨o, q⟩, _⟩
    · exact .base (.dK q)
    · exact .fDict q
theorem hg_isi {t T : String} {bb : Bool} {y : Str} (ha : HG X a ρ s) (ht : s.data.ty = some t) (hb : kitB t T = some bb) (hv : bootBuiltins y = some (.type T)) (hmi : X.mg "isinstance" = none) (hmy : X.mg y = none) (hg : Gl X "isinstance" := by rfl) (hgy : Gl X y := by rfl)
    (hn : y ≠ "__name__" := by decide) (hd : (y == ("__debug__" : Str)) = false := by decide)
    (h1 : starEach [a, .Name y q] X.env = (false, eval a X.env) :: starEach [.Name y q] X.env := by rfl) (h2 : starEach [.Name y q] X.env = (false, eval (.Name y q) X.env) :: starEach [] X.env := by rfl) (hpl : (backTo pos (starEach [.Name y q] X.env)).any (·.1) = false := by rfl) :
    HG X (.Call (.Name "isinstance" p) [a, .Name y q] [] pos) ρ (.sh (.bl bb)) := fun F G H σ Q ok k =>
  ⟨_, pe_callB call_isi hg hmi PyProof.Rows.boot_isinstance (pa_cons pe_we (pa_cons (pe_bltn (v := .ty T) hgy hmy hv rfl hn hd) pa_nil h2) h1) (by decide) (by decide) h1 hpl, ha F G H σ _ ok fun v r =>
    ⟨v, .ty T, .type t, .type T, bb, rfl, .ty T, tyx (r.rep ok.toHk) ht, kit_ty hb, k _ (rep_fl rfl)⟩⟩
/-- isinstance(x, (T1, T2)) -/
theorem he_isi2 {t T T' : String} {bb : Bool} {y z : Str} {q2 q3 : Pos} {x1} (ha : HG X a ρ s) (ht : s.data.ty = some t) (hb : PySem.W.kitAny X.K (.type t) [.type T, .type T'] = some bb) (hv : bootBuiltins y = some (.type T)) (hv' : bootBuiltins z = some (.type T')) (hmi : X.mg "isinstance" = none) (hmy : X.mg y = none) (hmz : X.mg z = none) (hg : Gl X "isinstance" := by rfl) (hgy : Gl X y := by rfl) (hgz : Gl X z := by rfl)
    (hn : y ≠ "__name__" := by decide) (hd : (y == ("__debug__" : Str)) = false := by decide) (hn' : z ≠ "__name__" := by decide) (hd' : (z == ("__debug__" : Str)) = false := by decide)
    (h1 : starEach [a, .Tuple [.Name y q, .Name z q2] x1 q3] X.env = (false, eval a X.env) :: starEach [.Tuple [.Name y q, .Name z q2] x1 q3] X.env := by rfl)
    (h2 : starEach [.Tuple [.Name y q, .Name z q2] x1 q3] X.env = (false, eval (.Tuple [.Name y q, .Name z q2] x1 q3) X.env) :: starEach [] X.env := by rfl)
    (h3 : starEach [.Name y q, .Name z q2] X.env = (false, eval (.Name y q) X.env) :: starEach [.Name z q2] X.env := by rfl) (h4 : starEach [.Name z q2] X.env = (false, eval (.Name z q2) X.env) :: starEach [] X.env := by rfl)
    (hpl : (backTo pos (starEach [.Tuple [.Name y q, .Name z q2] x1 q3] X.env)).any (·.1) = false := by rfl) :
    HE X (.Call (.Name "isinstance" p) [a, .Tuple [.Name y q, .Name z q2] x1 q3] [] pos) ρ (.sh (.bl bb)) ρ := fun F G H σ Q ok k =>
  ⟨_, pe_callB call_isiT hg hmi PyProof.Rows.boot_isinstance (pa_cons pe_we (pa_cons (pe_tup (pa_cons (pe_bltn (v := .ty T) hgy hmy hv rfl hn hd) (pa_cons (pe_bltn (v := .ty T') hgz hmz hv' rfl hn' hd') pa_nil h4) h3)) pa_nil h2) h1) (by decide) (by decide) h1 hpl, ha F G H σ _ ok fun v r =>
    ⟨by show 2 ≤ sizeLine; decide, fun t2 hp => by
      have ok2 := ok.new hp (o := .tup [.ty T, .ty T']) fun _ _ z => HO.noConfusion z
      obtain ⟨fb, fg, fa⟩ := ok.free hp
      have r2 : SlOk X.K F G (upd H t2 (.tup [.ty T, .ty T'])) s v := r.move (Ex.refl _) fun oo a ea => by
        obtain ⟨a', u, ev, _, g', h', _⟩ := own_ref r oo
        rw [ea] at ev
        cases ev
        exact ⟨g', by rw [upd_ne (ne_of_none h' hp)]⟩
      exact ⟨v, t2, _, .type t, [.type T, .type T'], bb, rfl, upd_same, .cons (.ty T) (.cons (.ty T') .nil), tyx (r2.rep ok2.toHk) ht, hb, k _ G _ (Ex.refl _) ok2 ⟨rep_fl rfl, fun z => by cases z⟩⟩⟩⟩
/-! ### new lists, tuples, dicts -/
/-- list(x) of a list, a tuple -/
theorem he_list (ha : HG X a ρ s) (hi : s.items = some ds) (hm : X.mg "list" = none) (hg : Gl X "list" := by rfl) (hst : starEach [a] X.env = (false, eval a X.env) :: starEach [] X.env := by rfl) (hpl : (backTo pos (starEach [] X.env)).any (·.1) = false := by rfl) :
    HE X (.Call (.Name "list" p) [a] [] pos) ρ (.ol ds) ρ := fun F G H σ Q ok k =>
  ⟨_, pe_callTy call_list_of hg hm PyProof.Rows.boot_list (pa_cons pe_we pa_nil hst) (by decide) (by decide) hst hpl, ha F G H σ _ ok fun v r => by
    obtain ⟨a, vs, rfl, q, rl⟩ := r.items ok.toHk hi
    refine ⟨a, vs, rfl, q, fun l n => ?_⟩
    obtain ⟨o1, o2⟩ := res_ol ok n rl
    exact k _ _ _ (Ex.refl _) o1 o2⟩
theorem he_listE (ha : HE X a ρ (.sh d) ρ1) (hi : (Sl.sh d).items = some ds) (hm : X.mg "list" = none) (hg : Gl X "list" := by rfl) (hst : starEach [a] X.env = (false, eval a X.env) :: starEach [] X.env := by rfl) (hpl : (backTo pos (starEach [] X.env)).any (·.1) = false := by rfl) :
    HE X (.Call (.Name "list" p) [a] [] pos) ρ (.ol ds) ρ1 := fun F G H σ Q ok k =>
  ⟨_, pe_callTy call_list_of hg hm PyProof.Rows.boot_list (pa_cons pe_we pa_nil hst) (by decide) (by decide) hst hpl, ha F G H σ _ ok fun v G1 H1 e1 ok1 r => by
    obtain ⟨a, vs, rfl, q, rl⟩ := r.ok.items ok1.toHk hi
    refine ⟨a, vs, rfl, q, fun l n => ?_⟩
    obtain ⟨o1, o2⟩ := res_ol ok1 n rl
    exact k _ _ _ e1 o1 o2⟩
theorem repL_keys : ∀ {ks : List (Key × D)} {vs : List (Key × V)} {K : PySem.W.Frag} {G : Hp}, RepK K G ks vs → RepL K G (keysD ks) (vs.map fun kv => kV kv.1)
  | [], vs, K, G, h => by rw [repK_nil h]; exact repL_mk0
  | (kk, d) :: ks, vs, K, G, h => by
    obtain ⟨v, r, rfl, h1, h2⟩ := repK_cons h
    exact repL_mk (rep_fl (kD_fl kk)) (repL_keys h2)
/-- list(d) of a dict -/
theorem he_listD {ks : List (Key × D)} (ha : HG X a ρ s) (hi : s.pairs = some ks) (hm : X.mg "list" = none) (hg : Gl X "list" := by rfl) (hc : X.calm = true := by rfl) (hst : starEach [a] X.env = (false, eval a X.env) :: starEach [] X.env := by rfl) (hpl : (backTo pos (starEach [] X.env)).any (·.1) = false := by rfl) :
    HE X (.Call (.Name "list" p) [a] [] pos) ρ (.ol (keysD ks)) ρ := fun F G H σ Q ok k =>
  ⟨_, pe_callTy (call_listD hc) hg hm PyProof.Rows.boot_list (pa_cons pe_we pa_nil hst) (by decide) (by decide) hst hpl, ha F G H σ _ ok fun v r => by
    obtain ⟨a, vs, rfl, q, rl⟩ := r.pairs ok.toHk hi
    refine ⟨a, vs, rfl, q, fun l n => ?_⟩
    obtain ⟨o1, o2⟩ := res_ol ok n (repL_keys rl)
    exact k _ _ _ (Ex.refl _) o1 o2⟩
/-- dict(d): a copy -/
theorem he_dictD {ks : List (Key × D)} (ha : HG X a ρ s) (hi : s.pairs = some ks) (hm : X.mg "dict" = none) (hg : Gl X "dict" := by rfl) (hst : starEach [a] X.env = (false, eval a X.env) :: starEach [] X.env := by rfl) (hpl : (backTo pos (starEach [] X.env)).any (·.1) = false := by rfl) :
    HE X (.Call (.Name "dict" p) [a] [] pos) ρ (.od ks) ρ := fun F G H σ Q ok k =>
  ⟨_, pe_callTy call_dictD hg hm PyProof.Rows.boot_dict (pa_cons pe_we pa_nil hst) (by decide) (by decide) hst hpl, ha F G H σ _ ok fun v r => by
    obtain ⟨a, vs, rfl, q, rl⟩ := r.pairs ok.toHk hi
    refine ⟨a, vs, rfl, q, fun l n => ?_⟩
    obtain ⟨o1, o2⟩ := res_od ok n rl
    exact k _ _ _ (Ex.refl _) o1 o2⟩
/-- tuple(x) of a new list -/
theorem he_tuple (ha : HE X a ρ (.sh d) ρ1) (hd : d = .lst ds ∨ d = .tup ds) (hm : X.mg "tuple" = none) (hg : Gl X "tuple" := by rfl) (hst : starEach [a] X.env = (false, eval a X.env) :: starEach [] X.env := by rfl) (hpl : (backTo pos (starEach [] X.env)).any (·.1) = false := by rfl) :
    HE X (.Call (.Name "tuple" p) [a] [] pos) ρ (.sh (.tup ds)) ρ1 := fun F G H σ Q ok k =>
  ⟨_, pe_callTy call_tuple_of hg hm PyProof.Rows.boot_tuple (pa_cons pe_we pa_nil hst) (by decide) (by decide) hst hpl, ha F G H σ _ ok fun v G1 H1 e1 ok1 r => by
    rcases hd with rfl | rfl
    · obtain ⟨a, vs, rfl, q, rl⟩ := rep_lst ok1.sub r.ok
      refine ⟨a, vs, rfl, .inl ⟨q, fun l n => ?_⟩⟩
      obtain ⟨o1, o2, o3⟩ := res_tup ok1 n rl
      exact k _ _ _ (e1.trans o3) o1 o2
    · obtain ⟨a, vs, rfl, q, rl⟩ := rep_tup ok1.sub r.ok
      exact ⟨a, vs, rfl, .inr ⟨q, k _ _ _ e1 ok1 r⟩⟩⟩
/-- xs + ys of lists -/
def rCatR : R2 := fun x y H Q => ∃ l b xs zs, x = .ref l ∧ y = .ref b ∧ Rd H l (.lst xs) ∧ Rd H b (.lst zs) ∧ xs.length + zs.length ≤ sizeLine ∧ ∀ p, H p = none → Q (.ref p) (upd H p (.lst (xs ++ zs)))
theorem op_catR : OpR X (binaryOp .Add) rCatR := by
  intro pins s σ H x y v u Q I rx ry h
  obtain ⟨l, b, xs, zs, rfl, rfl, hH, hB, hz, q⟩ := h
  cases rx
  cases ry
  obtain ⟨z, its, n, r, e⟩ := (show ObjOk X.prog X.w H s.heap l (.lst xs) from hH.ok I.hok)
  obtain ⟨z2, its2, n2, r2, e2⟩ := (show ObjOk X.prog X.w H s.heap b (.lst zs) from hB.ok I.hok)
  have hl := r.length
  have hl2 := r2.length
  refine PySem.P.add_list e e2 ?_ (by rw [List.size_toArray, List.size_toArray]; omega)
  have ea : its.toArray ++ its2.toArray = (its ++ its2).toArray := by simp
  rw [ea]
  exact ⟨.ref _, _, I.lnew (t' := s.toks) (r.append r2) (by rw [List.length_append]; omega), rfl, q _ I.fresh⟩
theorem he_cat {es' : List D} (ha : HE X a ρ (.sh (.lst ds)) ρ1) (hb : HE X b ρ1 (.sh (.lst es')) ρ2) (hz : ds.length + es'.length ≤ 100000) : HE X (.BinOp a .Add b pos) ρ (.ol (ds ++ es')) ρ2 := fun F G H σ Q ok k =>
  ⟨_, pe_op op_catR pe_we pe_we, ha F G H σ _ ok fun v G1 H1 e1 ok1 r1 => hb F G1 H1 σ _ ok1 fun w G2 H2 e2 ok2 r2 => by
    have r1' := Rep.mono e2 r1.ok
    have r2' : Rep X.K G2 (.lst es') w := r2.ok
    simp only [Rep] at r1' r2'
    obtain ⟨a, vs, rfl, q, rl⟩ := r1'
    obtain ⟨b, ws, rfl, q', rl'⟩ := r2'
    refine ⟨a, b, vs, ws, rfl, rfl, ok2.sub.rd q, ok2.sub.rd q', ln_ok (by rw [repL_len rl, repL_len rl']; exact hz), fun p n => ?_⟩
    obtain ⟨o1, o2⟩ := res_ol ok2 n (repL_append rl rl')
    exact k _ _ _ (e1.trans e2) o1 o2⟩

/-! ### over a text -/
def lettersD (z : Str) : List D := z.cps.toList.map fun ch => .str ⟨#[ch]⟩
theorem wk_str {K : PySem.W.Frag} {F : Fr} {z : Str} : Wk K F (Its z) (lettersD z) where
  go := fun i F' G H σ ρ le hi ok => by simpa [lettersD, Its] using hi
  st := fun F' G H σ ρ le ok => by simp [lettersD, Its]
  yl := fun i F' G H σ ρ x H' le hi ok y => by
    obtain ⟨rfl, ch, h1, rfl⟩ := y
    refine ⟨.str ⟨#[ch]⟩, G, ?_, Ex.refl _, ok, rep_fl rfl⟩
    rw [← Array.getElem?_toList] at h1
    simp [lettersD, h1]
theorem hi_str {z : Str} {tg : Expr} (h : HE X e ρ (.sh (.str z)) ρ') : HI X tg e ρ (lettersD z) ρ' := fun F G H σ R ok k =>
  ⟨_, pi_str pe_we, h F G H σ _ ok fun v G1 H1 e1 ok1 r => ⟨z, fl_rep (d := .str z) rfl (show Rep X.K G1 (.str z) v from r.ok), k _ _ G1 H1 e1 ok1.into rfl wk_str (exit_into ok1)⟩⟩
/-! ### comprehensions in short -/
def noOwn (ρ : Rh) (vs : List Nat) : Bool := vs.all fun j => match ρ[j]? with
  | some (some s) => !s.own
  | _ => true
theorem noOwn_sh {vs : List Nat} (h : noOwn ρ vs = true) : ∀ j ∈ vs, ∀ s : Sl, ρ[j]? = some (some s) → s.own = false := fun j hj s e => by
  have := List.all_eq_true.mp h j hj
  rw [e] at this
  simpa using this
theorem he_map {f : D → D} {tg iter elt : Expr} {scope : Scope} (own : List (Str × Nat)) (is : List Nat) (hi : HI X tg iter ρ ds ρ0) (hN : X.N.Nodup) (ok : BlkOk X.N X.env.scope scope own) (hbig : ds.length < 100000)
    (ht : ∀ (i : Nat) (d : D), ds[i]? = some d → ∃ ρt, (∀ s H C cl fp, HB (Bk X scope s H C cl fp) tg is d (wr ρ0 (own.map (·.2))) ρt) ∧ ∃ ρ2, (∀ s H C cl fp, HE (Bk X scope s H C cl fp) elt ρt (.sh (f d)) ρ2) ∧ wr ρ2 (own.map (·.2)) = wr ρ0 (own.map (·.2)))
    (hsh : noOwn ρ0 (own.map (·.2)) = true := by rfl) (his : ∀ j ∈ is, j ∈ own.map (·.2) := by decide) (hc : X.calm = true := by rfl) (hs : ∀ x, foldedSetIterable iter X.env x = pure x := by intro _; rfl) :
    HE X (.ListComp elt [⟨tg, iter, [], 0⟩] scope pos) ρ (.ol (ds.map f)) ρ0 := by
  have h := he_lc (pos := pos) own hi (cmp_map (f := f) (noOwn_sh hsh) hbig is his ht) hN ok hc hs
  simp only [List.take_length] at h
  exact h
theorem he_filter {f : D → D} {g : D → Bool} {tg iter elt : Expr} {scope : Scope} (own : List (Str × Nat)) (is : List Nat) (hi : HI X tg iter ρ ds ρ0) (hN : X.N.Nodup) (ok : BlkOk X.N X.env.scope scope own) (hbig : ds.length < 100000)
    (ht : ∀ (i : Nat) (d : D), ds[i]? = some d → ∃ ρt, (∀ s H C cl fp, HB (Bk X scope s H C cl fp) tg is d (wr ρ0 (own.map (·.2))) ρt) ∧ wr ρt (own.map (·.2)) = wr ρ0 (own.map (·.2)) ∧ (∀ s H C cl fp, HT (Bk X scope s H C cl fp) c ρt (g d) ρt) ∧ (g d = true → ∀ s H C cl fp, HE (Bk X scope s H C cl fp) elt ρt (.sh (f d)) ρt))
    (hsh : noOwn ρ0 (own.map (·.2)) = true := by rfl) (his : ∀ j ∈ is, j ∈ own.map (·.2) := by decide) (hc : X.calm = true := by rfl) (hs : ∀ x, foldedSetIterable iter X.env x = pure x := by intro _; rfl) :
    HE X (.ListComp elt [⟨tg, iter, [c], 0⟩] scope pos) ρ (.ol ((ds.filter g).map f)) ρ0 := by
  have h := he_lc (pos := pos) own hi (cmp_filter (f := f) (g := g) (noOwn_sh hsh) hbig is his ht) hN ok hc hs
  simp only [List.take_length] at h
  exact h
end
end PL
set_option Elab.async false
set_option linter.all false
set_option maxRecDepth 100000
namespace PL
open PySem L2
section
variable {X : Cx} {i j : Int} {x y : Str} {d1 d2 : D}
theorem op_to {f : Value → Value → Sem Value} {a b c c' : D} (h : OpV X f a b c) (e : c = c') : OpV X f a b c' := e ▸ h
theorem v_eqI : OpV X (compareOp .Eq) (.int i) (.int j) (.bl (decide (i = j))) := op_to (v_eq (v := .int i) (w := .int j) rfl rfl rfl) (by simp)
theorem v_neI : OpV X (compareOp .NotEq) (.int i) (.int j) (.bl (!decide (i = j))) := op_to (v_ne (v := .int i) (w := .int j) rfl rfl rfl) (by simp)
theorem v_eqS : OpV X (compareOp .Eq) (.str x) (.str y) (.bl (decide (x = y))) := op_to (v_eq (v := .str x) (w := .str y) rfl rfl rfl) (by simp)
theorem v_neS : OpV X (compareOp .NotEq) (.str x) (.str y) (.bl (!decide (x = y))) := op_to (v_ne (v := .str x) (w := .str y) rfl rfl rfl) (by simp)
theorem v_eqB {a b : Bool} : OpV X (compareOp .Eq) (.bl a) (.bl b) (.bl (decide (a = b))) := op_to (v_eq (v := .bl a) (w := .bl b) rfl rfl rfl) (by simp)
theorem v_neB {a b : Bool} : OpV X (compareOp .NotEq) (.bl a) (.bl b) (.bl (!decide (a = b))) := op_to (v_ne (v := .bl a) (w := .bl b) rfl rfl rfl) (by simp)
theorem fls_strs : ∀ {xs : List Str}, fls (xs.map D.str) = some (xs.map V.str)
  | [] => rfl
  | x :: xs => by simp only [List.map_cons, fls, D.fl, fls_strs]
theorem fls_ints : ∀ {xs : List Int}, fls (xs.map D.int) = some (xs.map V.int)
  | [] => rfl
  | x :: xs => by simp only [List.map_cons, fls, D.fl, fls_ints]
theorem inV_strs : ∀ {xs : List Str}, inV (.str x) (xs.map V.str) = decide (x ∈ xs)
  | [] => rfl
  | y :: xs => by
    have h : inV (.str x) (xs.map V.str) = decide (x ∈ xs) := inV_strs
    unfold inV at h ⊢
    rw [List.map_cons, List.any_cons, h]
    by_cases z : x = y
    · subst z; simp [eqV]
    · have : eqV (.str y) (.str x) = false := by simp [eqV]; exact fun e => z e.symm
      rw [this]; simp [z]
theorem flat_strs : ∀ {xs : List Str}, (xs.map V.str).all flatV = true
  | [] => rfl
  | x :: xs => by rw [List.map_cons, List.all_cons, flat_strs]; rfl
theorem v_inLS {xs : List Str} : OpV X (compareOp .In) (.str x) (.lst (xs.map D.str)) (.bl (decide (x ∈ xs))) := op_to (v_inL (v := .str x) rfl fls_strs rfl flat_strs) (by rw [inV_strs])
theorem v_inTS {xs : List Str} : OpV X (compareOp .In) (.str x) (.tup (xs.map D.str)) (.bl (decide (x ∈ xs))) := op_to (v_inT (v := .str x) rfl fls_strs rfl flat_strs) (by rw [inV_strs])
theorem v_ninLS {xs : List Str} : OpV X (compareOp .NotIn) (.str x) (.lst (xs.map D.str)) (.bl (!decide (x ∈ xs))) := op_to (v_ninL (v := .str x) rfl fls_strs rfl flat_strs) (by rw [inV_strs])
theorem v_ninTS {xs : List Str} : OpV X (compareOp .NotIn) (.str x) (.tup (xs.map D.str)) (.bl (!decide (x ∈ xs))) := op_to (v_ninT (v := .str x) rfl fls_strs rfl flat_strs) (by rw [inV_strs])
end
/-! ### short words -/
def HR (X : Cx) (sts : List Stmt) (ρ : Rh) (r : Sl) : Prop := ∃ ρ', HS X sts ρ (.rt r ρ')
def HN (X : Cx) (sts : List Stmt) (ρ : Rh) : Prop := ∃ ρ', HS X sts ρ (.nx ρ')
section
variable {X : Cx} {ρ ρ' ρ1 ρ2 : Rh} {s s1 s2 r : Sl} {d d1 d2 : D} {e a b c o : Expr} {es : List Expr} {pos p apos cpos : Pos} {x f m : Str} {ds : List D} {ss : List Sl} {k k' : Nat} {st : Stmt} {sts rest A B : List Stmt} {t u : Bool} {Fn : List D → Sl → Prop} {more : List Expr}
theorem hf_r (h : HR X sts ρ r) : HF X sts ρ r := .inl h
theorem hf_n (h : HN X sts ρ) : HF X sts ρ (.sh .non) := .inr ⟨rfl, h⟩
theorem hr_ret (h : HE X e ρ r ρ') : HR X (.Return (some e) pos :: rest) ρ r := ⟨ρ', hs_stop (hs_ret h) fun _ z => by cases z⟩
theorem hr_retg (h : HG X e ρ (.sh d)) : HR X (.Return (some e) pos :: rest) ρ (.sh d) := hr_ret (he_hg h)
theorem hr_when (hc : HT X c ρ t ρ) (h1 : t = true → HR X A ρ r) (h2 : t = false → HR X rest ρ r) : HR X (.If c A [] pos :: rest) ρ r := by
  cases t with
  | true => obtain ⟨ρ', h⟩ := h1 rfl; exact ⟨ρ', hs_stop (hs_if hc (fun _ => h) fun z => by cases z) fun _ z => by cases z⟩
  | false => obtain ⟨ρ', h⟩ := h2 rfl; exact ⟨ρ', hs_cons (hs_if hc (fun z => by cases z) fun _ => hs_nil) h⟩
theorem hr_else (hc : HT X c ρ t ρ) (h1 : t = true → HR X A ρ r) (h2 : t = false → HR X B ρ r) : HR X (.If c A B pos :: rest) ρ r := by
  cases t with
  | true => obtain ⟨ρ', h⟩ := h1 rfl; exact ⟨ρ', hs_stop (hs_if hc (fun _ => h) fun z => by cases z) fun _ z => by cases z⟩
  | false => obtain ⟨ρ', h⟩ := h2 rfl; exact ⟨ρ', hs_stop (hs_if hc (fun z => by cases z) fun _ => h) fun _ z => by cases z⟩
theorem hr_cons (h : HS1 X st ρ (.nx ρ1)) (hr : HR X rest ρ1 r) : HR X (st :: rest) ρ r := let ⟨ρ', q⟩ := hr; ⟨ρ', hs_cons h q⟩
theorem hn_nil : HN X [] ρ := ⟨ρ, hs_nil⟩
theorem hn_cons (h : HS1 X st ρ (.nx ρ1)) (hr : HN X rest ρ1) : HN X (st :: rest) ρ := let ⟨ρ', q⟩ := hr; ⟨ρ', hs_cons h q⟩
theorem hn_skip (hc : HT X c ρ false ρ) (hr : HN X rest ρ) : HN X (.If c A [] pos :: rest) ρ := hn_cons (hs_if hc (fun z => by cases z) fun _ => hs_nil) hr
theorem hp_and (ha : HE X a ρ (.sh (.bl t)) ρ) (hb : t = true → HE X (.BoolOp .And (b :: more) pos) ρ (.sh (.bl u)) ρ) : HE X (.BoolOp .And (a :: b :: more) pos) ρ (.sh (.bl (t && u))) ρ := he_and ha hb fun _ => rfl
theorem hp_or (ha : HE X a ρ (.sh (.bl t)) ρ) (hb : t = false → HE X (.BoolOp .Or (b :: more) pos) ρ (.sh (.bl u)) ρ) : HE X (.BoolOp .Or (a :: b :: more) pos) ρ (.sh (.bl (t || u))) ρ := he_or ha hb fun _ => rfl
theorem hp_one {oo : BoolOp} (h : HE X a ρ s ρ) : HE X (.BoolOp oo [a] pos) ρ s ρ := he_one h
theorem hp_not (ha : HE X a ρ (.sh (.bl t)) ρ) : HE X (.UnaryOp .Not a pos) ρ (.sh (.bl (!t))) ρ := he_not ha
theorem he_eq {s' : Sl} (h : HE X e ρ s ρ') (q : s = s') : HE X e ρ s' ρ' := q ▸ h
theorem ht_eq (h : HT X e ρ t ρ') (q : t = u) : HT X e ρ u ρ' := q ▸ h
theorem hr_eq {r' : Sl} (h : HR X sts ρ r) (q : r = r') : HR X sts ρ r' := q ▸ h
theorem ht_and (ha : HT X a ρ t ρ) (hb : t = true → HW X (.BoolOp .And (b :: more) pos) ρ u ρ) : HW X (.BoolOp .And (a :: b :: more) pos) ρ (t && u) ρ := hw_and ha hb fun _ => rfl
theorem ht_or (ha : HT X a ρ t ρ) (hb : t = false → HW X (.BoolOp .Or (b :: more) pos) ρ u ρ) : HW X (.BoolOp .Or (a :: b :: more) pos) ρ (t || u) ρ := hw_or ha hb fun _ => rfl
end
/-- the names that the top leaves to the builtins -/
structure Bl (mg : Str → Option Value) : Prop where
  isinstance : mg "isinstance" = none
  int : mg "int" = none
  bool : mg "bool" = none
  str : mg "str" = none
  tuple : mg "tuple" = none
  list : mg "list" = none
  dict : mg "dict" = none
  len : mg "len" = none
  all : mg "all" = none
  sum : mg "sum" = none
  min : mg "min" = none
  max : mg "max" = none
  abs : mg "abs" = none
  range : mg "range" = none
  reversed : mg "reversed" = none
  enumerate : mg "enumerate" = none
  zip : mg "zip" = none
  sorted : mg "sorted" = none
end PL
set_option Elab.async false
set_option linter.all false
set_option maxRecDepth 100000
namespace PL
open PySem L2
section
variable {X : Cx}
theorem ps_setDc {i : Nat} {y : Str} {py : Pos} {kx vx tg iter : Expr} {ifs : List Expr} {scope : Scope} {own : List (Str × Nat)} {pos spos : Pos} {wi : TI} {g : TG} {tt : TT} {tk tv : TE} (hc : X.calm = true) (hN : X.N.Nodup) (hy : X.N[i]? = some y) (hyl : X.env.scope.names.lookup y = some .local)
    (hsw : swapsWith (.DictComp kx vx [⟨tg, iter, ifs, 0⟩] scope pos) (some (.Name y py)) spos.line X.env = pure true) (hi : PI X tg iter wi) (ok : BlkOk X.N X.env.scope scope own)
    (hg : ∀ (s : Shared) (H : Hp) (C : Addr) (cl : List (Str × Addr)) (fp : List Addr), PG (X.blk s H scope (compEnvC scope cl C X.env) fp) tg g) (ht : ∀ (s : Shared) (H : Hp) (C : Addr) (cl : List (Str × Addr)) (fp : List Addr), PTs (X.blk s H scope (compEnvC scope cl C X.env) fp) ifs tt)
    (hk : ∀ (s : Shared) (H : Hp) (C : Addr) (cl : List (Str × Addr)) (fp : List Addr), PE (X.blk s H scope (compEnvC scope cl C X.env) fp) kx tk)
    (he : ∀ (s : Shared) (H : Hp) (C : Addr) (cl : List (Str × Addr)) (fp : List Addr), PE (X.blk s H scope (compEnvC scope cl C X.env) fp) vx tv) (hs : ∀ x, foldedSetIterable iter X.env x = pure x := by intro _; rfl) :
    PS X (.Assign [.Name y py] (.DictComp kx vx [⟨tg, iter, ifs, 0⟩] scope pos) spos) (tAsg (tDc wi g tt tk tv (own.map (·.2))) (gName i)) := by
  refine ⟨fun pins s σ H D I h => ?_⟩
  rw [exec_Assign_Name_used _ _ _ _ hsw]
  refine wpAny_bind (wpAny_standAt (wpAny_bind ?_))
  show wpAny _ X.A (do let _ ← comprehension (.DictComp kx vx [⟨tg, iter, ifs, 0⟩] scope pos) scope X.env (firstIterPos [⟨tg, iter, ifs, 0⟩] pos) newDict false (eval iter X.env) (some (assign (.Name y py) X.env))) _ _ s
  have h : tDc wi g tt tk tv (own.map (·.2)) σ H (fun x H1 => gName i x σ H1 D.nx) := h
  refine wpAny_bind (thn (dc_core (Qf := fun _ s' => SP X pins D .next s') hc hN I hi ok hg ht hk he hs h fun L C s' m H' I' q hn f => ?_) fun _ s' hq => wpAny_pure (wpAny_pure hq))
  show wpAny _ _ (assign (.Name y py) X.env (.ref L)) _ _ _
  refine wpAny_assign_Name (store_ok2 (v := V.ref L) I' hN hy (.inl hyl) rfl (fun s2 I2 ⟨a, sb, ha⟩ => ?_) (.inr hyl))
  obtain ⟨f0, f1, f2, f3, f4, f5⟩ := f
  have haC : C ≠ a := by
    rcases ha with z | z
    · rw [z]; exact f1
    · exact fun e => f4 y a z e.symm
  refine ⟨m, hn.sameBut sb haC, fun h3 sb3 => ?_⟩
  exact ⟨_, H', I2.turned (t' := s2.toks) (fun b o hb e => (sb3.2 b hb).trans e) f0 f1 f3 f4 f5, q⟩
end
section
variable {X : Cx} {ρ ρ' ρ0 ρ1 ρ2 ρ3 : Rh} {s s1 s2 : Sl} {d d1 d2 : D} {tg iter elt kx vx : Expr} {ifs : List Expr} {scope : Scope} {own : List (Str × Nat)} {pos spos py : Pos} {ds : List D} {y : Str}
/-- a dict's comprehension that changes no slot: key kk d, value f d -/
theorem dc_read {kk : D → Key} {f : D → D} {F : Fr} {G H : Hp} {σ : L2.St} {Q : VK} (is : List Nat) (hi : HI X tg iter ρ ds ρ0) (hbig : ds.length < 100000) (hsh : noOwn ρ0 (own.map (·.2)) = true) (his : ∀ j ∈ is, j ∈ own.map (·.2)) (hnd : (ds.map kk).Nodup)
    (ht : ∀ (i : Nat) (d : D), ds[i]? = some d → ∃ ρt, (∀ s H C cl fp, HB (Bk X scope s H C cl fp) tg is d (wr ρ0 (own.map (·.2))) ρt) ∧ (∀ s H C cl fp, HE (Bk X scope s H C cl fp) kx ρt (.sh (kD (kk d))) ρt) ∧ ∃ ρ2, (∀ s H C cl fp, HE (Bk X scope s H C cl fp) vx ρt (.sh (f d)) ρ2) ∧ wr ρ2 (own.map (·.2)) = wr ρ0 (own.map (·.2)))
    (ok : Ok X.K F G H σ ρ) (kn : ∀ v G' H', Ex G G' → Ok X.K F G' H' σ ρ0 → Res X.K F G' H' σ ρ0 (.od (ds.map fun d => (kk d, f d))) v → Q v H') :
    tDc (WI X tg iter) (fun v σ H Q => ∀ s H0 C cl fp, WG (Bk X scope s H0 C cl fp) tg v σ H Q) tYes (fun σ H Q => ∀ s H0 C cl fp, WE (Bk X scope s H0 C cl fp) kx σ H Q) (fun σ H Q => ∀ s H0 C cl fp, WE (Bk X scope s H0 C cl fp) vx σ H Q) (own.map (·.2)) σ H (fun v H' => Unl X H' (Q v)) := by
  refine hi F G H σ _ ok fun J F' G1 H1 e1 ok1 hG0 wk ex => fun Dl hD => ?_
  obtain ⟨exio, ex⟩ := ex
  obtain ⟨fb, fg, fa⟩ := ok1.free hD
  refine ⟨fun i m H2 => m = ds.length + 1 - i ∧ i ≤ ds.length ∧ ∃ G2 av, RepK X.K G2 ((ds.take i).map fun d => (kk d, f d)) av ∧ H2 Dl = some (.dK av) ∧ G2 Dl = none ∧ Apart (wipe σ (own.map (·.2))) (wr ρ0 (own.map (·.2))) (.ref Dl) ∧ Ok X.K F' G2 H2 (wipe σ (own.map (·.2))) (wr ρ0 (own.map (·.2))),
    ⟨ds.length + 1, by simp, Nat.zero_le _, G1, [], by simp only [List.take_zero, List.map_nil]; exact repK_mk0, upd_same, fg, apart_wipe fa, ok_wipe (ok1.new hD fun _ _ z => HO.noConfusion z)⟩, ?_⟩
  rintro i m H2 ⟨rfl, hle, G2, av, rav, hDl, gDl, apD, ok2⟩
  by_cases hlt : i < ds.length
  · refine .inr ⟨wk.go i F' G2 H2 _ _ (FrLe.refl _) hlt ok2, fun H3 => ∃ G3 av, RepK X.K G3 ((ds.take (i + 1)).map fun d => (kk d, f d)) av ∧ H3 Dl = some (.dK av) ∧ G3 Dl = none ∧ Apart (wipe σ (own.map (·.2))) (wr ρ0 (own.map (·.2))) (.ref Dl) ∧ Ok X.K F' G3 H3 (wipe σ (own.map (·.2))) (wr ρ0 (own.map (·.2))),
      fun H3 h => ⟨ds.length + 1 - (i + 1), by omega, rfl, hlt, h⟩, fun x H3 y => ?_⟩
    have okg := ok_guard ok2 hDl apD
    have le : FrLe F' ⟨upd F'.B Dl (.dK av), G2, F'.io⟩ := ⟨Ex.new fb, ok2.g0⟩
    obtain ⟨d, G3, hd, e3, ok3, rd⟩ := wk.yl i _ G2 H2 _ _ x H3 le hlt okg y
    obtain ⟨ρt, hb, hkx, ρ2, hvx, hr⟩ := ht i d hd
    intro s0 H0 C0 cl0 fp0
    refine hb s0 H0 C0 cl0 fp0 _ G3 H3 _ x _ ok3 rd fun σ4 ok4 se sl => ?_
    have hw : wipe σ4 (own.map (·.2)) = wipe σ (own.map (·.2)) := wipe_eq se sl his
    refine ⟨hw, ?_⟩
    dsimp only [tYes]
    rw [if_pos rfl]
    intro s1 H01 C1 cl1 fp1
    refine hkx s1 H01 C1 cl1 fp1 _ G3 H3 σ4 _ ok4 fun yk G5 H5 e5 ok5 rk => ?_
    intro s2 H02 C2 cl2 fp2
    refine hvx s2 H02 C2 cl2 fp2 _ G5 H5 σ4 _ ok5 fun z G6 H6 e6 ok6 rz => ?_
    have ok7 := ok_wipe (vs := own.map (·.2)) ok6
    rw [hw, hr] at ok7
    obtain ⟨ok8, h8, g8, a8⟩ := ok_unguard ok7 ok2.toHk fb gDl fun _ _ z => HO.noConfusion z
    have g6 : Ex G2 G6 := (e3.trans e5).trans e6
    have hyk : yk = kV (kk d) := fl_rep (kD_fl _) (show Rep X.K G5 (kD (kk d)) yk from rk.ok)
    have rav6 := RepK.mono g6 rav
    have hnew : valV av (kk d) = none := by
      refine (repK_look rav6).2 ?_
      have : ∀ (l : List D), (l ++ [d]).map kk |>.Nodup → look (l.map fun d => (kk d, f d)) (kk d) = none := by
        intro l
        induction l with
        | nil => intro _; rfl
        | cons a l ih =>
          intro hn
          simp only [List.cons_append, List.map_cons, List.nodup_cons] at hn
          simp only [List.map_cons, look]
          rw [if_neg (fun e => hn.1 (by rw [e]; simp)), ih hn.2]
      refine this _ ?_
      have : (ds.take i ++ [d]) = ds.take (i + 1) := by rw [List.take_add_one, hd]; rfl
      rw [this, List.map_take]
      exact hnd.sublist (List.take_sublist _ _)
    refine ⟨av, kk d, hyk, h8, ln_lt (by rw [repK_len rav, List.length_map, List.length_take]; omega), G6, _, ?_, upd_same, g8, a8, ok_side ok8 fb g8 a8 fun _ _ z => HO.noConfusion z⟩
    rw [putK_new z hnew, List.take_add_one, hd, List.map_append]
    exact repK_append rav6 (repK_mk rz.ok repK_mk0)
  · have e : i = ds.length := by omega
    subst e
    have ok9 : Ok X.K F' G2 H2 σ ρ0 := ok_unwipe ok2 ok1 (by rw [← hG0]; exact ok2.g0) rfl (fun _ _ => rfl) (noOwn_sh hsh)
    have ap9 : Apart σ ρ0 (.ref Dl) := fun j t hj oj ej => by
      by_cases z : j ∈ own.map (·.2)
      · rw [noOwn_sh hsh j z t hj] at oj
        cases oj
      · exact apD j t (by rw [wr_out z]; exact hj) oj (by rw [wipe_out z]; exact ej)
    rw [List.take_length] at rav
    refine .inl ⟨wk.st F' G2 H2 _ _ (FrLe.refl _) ok2, ex G2 H2 σ _ (Q (.ref Dl)) ok9 fun H3 ok3 rr => ?_⟩
    exact kn _ G2 H3 (e1.trans (by rw [← hG0]; exact ok2.g0)) ok3 (rr (.od _) (.ref Dl) ⟨⟨Dl, av, rfl, fb, gDl, hDl, rav⟩, fun _ => ap9⟩)
theorem he_dmap {kk : D → Key} {f : D → D} (own : List (Str × Nat)) (is : List Nat) (hi : HI X tg iter ρ ds ρ0) (hN : X.N.Nodup) (ok : BlkOk X.N X.env.scope scope own) (hbig : ds.length < 100000) (hnd : (ds.map kk).Nodup)
    (ht : ∀ (i : Nat) (d : D), ds[i]? = some d → ∃ ρt, (∀ s H C cl fp, HB (Bk X scope s H C cl fp) tg is d (wr ρ0 (own.map (·.2))) ρt) ∧ (∀ s H C cl fp, HE (Bk X scope s H C cl fp) kx ρt (.sh (kD (kk d))) ρt) ∧ ∃ ρ2, (∀ s H C cl fp, HE (Bk X scope s H C cl fp) vx ρt (.sh (f d)) ρ2) ∧ wr ρ2 (own.map (·.2)) = wr ρ0 (own.map (·.2)))
    (hsh : noOwn ρ0 (own.map (·.2)) = true := by rfl) (his : ∀ j ∈ is, j ∈ own.map (·.2) := by decide) (hc : X.calm = true := by rfl) (hs : ∀ x, foldedSetIterable iter X.env x = pure x := by intro _; rfl) :
    HE X (.DictComp kx vx [⟨tg, iter, [], 0⟩] scope pos) ρ (.od (ds.map fun d => (kk d, f d))) ρ0 := fun F G H σ Q okk kn =>
  ⟨_, pe_unl (pe_dc hc hN pi_wi ok (fun s H C cl fp => ⟨fun pins s' σ H' v u Q I r h => (pg_wg (X := Bk X scope s H C cl fp)).run pins s' σ H' v u Q I r (h s H C cl fp)⟩)
    (fun s H C cl fp => pts_nil) (fun s H C cl fp => ⟨fun pins s' σ H' Q I h => (pe_we (X := Bk X scope s H C cl fp)).run pins s' σ H' Q I (h s H C cl fp)⟩) (fun s H C cl fp => ⟨fun pins s' σ H' Q I h => (pe_we (X := Bk X scope s H C cl fp)).run pins s' σ H' Q I (h s H C cl fp)⟩) hs), dc_read is hi hbig hsh his hnd ht okk kn⟩
theorem hs_setDmap {kk : D → Key} {f : D → D} (i : Nat) (own : List (Str × Nat)) (is : List Nat) (hi : HI X tg iter ρ ds ρ0) (hN : X.N.Nodup) (ok : BlkOk X.N X.env.scope scope own)
    (hsw : swapsWith (.DictComp kx vx [⟨tg, iter, [], 0⟩] scope pos) (some (.Name y py)) spos.line X.env = pure true) (hbig : ds.length < 100000) (hnd : (ds.map kk).Nodup)
    (ht : ∀ (i : Nat) (d : D), ds[i]? = some d → ∃ ρt, (∀ s H C cl fp, HB (Bk X scope s H C cl fp) tg is d (wr ρ0 (own.map (·.2))) ρt) ∧ (∀ s H C cl fp, HE (Bk X scope s H C cl fp) kx ρt (.sh (kD (kk d))) ρt) ∧ ∃ ρ2, (∀ s H C cl fp, HE (Bk X scope s H C cl fp) vx ρt (.sh (f d)) ρ2) ∧ wr ρ2 (own.map (·.2)) = wr ρ0 (own.map (·.2)))
    (hsh : noOwn ρ0 (own.map (·.2)) = true := by rfl) (his : ∀ j ∈ is, j ∈ own.map (·.2) := by decide) (hy : X.N[i]? = some y := by rfl) (hyl : X.env.scope.names.lookup y = some .local := by rfl) (hc : X.calm = true := by rfl) (hs : ∀ x, foldedSetIterable iter X.env x = pure x := by intro _; rfl) :
    HS1 X (.Assign [.Name y py] (.DictComp kx vx [⟨tg, iter, [], 0⟩] scope pos) spos) ρ (.nx (ρ0.set i (some (.od (ds.map fun d => (kk d, f d)))))) := fun F G H σ D okk post =>
  ⟨_, ps_unl (ps_setDc hc hN hy hyl hsw pi_wi ok (fun s H C cl fp => ⟨fun pins s' σ H' v u Q I r h => (pg_wg (X := Bk X scope s H C cl fp)).run pins s' σ H' v u Q I r (h s H C cl fp)⟩)
    (fun s H C cl fp => pts_nil) (fun s H C cl fp => ⟨fun pins s' σ H' Q I h => (pe_we (X := Bk X scope s H C cl fp)).run pins s' σ H' Q I (h s H C cl fp)⟩) (fun s H C cl fp => ⟨fun pins s' σ H' Q I h => (pe_we (X := Bk X scope s H C cl fp)).run pins s' σ H' Q I (h s H C cl fp)⟩) hs),
    dc_read (Q := fun x H1 => D.nx (σ.set i (some x)) H1) is hi hbig hsh his hnd ht okk fun v G' H' e ok' r => post _ G' H' (ok'.put r)⟩
/-! ### reversed -/
theorem wk_revT {K : PySem.W.Frag} {F : Fr} {p : Addr} {vs : List V} (hg : ∀ F' G H σ ρ, FrLe F F' → Ok K F' G H σ ρ → SqT K H p vs) (hr : RepL K F.G0 ds vs) : Wk K F (RT.ItvT K p vs.length) ds.reverse where
  go := fun i F' G H σ ρ le hi ok => by
    have hl := repL_len hr
    rw [List.length_reverse] at hi
    exact ⟨by omega, vs, vs[vs.length - 1 - i]'(by omega), hg _ _ _ _ _ le ok, List.getElem?_eq_getElem (by omega)⟩
  st := fun F' G H σ ρ le ok => by
    have hl := repL_len hr
    show vs.length ≤ ds.reverse.length
    rw [List.length_reverse]; omega
  yl := fun i F' G H σ ρ x H' le hi ok y => by
    have hl := repL_len hr
    rw [List.length_reverse] at hi
    obtain ⟨rfl, y⟩ := y
    obtain ⟨d, h1, h2⟩ := repL_get' hr (y vs (hg _ _ _ _ _ le ok))
    refine ⟨d, G, ?_, Ex.refl _, ok, h2.mono (le.2.trans ok.g0)⟩
    rw [List.getElem?_reverse hi, ← hl]
    exact h1
theorem hi_revT {e : Expr} {p : Pos} (h : HE X e ρ (.sh (.tup ds)) ρ') (hm : X.mg "reversed" = none) (hg : Gl X "reversed" := by rfl) (hs : starEach [e] X.env = (false, eval e X.env) :: starEach [] X.env := by rfl) : HI X tg (.Call (.Name "reversed" p) [e] [] pos) ρ ds.reverse ρ' := fun F G H σ R ok k =>
  ⟨_, RT.pi_revA hg hm pe_we hs, h F G H σ _ ok fun v G1 H1 e1 ok1 r => by
    have rr := r.ok
    simp only [SlOk, Rep] at rr
    obtain ⟨a, vs, rfl, q, rl⟩ := rr
    exact ⟨a, vs, rfl, .inr ⟨q.sq ok1.sub, k _ _ G1 H1 e1 ok1.into rfl (wk_revT (fun F' G H σ ρ le ok => (q.mono (le.2.trans ok.g0)).sq ok.sub) rl) (exit_into ok1)⟩⟩⟩
end
end PL
set_option Elab.async false
set_option linter.all false
set_option maxRecDepth 100000
set_option maxHeartbeats 2000000
namespace PL
open PySem L2
section
variable {X : Cx}
/-! ### d.update(d2) -/
def rUpd : V → List V → Hp → VK → Prop := fun x vs H Q => ∃ d o kvs more, x = .ref d ∧ vs = [.ref o] ∧ H d = some (.dK kvs) ∧ Rd H o (.dK more) ∧ d ≠ o ∧ kvs.length + more.length ≤ sizeLine ∧ Q .non (upd H d (.dK (mergeK kvs more)))
theorem mt_update : MtR X "dict.update" rUpd := by
  intro pins s σ H x vs v us Q I rx rv h
  obtain ⟨d, o, kvs, more, rfl, rfl, hd, ho, hne, hz, q⟩ := h
  cases rx
  obtain ⟨u, rfl, ru⟩ := vals1 rv
  cases ru
  obtain ⟨z1, y1, va, r1, d1⟩ := dk_of I.hok hd
  obtain ⟨z2, y2, vb, r2, d2⟩ := dk_rd I.hok ho
  have l1 := r1.length
  have l2 := r2.length
  refine call_meetsIn PySem.F.slot_dict_update d1.typeIs PySem.F.entry_dict_update (PySem.F.args_dict_update_2 _ _) (meets_dict_update (mixKind X.prog X.w) d o hne y2) ⟨va, vb, d1, d2, by omega, fun h' hd' _ hs' => ?_⟩
  refine ⟨.non, _, d_write (t' := s.toks) I (by rw [hd]; trivial) hs' (let ⟨ob, _, _, e, _⟩ := hd'; ⟨ob, e⟩) (dk_new ?_ y1 (KV.merge r2 r1) hd'), rfl, q⟩
  exact Nat.le_trans (length_mergeK more kvs) hz
/-! ### dict(t) of a known tuple of pairs -/
theorem call_dictT (hcalm : X.calm = true) : CallR X (.type "dict") (fun xs H Q => ∃ (a : Addr) (ob : Obj) (ps : List Addr) (kvs : List (Key × V)), xs = [.ref a] ∧ H a = some (.frz ob (.tup (ps.map V.ref))) ∧ ob.dict = none ∧ Paired (fun p kv => SqT X.K H p [kV kv.1, kv.2]) ps kvs ∧
    ∀ p, H p = none → Q (.ref p) (upd H p (.dK (mergeK [] kvs)))) := by
  intro pins s σ H xs us Q I r q
  obtain ⟨a, ob, ps, kvs, rfl, hq, hdn, hp, q⟩ := q
  obtain ⟨u, rfl, rx⟩ := vals1 r
  cases rx
  obtain ⟨ho, hz, its, rv, o2, ho2, hc, n, hdat⟩ := (show ObjOk X.prog X.w H s.heap a (.frz ob (.tup (ps.map V.ref))) from I.hok a _ hq)
  rw [ho] at ho2
  cases ho2
  have ei := refs_at rv
  subst ei
  rw [List.length_map] at hz
  obtain ⟨prs, rel, hl, hpr⟩ := pairs_of I hp
  have hb : ∀ j, j < ps.length → ∃ (u : Value) (q' : Key × Value), prs[j]? = some q' ∧ PyProof.Rows.IsTup s.heap (ps.getD j 0) #[u, q'.2] ∧ keyIs q'.1 u = true := fun j hj => by
    have hj' : j < prs.length := by omega
    obtain ⟨b, u, e1, e2, e3⟩ := hpr j prs[j] (List.getElem?_eq_getElem hj')
    have : ps.getD j 0 = b := by rw [List.getD_eq_getElem?_getD, e1]; rfl
    exact ⟨u, prs[j], List.getElem?_eq_getElem hj', by rw [this]; exact e2, e3⟩
  let us : List (Value × Value) := (List.range ps.length).map fun j => if h : j < ps.length then ((hb j h).choose, (hb j h).choose_spec.choose.2) else (.none, .none)
  have hus : us.length = ps.length := by simp [us]
  have huj : ∀ j k v, us[j]? = some (k, v) → ∃ q', prs[j]? = some q' ∧ v = q'.2 ∧ PyProof.Rows.IsTup s.heap (ps.getD j 0) #[k, v] ∧ keyIs q'.1 k = true := fun j k v e => by
    have hj : j < ps.length := by rw [← hus]; exact (List.getElem?_eq_some_iff.mp e).1
    have e' : us[j]? = some ((hb j hj).choose, (hb j hj).choose_spec.choose.2) := by simp [us, hj]
    rw [e'] at e
    obtain ⟨rfl, rfl⟩ := Prod.mk.inj (Option.some.inj e)
    obtain ⟨s1, s2, s3⟩ := (hb j hj).choose_spec.choose_spec
    exact ⟨_, s1, rfl, s2, s3⟩
  have P := PySem.PairArg.tuple (prog := X.prog) (w := X.w) a (ps.map Value.ref).toArray (fun j => ps.getD j 0) us
  refine PySem.call_dict_pairs (knd := mixKind X.prog X.w) (kvs := prs) P (I.ok.hd hcalm) ⟨⟨ob, n, ho, hc, hdn, hdat⟩, ⟨by simp [hus], fun j k v e => ?_⟩⟩ ⟨by rw [hl, hus], fun j k v e => ?_⟩ (by rw [hus]; exact hz) fun h' tk hd' k => ?_
  · obtain ⟨q', _, _, h2, _⟩ := huj j k v e
    have hj : j < ps.length := by rw [← hus]; exact (List.getElem?_eq_some_iff.mp e).1
    refine ⟨?_, .inl h2⟩
    simp [hj]
  · obtain ⟨q', e1, e2, h2, h3⟩ := huj j k v e
    exact ⟨q'.1, by rw [e1, e2], h3⟩
  · have hm : (s.heap.objs.size == sysModules) = false := beq_eq_false_iff_ne.mpr (Nat.ne_of_gt I.big)
    have hlen : (mergeK [] kvs).length ≤ sizeLine := by
      refine Nat.le_trans (length_mergeK kvs []) ?_
      rw [List.length_nil, Nat.zero_add, rel.length, hl]
      exact hz
    exact ⟨.ref s.heap.objs.size, upd H s.heap.objs.size (.dK (mergeK [] kvs)), I.laid (t' := tk) (fun b o e => k b o (by simp) e) (Nat.le_refl _) (show ObjOk X.prog X.w _ _ _ (.dK (mergeK [] kvs)) from ⟨hlen, hm, merged [] prs, KV.merge rel .nil, hd'⟩), rfl, q _ (I.hok.fresh (Nat.le_refl _))⟩
/-! ### tuple(d.items()): the tuple's object is known -/
theorem items_laid0 {pins : List (Addr × Obj)} {σ : L2.St} {H : Hp} {s : Shared} {h' : Heap} {tk : Nat} {kvs : List (Key × V)} {vs : List (Key × Value)} {as : List Addr} (I : Inv X pins σ H s) (kv : KV kvs vs)
    (hk : ∀ b o, s.heap.get? b = some o → h'.get? b = some o) (hl : as.length = vs.length) (hG : PySem.W.KdxG (mixKind X.prog X.w) vs s.heap.objs.size h' as) :
    ∃ H' : Hp, (∀ b o, H b = some o → H' b = some o) ∧ (∀ t ∈ as, H t = none) ∧ Paired (fun (t : Addr) (q : Key × V) => H' t = some (.tup [kV q.1, q.2])) as kvs ∧ (∀ b, b ∉ as → H' b = H b) ∧ Inv X pins σ H' { s with heap := h', toks := tk } := by
  have lk : kvs.length = vs.length := Paired.length kv
  have nd : as.Nodup := List.Pairwise.imp (fun {a b} (h : a < b) => Nat.ne_of_lt h) hG.rise
  have new : ∀ t ∈ as, H t = none := fun t ht => I.hok.fresh (Nat.le_of_lt (hG.above t ht))
  have atP := LiI.putT_at as kvs H (by omega) nd
  have off : ∀ b, b ∉ as → LiI.putT H as kvs b = H b := fun b h1 => LiI.putT_off as kvs _ h1
  have low : ∀ b o, s.heap.get? b = some o → b ∉ as := fun b o e z => absurd (Heap.lt_size e) (Nat.not_lt.mpr (Nat.le_of_lt (hG.above b z)))
  have kp : ∀ b u, H b = some u → (LiI.putT H as kvs) b = some u := fun b u e => by
    rw [off b (fun z => by rw [new b z] at e; cases e)]
    exact e
  refine ⟨LiI.putT H as kvs, kp, new, atP, off, ?_⟩
  refine I.call' (ch := []) rfl ⟨fun b o q _ _ _ => hk b o q, fun b o q _ _ _ => ⟨o.slots, hk b o q⟩, fun b o q n _ => ?_, fun b o q _ => ⟨o, hk b o q⟩, fun b xs q => kp b _ q, fun b o u q => kp b _ q, fun b ps q => ⟨#[], by rw [kp b _ q]; simp⟩⟩ (fun b u q => ?_) I.bare fun b z => by simp at z
  · rw [off b (low b o q)]
    exact n
  · by_cases hb : b ∈ as
    · obtain ⟨j, pk, e1, e2, e3⟩ := LiI.paired_ix atP hb
      rw [e3] at q
      cases q
      obtain ⟨key, k, x, f1, f2, f3⟩ := hG.pairs j b e1
      obtain ⟨qv, g1, g2, g3⟩ := LiI.paired_get kv e2
      rw [f1] at g1
      cases g1
      have rk : RelV (kV pk.1) key := by
        rw [g2]
        exact relV_key (show keyIs k key = true from f2)
      exact ⟨by show 2 ≤ sizeLine; decide, [key, x], .cons rk (.cons g3 .nil), ⟨_, f3, rfl, _, rfl⟩⟩
    · rw [off b hb] at q
      exact (I.hok b u q).stay (fun d v _ y => hk d v y) (fun d y => kp d _ y) fun d xs y => kp d _ y
section
variable {prog : Program} {w : World} {A : Around} {s : Shared} {E : Value → Shared → Prop} {r d : Addr} {ep : Nat} {kvs : List (Key × Value)} {knd : KeyKind prog w Key}
open RT in
theorem code_tuple_new_items {Q₁ : Value → Shared → Prop} (hh : A.handled = none) (hv : s.heap.IsItemsView r d) (hm : s.heap.DictAt knd d kvs ep) (hn : kvs.length ≤ sizeLine)
    (h : ∀ (h' : Heap) (tk : Nat) (as : List Addr), (∀ b o, s.heap.get? b = some o → h'.get? b = some o) → as.length = kvs.length → PySem.W.KdxG knd kvs s.heap.objs.size h' as →
      Q₁ (.ref h'.objs.size) { s with heap := h'.push { cls := .type "tuple", data := .seq (as.map Value.ref).toArray }, toks := tk }) :
    codeAny (model prog w) A (.call (.builtin "tuple.__new__") ⟨[.type "tuple", .ref r], []⟩) (wants Q₁ E) s := by
  refine codeAny_of_tree ?_
  show wpAny _ A.in1 (do checkBuiltinCall "tuple.__new__" ⟨[.type "tuple", .ref r], []⟩; again (.builtin "tuple.__new__" ⟨[.type "tuple", .ref r], []⟩)) _ _ s
  refine wpAny_bind (wpAny_of_eq (PySem.F.newCall_tuple_1 _) (wpAny_pure ⟨plainId_quiet PySem.F.plain_tuple_new _, codeAny_builtin PySem.F.entry_tuple_new ?_⟩))
  rw [Around.under_plainId PySem.F.plain_tuple_new _]
  have hsub := sub_tuple_self
  have hinit := init_tuple_lookup
  have hmh := madeHere_tuple
  have hTI : s.TypeIs (.ref r) "dict_items" := let ⟨o, ho, hc, _⟩ := hv; ⟨o, ho, hc⟩
  have hh1 : A.in1.handled = none := hh
  wp_walk using wpAny_typeOf hTI, PySem.W.kdx_collect (A := A.in1) hh1 hv hm hn
  intro h' tk as hk hl hG
  show wpAny _ _ (Builtin.Tuple.tupleExact (as.map Value.ref).toArray >>= fun v => ret v) _ _ _
  unfold Builtin.Tuple.tupleExact
  refine wpAny_bind (wpAny_newObj_type ?_ (by show (as.map Value.ref).toArray.size ≤ sizeLine; rw [List.size_toArray, List.length_map, hl]; exact hn))
  exact wpAny_pure (h h' tk as hk hl hG)
open RT in
theorem call_tuple_items {Q : Value → Shared → Prop} (hh : A.handled = none) (hv : s.heap.IsItemsView r d) (hm : s.heap.DictAt knd d kvs ep) (hn : kvs.length ≤ sizeLine)
    (hQ : ∀ (h' : Heap) (tk : Nat) (as : List Addr), (∀ b o, s.heap.get? b = some o → h'.get? b = some o) → as.length = kvs.length → PySem.W.KdxG knd kvs s.heap.objs.size h' as →
      Q (.ref h'.objs.size) { s with heap := h'.push { cls := .type "tuple", data := .seq (as.map Value.ref).toArray }, toks := tk }) :
    wpAny (model prog w) A (call (.type "tuple") [.ref r]) Q E s := by
  refine callType_codes (Q₁ := fun obj s₁ => s₁.TypeIs obj "tuple" ∧ Q obj s₁) PySem.F.called_tuple (PySem.F.typeCall_tuple_1 _) PySem.F.entry_object_init
    (code_tuple_new_items (A := A.in1) hh hv hm hn fun h' tk as hk hl hG => ⟨⟨_, Heap.get?_push_size _ rfl, rfl⟩, hQ h' tk as hk hl hG⟩) fun obj s₁ h₁ => ?_
  exact ⟨h₁.1, PySem.F.args_object_init_2 obj _, object_init_meets PySem.F.called_tuple.init.lookup PySem.F.called_tuple.made (by decide) prog w A.in1 _ s₁ ⟨h₁.1, rfl, h₁.2⟩⟩
end
end
end PL
set_option Elab.async false
set_option linter.all false
set_option maxRecDepth 100000
set_option maxHeartbeats 2000000
namespace PL
open PySem L2
section
variable {X : Cx} {e : Expr} {te : TE} {p apos cpos pos : Pos}
def tTupItems (te : TE) : TE := fun σ H Q => te σ H fun x H1 => ∃ d kvs, x = .ref d ∧ Rd H1 d (.dK kvs) ∧ ∀ (H' : Hp) (q : Addr) (ob : Obj) (ts : List Addr), Ex H1 H' → H1 q = none → (∀ t ∈ ts, H1 t = none) → q ∉ ts → H' q = some (.frz ob (.tup (ts.map V.ref))) → ob.dict = none →
  Paired (fun (t : Addr) (z : Key × V) => H' t = some (.tup [kV z.1, z.2])) ts kvs → (∀ b, b ∉ ts → b ≠ q → H' b = H1 b) → Q (.ref q) H'
theorem pe_tupItems (hc : X.calm = true) (he : PE X e te) (hg : Gl X "tuple") (hm : X.mg "tuple" = none) (hbase : attributeBase e "items" X.env (eval e X.env) = eval e X.env := by rfl) (hline : (apos.endLine == cpos.line) = true := by rfl)
    (hs : starEach [.Call (.Attribute e "items" apos) [] [] cpos] X.env = (false, eval (.Call (.Attribute e "items" apos) [] [] cpos) X.env) :: starEach [] X.env := by rfl) :
    PE X (.Call (.Name "tuple" p) [.Call (.Attribute e "items" apos) [] [] cpos] [] pos) (tTupItems te) := by
  refine ⟨fun pins s σ H Q I hq => ?_⟩
  refine wpAny_Call_Name_kw (ld_blt I hg hm PyProof.Rows.boot_tuple ?_)
  refine PyProof.Rows.callWith_type1 ?_ hs rfl
  rw [hs]
  show wpAny _ _ (spliced ((false, eval (.Call (.Attribute e "items" apos) [] [] cpos) X.env) :: backTo pos (starEach [] X.env))) _ _ s
  refine Calls.spliced_cons ?_
  refine wpAny_Call_method (T := "dict") (id := "dict.items") hbase rfl hline PySem.F.plainAttrs_dict PySem.F.slot_dict_items PySem.F.type_dict_items (thn (he.run pins s σ H _ I hq) fun u s1 ⟨x, H1, I1, rx, d, kvs, ex, hd, q⟩ => ?_)
  subst ex
  obtain rfl : u = Value.ref d := rx
  obtain ⟨hz, hs0, vs, kv, hdo⟩ := dk_rd I1.hok hd
  obtain ⟨ep, hat⟩ := hdo.dictAt
  have lk : kvs.length = vs.length := Paired.length kv
  have I2 : Inv X pins σ H1 { s1 with heap := s1.heap.push { cls := .type "dict_items", data := .fields #[.ref d] } } := I1.kept (t' := s1.toks) fun b ob q => Heap.get?_push_of_some _ q
  refine ⟨hdo.typeIs, hdo.mapOf.noDict, ?_⟩
  show wpAny _ _ (callWith cpos (.builtin "dict.items") [.ref d] [] []) _ X.xe s1
  refine method_meetsIn PySem.F.slot_dict_items PySem.F.entry_dict_items rfl (PySem.evalArgs_none ⟨rfl, hdo.typeIs, PySem.F.args_dict_items_1 _, _, meets_dict_items (mixKind X.prog X.w) d hs0, ⟨vs, hdo⟩, ?_⟩)
  refine Calls.spliced_nil ?_
  refine call_tuple_items (knd := mixKind X.prog X.w) (kvs := vs) (ep := ep) (I1.ok.hd hc) ⟨_, Heap.get?_push_size _ rfl, rfl, rfl⟩ (hat.push _) (by omega) fun h' tk as hk hl hG => ?_
  obtain ⟨H', k1, k3, k6, off, J⟩ := items_laid0 (tk := tk) I2 kv hk hl hG
  have hfr : H' h'.objs.size = none := J.hok.fresh (Nat.le_refl _)
  have hnot : h'.objs.size ∉ as := fun z => by
    obtain ⟨j, pk, e1, e2, e3⟩ := LiI.paired_ix k6 z
    rw [hfr] at e3
    cases e3
  let ob : Obj := { cls := .type "tuple", data := .seq (as.map Value.ref).toArray }
  have I3 := J.laid (a := h'.objs.size) (o := .frz ob (.tup (as.map V.ref))) (t' := tk) (fun b o e => Heap.get?_push_of_some ob e) (Nat.le_refl _)
    ⟨Heap.get?_push_size _ rfl, by rw [List.length_map]; omega, as.map Value.ref, LiI.vals_refs as, ⟨ob, Heap.get?_push_size _ rfl, rfl, _, rfl⟩⟩
  refine ⟨.ref _, upd H' h'.objs.size (.frz ob (.tup (as.map V.ref))), I3, rfl, q _ _ ob as (fun a o e => by rw [upd_ne (ne_of_none (k1 a o e) hfr)]; exact k1 a o e) ?_ k3 hnot upd_same rfl ?_ fun b hb hne => ?_⟩
  · rw [← off _ hnot]
    exact hfr
  · exact Paired.mapP k6 fun t z h => by
      rw [upd_ne (ne_of_none h hfr)]
      exact h
  · rw [upd_ne hne]
    exact off b hb
end
section
variable {K : PySem.W.Frag} {F : Fr} {G H H' : Hp} {σ : L2.St} {ρ : Rh}
theorem ok_many (ok : Ok K F G H σ ρ) (L : List Addr) (e : Ex H H') (hn : ∀ b ∈ L, H b = none) (off : ∀ b, b ∉ L → H' b = H b) (on : ∀ b ∈ L, ∃ o, H' b = some o ∧ ∀ q u, o = .frz q u → ∃ xs, u = .tup xs) :
    Ok K F (fun b => if b ∈ L then H' b else G b) H' σ ρ ∧ Ex G (fun b => if b ∈ L then H' b else G b) := by
  have gnone : ∀ b ∈ L, G b = none := fun b hb => (ok.free (hn b hb)).2.1
  have eg : Ex G (fun b => if b ∈ L then H' b else G b) := fun a o h => by
    show (if a ∈ L then H' a else G a) = some o
    rw [if_neg (fun z => by rw [gnone a z] at h; cases h)]
    exact h
  refine ⟨ok.move ⟨fun a o h => ?_, ok.bh.trans e, ok.g0.trans eg, fun a o h => ?_, fun a o u h => ?_, fun a o u h => ?_⟩ eg fun i s q hi oo hq => ?_, eg⟩
  · have h : (if a ∈ L then H' a else G a) = some o := h
    by_cases z : a ∈ L
    · rw [if_pos z] at h; exact .inl h
    · rw [if_neg z] at h
      exact (ok.sub.ex e) a o h
  · have h : (if a ∈ L then H' a else G a) = some o := h
    by_cases z : a ∈ L
    · exact .inr (ok.free (hn a z)).1
    · rw [if_neg z] at h; exact ok.gn a o h
  · have h : (if a ∈ L then H' a else G a) = some (.frz o u) := h
    by_cases z : a ∈ L
    · rw [if_pos z] at h
      obtain ⟨w, h1, h2⟩ := on a z
      rw [h] at h1
      exact h2 o u (Option.some.inj h1).symm
    · rw [if_neg z] at h; exact ok.nf a o u h
  · by_cases z : a ∈ L
    · obtain ⟨w, h1, h2⟩ := on a z
      rw [h] at h1
      obtain ⟨xs, hx⟩ := h2 o (.dK u) (Option.some.inj h1).symm
      cases hx
    · rw [off a z] at h; exact ok.fz a o u h
  · obtain ⟨v, e1, e2⟩ := ok.sl i s hi
    obtain ⟨q', u, ev, _, g', h', _⟩ := own_ref e2 oo
    rw [e1, ev] at hq
    cases hq
    have z : q ∉ L := fun z => by rw [hn q z] at h'; cases h'
    exact ⟨by show (if q ∈ L then H' q else G q) = none; rw [if_neg z]; exact g', off q z⟩
theorem rep_items : ∀ {ks : List (Key × D)} {kvs : List (Key × V)} {ts : List Addr} {G : Hp}, RepK K G ks kvs → Paired (fun (t : Addr) (z : Key × V) => G t = some (.tup [kV z.1, z.2])) ts kvs → RepL K G (itemsD ks) (ts.map V.ref)
  | [], kvs, ts, G, h, p => by
    rw [repK_nil h] at p
    cases p
    exact repL_mk0
  | (k, d) :: ks, kvs, ts, G, h, p => by
    obtain ⟨v, r, rfl, h1, h2⟩ := repK_cons h
    cases p with
    | cons a b =>
      refine repL_mk ?_ (rep_items h2 b)
      simp only [Rep]
      exact ⟨_, _, rfl, .inl (.inl a), repL_mk (rep_fl (kD_fl k)) (repL_one h1)⟩
end
section
variable {X : Cx} {ρ ρ' ρ0 ρ1 ρ2 ρ3 : Rh} {s s1 s2 : Sl} {d d1 d2 : D} {e a b c o tg : Expr} {es : List Expr} {pos p q apos cpos lpos : Pos} {x f m : Str} {ds ds' : List D} {k : Nat} {r : Sl} {ks ks' : List (Key × D)}
theorem he_tupItems (ha : HG X e ρ s) (hi : s.pairs = some ks) (hm : X.mg "tuple" = none) (hg : Gl X "tuple" := by rfl) (hc : X.calm = true := by rfl) (hbase : attributeBase e "items" X.env (eval e X.env) = eval e X.env := by rfl) (hline : (apos.endLine == cpos.line) = true := by rfl)
    (hs : starEach [.Call (.Attribute e "items" apos) [] [] cpos] X.env = (false, eval (.Call (.Attribute e "items" apos) [] [] cpos) X.env) :: starEach [] X.env := by rfl) :
    HE X (.Call (.Name "tuple" p) [.Call (.Attribute e "items" apos) [] [] cpos] [] pos) ρ (.sh (.ktup (itemsD ks))) ρ := fun F G H σ Q ok kk =>
  ⟨_, pe_tupItems hc pe_we hg hm hbase hline hs, ha F G H σ _ ok fun v r => by
    obtain ⟨d, kvs, rfl, hd, rk⟩ := r.pairs ok.toHk hi
    refine ⟨d, kvs, rfl, hd, fun H' t ob ts ex ht hts hn hT hob hp off => ?_⟩
    obtain ⟨ok2, eg⟩ := ok_many ok (t :: ts) ex (fun b hb => by
        rcases List.mem_cons.mp hb with rfl | hb
        · exact ht
        · exact hts b hb) (fun b hb => off b (fun z => hb (List.mem_cons_of_mem _ z)) fun z => hb (by rw [z]; exact List.mem_cons_self)) (fun b hb => by
        rcases List.mem_cons.mp hb with rfl | hb
        · exact ⟨_, hT, fun q u e => by cases e; exact ⟨_, rfl⟩⟩
        · obtain ⟨j, pk, e1, e2, e3⟩ := LiI.paired_ix hp hb
          exact ⟨_, e3, fun q u e => by cases e⟩)
    refine kk _ _ H' eg ok2 ⟨?_, fun z => by cases z⟩
    simp only [SlOk, Rep]
    refine ⟨t, ob, ts.map V.ref, rfl, ?_, hob, rep_items (rk.mono eg) ?_⟩
    · show (if t ∈ t :: ts then H' t else G t) = _
      rw [if_pos List.mem_cons_self]
      exact hT
    · have : ∀ {l : List Addr} {kv : List (Key × V)}, (∀ t' ∈ l, t' ∈ ts) → Paired (fun (t : Addr) (z : Key × V) => H' t = some (.tup [kV z.1, z.2])) l kv → Paired (fun (t' : Addr) (z : Key × V) => (if t' ∈ t :: ts then H' t' else G t') = some (.tup [kV z.1, z.2])) l kv := by
        intro l
        induction l with
        | nil => intro kv _ h; cases h; exact .nil
        | cons a l ih =>
          intro kv hs h
          cases h with
          | cons h1 h2 => exact .cons (by rw [if_pos (List.mem_cons_of_mem _ (hs a List.mem_cons_self))]; exact h1) (ih (fun t' ht' => hs t' (List.mem_cons_of_mem _ ht')) h2)
      exact this (fun _ z => z) hp⟩
/-- a known tuple is a tuple -/
theorem hg_kt (h : HG X e ρ (.sh (.ktup ds))) : HG X e ρ (.sh (.tup ds)) := fun F G H σ Q ok k => h F G H σ Q ok fun v r => k v (by
  simp only [SlOk, Rep] at r ⊢
  obtain ⟨a, ob, vs, rfl, q, _, r⟩ := r
  exact ⟨a, vs, rfl, .inl (.inr ⟨ob, q⟩), r⟩)
theorem mergeK_nodup : ∀ {more kvs : List (Key × V)}, ((kvs ++ more).map (·.1)).Nodup → mergeK kvs more = kvs ++ more
  | [], kvs, _ => by simp [mergeK]
  | p :: more, kvs, h => by
    have hno : valV kvs p.1 = none := by
      have : p.1 ∉ kvs.map (·.1) := by
        rw [List.map_append, List.map_cons, List.nodup_append] at h
        intro z
        exact (h.2.2 _ z _ (List.mem_cons_self)) rfl
      cases q : valV kvs p.1 with
      | none => rfl
      | some v => exact absurd (valV_in q) this
    show mergeK (putK kvs p.1 p.2) more = _
    rw [putK_new _ hno]
    have e : kvs ++ p :: more = (kvs ++ [(p.1, p.2)]) ++ more := by simp
    rw [mergeK_nodup (by rw [← e]; exact h), ← e]
theorem items_pairs {K : PySem.W.Frag} {G H : Hp} : ∀ {ks : List (Key × D)} {vs : List V}, Sub G H → RepL K G (itemsD ks) vs → ∃ (ps : List Addr) (kvs : List (Key × V)), vs = ps.map V.ref ∧ Paired (fun p (kv : Key × V) => SqT K H p [kV kv.1, kv.2]) ps kvs ∧ RepK K G ks kvs
  | [], vs, s, h => ⟨[], [], repL_nil h, .nil, repK_mk0⟩
  | (k, d) :: ks, vs, s, h => by
    obtain ⟨v, r, rfl, h1, h2⟩ := repL_cons h
    obtain ⟨ps, kvs, rfl, hp, hk⟩ := items_pairs s h2
    obtain ⟨t, ws, rfl, q, rl⟩ := rep_tup s h1
    obtain ⟨y, t1, rfl, r1, r2⟩ := repL_cons rl
    obtain ⟨z, t2, rfl, r2, r3⟩ := repL_cons r2
    rw [repL_nil r3, fl_rep (kD_fl k) r1] at q
    exact ⟨t :: ps, (k, z) :: kvs, rfl, .cons q hp, repK_mk r2 hk⟩
/-- dict(t) of a known tuple of pairs -/
theorem he_dictT (ha : HG X a ρ (.sh (.ktup (itemsD ks)))) (hnd : (ks.map (·.1)).Nodup) (hm : X.mg "dict" = none) (hg : Gl X "dict" := by rfl) (hc : X.calm = true := by rfl) (hst : starEach [a] X.env = (false, eval a X.env) :: starEach [] X.env := by rfl) (hpl : (backTo pos (starEach [] X.env)).any (·.1) = false := by rfl) :
    HE X (.Call (.Name "dict" p) [a] [] pos) ρ (.od ks) ρ := fun F G H σ Q ok k =>
  ⟨_, pe_callTy (call_dictT hc) hg hm PyProof.Rows.boot_dict (pa_cons pe_we pa_nil hst) (by decide) (by decide) hst hpl, ha F G H σ _ ok fun v r => by
    simp only [SlOk, Rep] at r
    obtain ⟨t, ob, vs, rfl, q, hob, rl⟩ := r
    obtain ⟨ps, kvs, rfl, hp, hk⟩ := items_pairs ok.sub rl
    refine ⟨t, ob, ps, kvs, rfl, ok.sub.frz q, hob, hp, fun l n => ?_⟩
    have e : mergeK [] kvs = kvs := by
      rw [mergeK_nodup (by simp only [List.nil_append]; rw [repK_keys hk]; exact hnd)]
      rfl
    rw [e]
    obtain ⟨o1, o2⟩ := res_od ok n hk
    exact k _ _ _ (Ex.refl _) o1 o2⟩
/-- t + u of tuples -/
theorem he_catT (ha : HE X a ρ (.sh (.tup ds)) ρ1) (hb : HE X b ρ1 (.sh (.tup ds')) ρ2) (hz : ds.length + ds'.length ≤ 100000) : HE X (.BinOp a .Add b pos) ρ (.sh (.tup (ds ++ ds'))) ρ2 := fun F G H σ Q ok k =>
  ⟨_, pe_op op_catA pe_we pe_we, ha F G H σ _ ok fun v G1 H1 e1 ok1 r1 => hb F G1 H1 σ _ ok1 fun w G2 H2 e2 ok2 r2 => by
    have q1 : Rep X.K G2 (.tup ds) v := Rep.mono e2 r1.ok
    have q2 : Rep X.K G2 (.tup ds') w := r2.ok
    obtain ⟨a, vs, rfl, s1, l1⟩ := rep_tup ok2.sub q1
    obtain ⟨b, ws, rfl, s2, l2⟩ := rep_tup ok2.sub q2
    refine ⟨a, b, vs, ws, rfl, rfl, s1, s2, ln_ok (by rw [repL_len l1, repL_len l2]; exact hz), fun z => ?_, fun _ z => ?_, fun _ _ p n => ?_⟩
    · have : ds = [] := by have := repL_len l1; rw [z] at this; exact List.length_eq_zero_iff.mp this.symm
      subst this
      exact k _ G2 H2 (e1.trans e2) ok2 ⟨q2, fun z => by cases z⟩
    · have : ds' = [] := by have := repL_len l2; rw [z] at this; exact List.length_eq_zero_iff.mp this.symm
      subst this
      rw [List.append_nil] at k
      exact k _ G2 H2 (e1.trans e2) ok2 ⟨q1, fun z => by cases z⟩
    · obtain ⟨o1, o2, o3⟩ := res_tup ok2 n (repL_append l1 l2)
      exact k _ _ _ ((e1.trans e2).trans o3) o1 o2⟩
def mergeD (ks more : List (Key × D)) : List (Key × D) := more.foldl (fun acc kv => putD acc kv.1 kv.2) ks
theorem repK_merge {K : PySem.W.Frag} {G : Hp} : ∀ {more ks : List (Key × D)} {ms vs : List (Key × V)}, RepK K G ks vs → RepK K G more ms → RepK K G (mergeD ks more) (mergeK vs ms)
  | [], ks, ms, vs, h, r => by rw [repK_nil r]; exact h
  | (k, d) :: more, ks, ms, vs, h, r => by
    obtain ⟨v, t, rfl, h1, h2⟩ := repK_cons r
    show RepK K G (mergeD (putD ks k d) more) (mergeK (putK vs k v) t)
    exact repK_merge (repK_put h h1) h2
/-- d.update(e), d an owned dict's name, e a dict -/
theorem hs_update (i : Nat) (h : HE X e ρ (.sh (.dct ks')) ρ1) (hi : ρ[i]? = some (some (.od ks))) (hi1 : ρ1[i]? = some (some (.od ks))) (hz : ks.length + ks'.length ≤ 100000) (hN : X.N[i]? = some x := by rfl)
    (hv : Vis X.env.scope x := by first | exact Or.inl rfl | exact Or.inr (Or.inl rfl) | exact Or.inr (Or.inr rfl)) (hst : ∀ {ta te : TE}, PE X (.Name x lpos) ta → PA X [e] (tCons te tNil) → PE X (.Call (.Attribute (.Name x lpos) "update" apos) [e] [] cpos) (tBM X.K "dict" rUpd ta (tCons te tNil)) := by
      intro ta te h1 h2; exact pe_bm PySem.F.plainAttrs_dict PySem.F.slot_dict_update PySem.F.type_dict_update mt_update h1 h2)
    (hpa : ∀ {te : TE}, PE X e te → PA X [e] (tCons te tNil) := by intro te h; exact pa_cons h pa_nil) (hd : (x == ("__debug__" : Str)) = false := by decide) (hcd : (x == ("__classdict__" : Str)) = false := by decide)
    (hs : swapsWith (.Call (.Attribute (.Name x lpos) "update" apos) [e] [] cpos) none pos.line X.env = pure false := by rfl) :
    HS1 X (.Expr (.Call (.Attribute (.Name x lpos) "update" apos) [e] [] cpos) pos) ρ (.nx (ρ1.set i (some (.od (mergeD ks ks'))))) := fun F G H σ D ok post => by
  obtain ⟨v, hv1, q0, vs0, rfl, hb0, hg0, hh0, _⟩ := ok.sl i (.od ks) hi
  refine ⟨_, ps_expr (hst (pv i hN hv hd hcd) (hpa pe_we)) hs, .ref q0, hv1, .inr (.inr (.inl ⟨rfl, .inl ⟨_, hh0⟩⟩)), h F G H σ _ ok fun w G1 H1 e1 ok1 rw => ?_⟩
  obtain ⟨v1, hv2, q, vs, eq, hb, hg, hh, rl⟩ := ok1.sl i (.od ks) hi1
  rw [hv1] at hv2
  cases hv2
  cases eq
  obtain ⟨t, ms, rfl, hq, rm⟩ := rep_dct ok1.sub rw.ok
  have hne : q0 ≠ t := fun z => by
    subst z
    have rr := rw.ok
    simp only [SlOk, Rep] at rr
    obtain ⟨a, _, e, q, _⟩ := rr
    cases e
    rw [hg] at q
    cases q
  exact ⟨q0, t, vs, ms, rfl, rfl, hh, hq, hne, ln_ok (by rw [repK_len rl, repK_len rm]; exact hz), post σ G1 _ (ok_chg ok1 hi1 rfl hv1 (fun _ _ z => HO.noConfusion z) ⟨q0, _, rfl, hb, hg, upd_same, repK_merge rl rm⟩)⟩
end
end PL
set_option Elab.async false
set_option linter.all false
set_option maxRecDepth 100000
namespace PL
open PySem L2
/-- what is known of the slots may be forgotten -/
inductive Le : Rh → Rh → Prop where
  | n : Le [] []
  | w {a b : Rh} {x : Option Sl} (h : Le a b) : Le (none :: a) (x :: b)
  | s {a b : Rh} {x : Option Sl} (h : Le a b) : Le (x :: a) (x :: b)
theorem Le.refl : ∀ a : Rh, Le a a
  | [] => .n
  | _ :: a => .s (Le.refl a)
theorem Le.len {a b : Rh} (h : Le a b) : a.length = b.length := by induction h <;> simp [*]
theorem Le.at {a b : Rh} (h : Le a b) : ∀ (i : Nat) (s : Sl), a[i]? = some (some s) → b[i]? = some (some s) := by
  induction h with
  | n => intro i s e; exact e
  | w h ih =>
    intro i s e
    cases i with
    | zero => simp at e
    | succ i => simpa using ih i s (by simpa using e)
  | s h ih =>
    intro i s e
    cases i with
    | zero => simpa using e
    | succ i => simpa using ih i s (by simpa using e)
section
variable {K : PySem.W.Frag} {F : Fr} {G H : Hp} {σ : L2.St} {ρ ρ' ρ1 ρ2 : Rh} {X : Cx} {st : Stmt} {sts : List Stmt} {out : Out} {e : Expr} {s : Sl} {t : Bool} {r : Sl}
theorem Ok.le (ok : Ok K F G H σ ρ) (h : Le ρ' ρ) : Ok K F G H σ ρ' := ⟨ok.toHk, by rw [ok.len, h.len], fun i s e => ok.sl i s (h.at i s e), fun i j s t p e e' => ok.ow i j s t p (h.at i s e) (h.at j t e')⟩
theorem hs1_le (h : HS1 X st ρ (.nx ρ1)) (l : Le ρ2 ρ1) : HS1 X st ρ (.nx ρ2) := fun F G H σ D ok post => h F G H σ D ok fun σ' G' H' ok' => post σ' G' H' (ok'.le l)
theorem hs_le (h : HS X sts ρ (.nx ρ1)) (l : Le ρ2 ρ1) : HS X sts ρ (.nx ρ2) := fun F G H σ D ok post => h F G H σ D ok fun σ' G' H' ok' => post σ' G' H' (ok'.le l)
theorem hsc_le (h : HS X sts ρ (.ct ρ1)) (l : Le ρ2 ρ1) : HS X sts ρ (.ct ρ2) := fun F G H σ D ok post => h F G H σ D ok fun σ' G' H' ok' => post σ' G' H' (ok'.le l)
theorem hs_from (h : HS X sts ρ' out) (l : Le ρ' ρ) : HS X sts ρ out := fun F G H σ D ok post => h F G H σ D (ok.le l) post
theorem hr_from (h : HR X sts ρ' r) (l : Le ρ' ρ) : HR X sts ρ r := let ⟨a, q⟩ := h; ⟨a, hs_from q l⟩
theorem hn_from (h : HN X sts ρ') (l : Le ρ' ρ) : HN X sts ρ := let ⟨a, q⟩ := h; ⟨a, hs_from q l⟩
theorem hs_skip {c : Expr} {A : List Stmt} {pos : Pos} (hc : HT X c ρ false ρ) (hr : HS X sts ρ out) : HS X (.If c A [] pos :: sts) ρ out := hs_cons (hs_if hc (fun z => by cases z) fun _ => hs_nil) hr
theorem hs_one (h : HS1 X st ρ (.nx ρ1)) : HS X [st] ρ (.nx ρ1) := hs_cons h hs_nil
end
end PL
set_option Elab.async false
set_option linter.all false
set_option maxRecDepth 100000
namespace PL
open PySem L2
section
variable {X : Cx} {ρ ρ' ρ1 ρ2 : Rh} {s s1 s2 : Sl} {d d1 d2 : D} {e a b c o : Expr} {es : List Expr} {pos p q apos cpos : Pos} {x f m y : Str} {ds : List D} {ss : List Sl} {k : Nat} {r : Sl}
/-- {k: v} -/
theorem he_dict1 {ky : Key} {kx vx : Expr} (hk : HG X kx ρ (.sh (kD ky))) (hv : HG X vx ρ (.sh d)) : HE X (.Dict [some kx] [vx] pos) ρ (.od [(ky, d)]) ρ := fun F G H σ Q ok kk =>
  ⟨_, pe_disp (pps_cons pe_we pe_we pps_nil) rfl rfl (by simp) (Nat.le_of_ble_eq_true rfl), fun q n => by
    have ok1 := ok.new (o := .dK []) n fun _ _ z => HO.noConfusion z
    refine hk F G _ σ _ ok1 fun u ru => hv F G _ σ _ ok1 fun w rw => ⟨upd_same, [(ky, w)], ?_, Nat.le_of_ble_eq_true rfl, ?_⟩
    · rw [fl_rep (kD_fl ky) (show Rep X.K G (kD ky) u from ru)]
      rfl
    · obtain ⟨h1, h2⟩ := res_od ok n (ks := [(ky, d)]) (vs := [(ky, w)]) (repK_mk (show Rep X.K G d w from rw) repK_mk0)
      have := kk _ G _ (Ex.refl _) h1 h2
      rw [upd_upd]
      exact this⟩
/-- isinstance(x, C), C an own class -/
theorem hg_isC {C : Addr} {fs : List (Str × D)} (ha : HG X a ρ (.sh (.obj C fs))) (ic : C8.InsC X.K C) (hmy : X.mg y = some (.ref C)) (hmi : X.mg "isinstance" = none) (hg : Gl X "isinstance" := by rfl) (hgy : Gl X y := by rfl)
    (hd : (y == ("__debug__" : Str)) = false := by decide)
    (h1 : starEach [a, .Name y q] X.env = (false, eval a X.env) :: starEach [.Name y q] X.env := by rfl) (h2 : starEach [.Name y q] X.env = (false, eval (.Name y q) X.env) :: starEach [] X.env := by rfl) (hpl : (backTo pos (starEach [.Name y q] X.env)).any (·.1) = false := by rfl) :
    HG X (.Call (.Name "isinstance" p) [a, .Name y q] [] pos) ρ (.sh (.bl true)) := fun F G H σ Q ok k =>
  ⟨_, pe_callB (C8.call_isC ic) hg hmi PyProof.Rows.boot_isinstance (pa_cons pe_we (pa_cons (pe_glob (v := .ref C) hgy hmy rfl hd) pa_nil h2) h1) (by decide) (by decide) h1 hpl, ha F G H σ _ ok fun v r => by
    simp only [SlOk, Rep] at r
    obtain ⟨p', dx, vs, rfl, q, _⟩ := r
    exact ⟨p', dx, vs, rfl, ok.sub.ins q, k _ (rep_fl rfl)⟩⟩
end
/-! ### __init__ -/
def spI (K : PySem.W.Frag) (C : Addr) (Fn : List D → List (Str × D) → Prop) : Sp := fun vs H Q _ => ∃ G x dx ws ds fs, vs = .ref x :: ws ∧ Sub G H ∧ Nf G ∧ G x = none ∧ H x = some (.ins C dx []) ∧ RepL K G ds ws ∧ Fn ds fs ∧
  ∀ G' H' vs', Hk ⟨fun a => if a = x then none else H a, G, 0⟩ G' H' → G' x = none → H' x = some (.ins C dx vs') → RepF K G' fs vs' → Q .non H'
def HSI (X : Cx) (C x : Addr) (sts : List Stmt) (ρ : Rh) (fs fs' : List (Str × D)) : Prop := ∀ (F : Fr) (G H : Hp) (σ : L2.St) (D : Ends) (vs : List (Str × V)) (dx : Addr), Ok X.K F G H σ ρ → F.B x = none → G x = none → H x = some (.ins C dx vs) → RepF X.K G fs vs →
  (∀ σ' G' H' vs', Hk F G' H' → G' x = none → H' x = some (.ins C dx vs') → RepF X.K G' fs' vs' → D.nx σ' H') → WSs X sts D σ H
def noOwnR (ρ : Rh) : Bool := ρ.all fun o => match o with
  | some s => !s.own
  | none => true
theorem noOwnR_at {ρ : Rh} (h : noOwnR ρ = true) {i : Nat} {s : Sl} (e : ρ[i]? = some (some s)) : s.own = false := by
  have := List.all_eq_true.mp h _ (List.mem_of_getElem? e)
  simpa using this
section
variable {K : PySem.W.Frag} {F : Fr} {G H G1 H1 : Hp} {σ σ1 : L2.St} {ρ ρ1 : Rh}
theorem ok_at (ok : Ok K F G H σ ρ) (no : noOwnR ρ = true) : Ok K ⟨H, G, 0⟩ G H σ ρ := ⟨Hk.start ok.sub ok.nf 0, ok.len, (fun i s e => by
  obtain ⟨v, h1, h2⟩ := ok.sl i s e
  have := noOwnR_at no e
  cases s with
  | sh d => exact ⟨v, h1, h2⟩
  | ol _ => cases this
  | od _ => cases this
  | ot _ => cases this
  | io _ => cases this), ok.ow⟩
theorem hk_trans (K : PySem.W.Frag) {F : Fr} {G H G1 H1 : Hp} {io : Addr} (hk : Hk F G H) (hk1 : Hk ⟨H, G, io⟩ G1 H1) : Hk F G1 H1 :=
  (Ok.called (K := K) (σ := []) (ρ := []) ⟨hk, rfl, fun i s e => by simp at e, fun i j s t p e => by simp at e⟩ hk1).toHk
theorem ok_back {io : Addr} (hk : Hk F G H) (ok : Ok K ⟨H, G, io⟩ G1 H1 σ ρ) (no : noOwnR ρ = true) : Ok K F G1 H1 σ ρ := ⟨hk_trans K hk ok.toHk, ok.len, (fun i s e => by
  obtain ⟨v, h1, h2⟩ := ok.sl i s e
  have := noOwnR_at no e
  cases s with
  | sh d => exact ⟨v, h1, h2⟩
  | ol _ => cases this
  | od _ => cases this
  | ot _ => cases this
  | io _ => cases this), ok.ow⟩
theorem ok_off {x : Addr} {o : HO} (ok : Ok K F G H σ ρ) (no : noOwnR ρ = true) (bx : F.B x = none) (gx : G x = none) (n : ∀ q u, o ≠ .frz q u) : Ok K F G (upd H x o) σ ρ := by
  have ne : ∀ a u, G a = some u → a ≠ x := fun a u e z => by rw [z, gx] at e; cases e
  refine ⟨⟨fun a u e => ?_, fun a u e => ?_, ok.g0, ok.gn, ok.nf, fun p q u e => ?_⟩, ok.len, fun i s e => ?_, ok.ow⟩
  · rw [upd_ne (ne a u e)]
    exact ok.sub a u e
  · have z : a ≠ x := fun z => by rw [z, bx] at e; cases e
    rw [upd_ne z]
    exact ok.bh a u e
  · by_cases z : p = x
    · subst z
      rw [upd_same] at e
      exact absurd (Option.some.inj e) (n _ _)
    · rw [upd_ne z] at e
      exact ok.fz _ _ _ e
  · obtain ⟨v, h1, h2⟩ := ok.sl i s e
    have := noOwnR_at no e
    cases s with
    | sh d => exact ⟨v, h1, h2⟩
    | ol _ => cases this
    | od _ => cases this
    | ot _ => cases this
    | io _ => cases this
theorem gx_keep {x : Addr} {o : HO} {io : Addr} (hk : Hk ⟨H, G, io⟩ G1 H1) (gx : G x = none) (hx : H x = some o) : G1 x = none := by
  cases e : G1 x with
  | none => rfl
  | some u =>
    rcases hk.gn x u e with q | q
    · rw [show G x = some u from q] at gx; cases gx
    · rw [show H x = none from q] at hx; cases hx
end
def putFD (f : Str) (v : D) : List (Str × D) → List (Str × D)
  | [] => [(f, v)]
  | (g, x) :: r => if g = f then (g, v) :: r else (g, x) :: putFD f v r
theorem repF_put {K : PySem.W.Frag} {G : Hp} {f : Str} {d : D} {y : V} (h : Rep K G d y) : ∀ {fs : List (Str × D)} {vs : List (Str × V)}, RepF K G fs vs → RepF K G (putFD f d fs) (putF f y vs)
  | [], vs, r => by
    simp only [RepF] at r
    subst r
    simp only [putFD, putF, RepF]
    exact ⟨y, [], rfl, h, rfl⟩
  | (g, d0) :: fs, vs, r => by
    simp only [RepF] at r
    obtain ⟨v, r', rfl, h1, h2⟩ := r
    by_cases z : g = f
    · simp only [putFD, putF, if_pos z, RepF]
      exact ⟨y, r', rfl, h, h2⟩
    · simp only [putFD, putF, if_neg z, RepF]
      exact ⟨v, _, rfl, h1, repF_put h h2⟩
theorem repF_len {K : PySem.W.Frag} {G : Hp} : ∀ {fs : List (Str × D)} {vs : List (Str × V)}, RepF K G fs vs → vs.length = fs.length
  | [], vs, r => by simp only [RepF] at r; subst r; rfl
  | (g, d0) :: fs, vs, r => by
    simp only [RepF] at r
    obtain ⟨v, r', rfl, _, h2⟩ := r
    simp only [List.length_cons, repF_len h2]
section
variable {X : Cx} {ρ ρ' ρ1 ρ2 : Rh} {d : D} {e : Expr} {es : List Expr} {pos p p' : Pos} {x f nm : Str} {ds : List D} {k : Nat} {C a : Addr} {st : Stmt} {rest : List Stmt} {fs fs' : List (Str × D)}
theorem hsi_nil : HSI X C a [] ρ fs fs := fun F G H σ D vs dx ok bx gx hx rf post => ⟨_, pss_nil, post σ G H vs ok.toHk gx hx rf⟩
theorem hsi_any (h : HS1 X st ρ (.nx ρ1)) (hr : HSI X C a rest ρ1 fs fs') (no : noOwnR ρ = true := by rfl) (no1 : noOwnR ρ1 = true := by rfl) : HSI X C a (st :: rest) ρ fs fs' := fun F G H σ D vs dx ok bx gx hx rf post => by
  refine ⟨_, pss_cons ps_ws pss_wss, h ⟨H, G, 0⟩ G H σ _ (ok_at ok no) fun σ1 G1 H1 ok2 => ?_⟩
  exact hr F G1 H1 σ1 D vs dx (ok_back ok.toHk ok2 no1) bx (gx_keep ok2.toHk gx hx) (ok2.bh a _ hx) (RepF.mono ok2.g0 rf) post
theorem hsi_fld (h : HE X e ρ (.sh d) ρ1) (cl : Cls X.K C) (na : NoAttr X.K C f) (hr : HSI X C a rest ρ1 (putFD f d fs) fs') (hs0 : ρ1[0]? = some (some (.sh (.ad a))) := by rfl) (hl : fs.length < 1000 := by decide) (no : noOwnR ρ = true := by rfl) (no1 : noOwnR ρ1 = true := by rfl)
    (hN : X.N[0]? = some nm := by rfl) (hv : Vis X.env.scope nm := by first | exact Or.inl rfl | exact Or.inr (Or.inl rfl) | exact Or.inr (Or.inr rfl)) (hd : (nm == ("__debug__" : Str)) = false := by decide) (hcd : (nm == ("__classdict__" : Str)) = false := by decide)
    (hs : swapsWith e (some (.Attribute (.Name nm p) f p')) pos.line X.env = pure false := by rfl) : HSI X C a (.Assign [.Attribute (.Name nm p) f p'] e pos :: rest) ρ fs fs' := fun F G H σ D vs dx ok bx gx hx rf post => by
  refine ⟨_, pss_cons (ps_fld (pv 0 hN hv hd hcd) pe_we hs) pss_wss, h ⟨H, G, 0⟩ G H σ _ (ok_at ok no) fun y G1 H1 e1 ok2 ry => ?_⟩
  obtain ⟨v, h1, h2⟩ := ok2.sl 0 _ hs0
  have h2 : v = .ref a := h2
  subst h2
  have hx1 := ok2.bh a _ hx
  have gx1 := gx_keep ok2.toHk gx hx
  refine ⟨.ref a, h1, a, C, dx, vs, rfl, hx1, cl, na, by rw [repF_len rf]; exact hl, ?_⟩
  exact hr F G1 _ σ D _ dx (ok_off (ok_back ok.toHk ok2 no1) no1 bx gx1 fun _ _ z => HO.noConfusion z) bx gx1 upd_same (repF_put ry.ok (RepF.mono ok2.g0 rf)) post
end
structure Mkd (P : Program) (w : World) (K : PySem.W.Frag) (mg : Str → Option Value) (base : Heap) (k : Nat) (x : Str) (C : Addr) (Fn : List D → List (Str × D) → Prop) : Prop where
  ex : ∃ f fd ps, FnOk P w K mg base CX0 k f fd ps (spI K C Fn) ∧ Mk K C f ∧ mg x = some (.ref C) ∧ Binds K fd ps []
section
variable {X : Cx} {ρ ρ1 : Rh} {e : Expr} {es : List Expr} {pos p : Pos} {x : Str} {ds : List D} {k : Nat} {C : Addr} {fs : List (Str × D)} {Fn : List D → List (Str × D) → Prop}
theorem he_make (cd : Mkd X.prog X.w X.K X.mg X.base k x C Fn) (hr : Room (k + 1) X.A) (ha : HEA X (e :: es) ρ ds ρ1) (hf : Fn ds fs) (hg : Gl X x := by rfl) (hdb : (x == ("__debug__" : Str)) = false := by decide)
    (hst : starEach (e :: es) X.env = (false, eval e X.env) :: starEach es X.env := by rfl) (hpl : (backTo pos (starEach es X.env)).any (·.1) = false := by rfl) : HE X (.Call (.Name x p) (e :: es) [] pos) ρ (.sh (.obj C fs)) ρ1 := fun F G H σ Q ok kk => by
  obtain ⟨f, fd, ps, F1, M, hm, hb⟩ := cd.ex
  refine ⟨_, pe_make M F1 hr hg hm hb .nil pass0 pa_wa hdb hst hpl, ha F G H σ _ ok fun vs G1 H1 e1 ok1 rv => ?_⟩
  intro a dx hx hdx hne
  obtain ⟨bx, gx, ax⟩ := ok1.free hx
  have h2 : ∀ b o, H1 b = some o → b ≠ a ∧ b ≠ dx := fun b o e => ⟨(fun z => by rw [z, hx] at e; cases e), (fun z => by rw [z, hdx] at e; cases e)⟩
  have e2 : Ex H1 (upd (upd H1 dx (.own a)) a (.ins C dx [])) := fun b o e => by
    rw [upd_ne (h2 b o e).1, upd_ne (h2 b o e).2]
    exact e
  refine ⟨G1, a, dx, vs, ds, fs, by rw [List.append_nil], ok1.sub.ex e2, ok1.nf, gx, upd_same, rv, hf, fun G' H' vs' hk g' h' r' => ⟨rfl, ?_⟩⟩
  have hk1 : Hk ⟨H1, G1, 0⟩ G' H' := by
    refine ⟨hk.sub, fun b o e => hk.bh b o ?_, hk.g0, fun b o e => ?_, hk.nf, fun b o u e => ?_⟩
    · show (if b = a then none else upd (upd H1 dx (.own a)) a (.ins C dx []) b) = some o
      rw [if_neg (h2 b o e).1]
      exact e2 b o e
    · rcases hk.gn b o e with q | q
      · exact .inl q
      · refine .inr ?_
        cases z : H1 b with
        | none => exact z
        | some u =>
          have q : (if b = a then none else upd (upd H1 dx (.own a)) a (.ins C dx []) b) = none := q
          rw [if_neg (h2 b u z).1, e2 b u z] at q
          cases q
    · have q : (if b = a then none else upd (upd H1 dx (.own a)) a (.ins C dx []) b) = some (.frz o (.dK u)) := hk.fz b o u e
      by_cases z : b = a
      · rw [if_pos z] at q; cases q
      · rw [if_neg z, upd_ne z] at q
        by_cases y : b = dx
        · subst y; rw [upd_same] at q; cases q
        · rw [upd_ne y] at q; exact q
  have ok2 := (ok1.called hk1).freeze bx g' h' (fun _ _ z => HO.noConfusion z) ax
  refine kk _ _ H' (e1.trans (hk1.g0.trans (Ex.new g'))) ok2 ⟨?_, fun z => by cases z⟩
  simp only [SlOk, Rep]
  exact ⟨a, dx, vs', rfl, upd_same, RepF.mono (Ex.new g') r'⟩
end
section
variable {P : Program} {w : World} {K : PySem.W.Frag} {mg : Str → Option Value} {base : Heap}
theorem fn_okM {x qual : Str} {st : Stmt} {f C : Addr} {fd : FuncData} {N ps : List Str} {k : Nat} {Fn : List D → List (Str × D) → Prop} (F : Fun K x qual st f fd) (S : FnScope N ps (defScope st)) (len : ∀ ds fs, Fn ds fs → ds.length + 1 = ps.length)
    (body : ∀ (cdv : Value) (A : Around) (outer : List Env) (s : Shared) (H : Hp) (E : XK), Room k (A.deeper (PyProof.Rows.envOfC qual (defScope st) s.heap.objs.size f cdv)) → ∀ ds fs a, Fn ds fs →
      HSI (cxOf CX0 P w K mg base N qual (defScope st) f cdv A outer s H E).nox C a (defBody st) (st0 N.length (.ad a :: ds)) [] fs) : FnOk P w K mg base CX0 (k + 1) f fd ps (spI K C Fn) := by
  refine F.ok S (fun vs H Q E h => ?_) fun cdv A outer s H vs Q E hr h => ?_
  · obtain ⟨G, x, dx, ws, ds, fs, rfl, _, _, _, _, rv, hf, _⟩ := h
    rw [List.length_cons, repL_len rv]
    exact len ds fs hf
  · obtain ⟨G, a, dx, ws, ds, fs, rfl, sub, nf, gp, hp, rv, hf, kk⟩ := h
    refine ⟨_, pss_wss, ?_⟩
    have hk : Hk ⟨fun b => if b = a then none else H b, G, 0⟩ G H := ⟨sub, (fun b o e => by
      have e : (if b = a then none else H b) = some o := e
      by_cases z : b = a
      · rw [if_pos z] at e; cases e
      · rw [if_neg z] at e; exact e), Ex.refl _, fun b o e => .inl e, nf, fun b o u e => by
      show (if b = a then none else H b) = some (.frz o (.dK u))
      have z : b ≠ a := fun z => by rw [z, hp] at e; cases e
      rw [if_neg z]
      exact e⟩
    refine body cdv A outer s H E hr ds fs a hf _ G H _ _ [] dx (ok_start (ds := .ad a :: ds) hk (repL_mk (by simp only [Rep]) rv)) (if_pos rfl) gp hp (by simp only [RepF]) fun σ' G' H' vs' hk' g' h' r' => ?_
    exact kk G' H' vs' hk' g' h' r'
end
end PL
set_option Elab.async false
set_option linter.all false
set_option maxRecDepth 100000
namespace PL
open PySem L2
section
variable {X : Cx} {ρ ρ' ρ1 ρ2 : Rh} {s s1 s2 : Sl} {d d1 d2 : D} {e a b c o : Expr} {es : List Expr} {pos p q apos cpos : Pos} {x f m y : Str} {ds : List D} {ss : List Sl} {k : Nat} {r : Sl}
/-- pairs of ints, by their order -/
theorem v_ltT {ns ms : List Int} (hu : X.A.units < cLine) : OpV X (compareOp .Lt) (.tup (ns.map D.int)) (.tup (ms.map D.int)) (.bl (_root_.HT.lexLt ns ms)) := ⟨_, _, op_ltT hu, rfl, fun H a b Q ra rb q => by
  obtain ⟨p, ws, rfl, hp, r⟩ := rep_tup strip_sub ra
  obtain ⟨p2, ws2, rfl, hp2, r2⟩ := rep_tup strip_sub rb
  rw [fls_rep fls_ints r] at hp
  rw [fls_rep fls_ints r2] at hp2
  exact ⟨p, p2, ns, ms, rfl, rfl, hp, hp2, q⟩⟩
theorem v_ltT2 {i j n m : Int} (hu : X.A.units < cLine) : OpV X (compareOp .Lt) (.tup [.int i, .int j]) (.tup [.int n, .int m]) (.bl (_root_.HT.lexLt [i, j] [n, m])) := v_ltT (ns := [i, j]) (ms := [n, m]) hu
/-- xs.index(x), texts -/
theorem hg_index {xs : List Str} {z : Str} {j : Nat} (ha : HG X o ρ s) (hb : HG X e ρ (.sh (.str z))) (hl : s.data = .lst (xs.map D.str)) (hj : xs[j]? = some z) (hno : ∀ m, m < j → xs[m]? ≠ some z)
    (hbase : attributeBase o "index" X.env (eval o X.env) = eval o X.env := by rfl) (hfew : ((backTo cpos (starEach (e :: []) X.env)).all (fun x => !x.1) && (backToKw cpos (keywordEach [] X.env)).all (fun x => x.1.isSome)
      && decide ((e :: ([] : List Expr)).length + ([] : List Keyword).length + (if ([] : List Keyword).isEmpty then 0 else 1) < 30)) = true := by rfl)
    (hline : (apos.endLine == cpos.line) = true := by rfl) (hs : starEach [e] X.env = (false, eval e X.env) :: starEach [] X.env := by rfl) (hplain : (backTo cpos (starEach [] X.env)).any (·.1) = false := by rfl) :
    HG X (.Call (.Attribute o "index" apos) [e] [] cpos) ρ (.sh (.int j)) := fun F G H σ Q ok k =>
  ⟨_, pe_bm PySem.F.plainAttrs_list PySem.F.slot_list_index PySem.F.type_list_index mt_index pe_we (pa_cons pe_we pa_nil hs) hbase hfew hline hs hplain, ha F G H σ _ ok fun v r => by
    have r := r.rep ok.toHk
    rw [hl] at r
    obtain ⟨p, ws, rfl, hp, rw'⟩ := rep_lst strip_sub r
    rw [fls_rep fls_strs rw'] at hp
    refine ⟨.inl ⟨rfl, _, hp⟩, hb F G H σ _ ok fun u ru => ?_⟩
    rw [fl_rep (v := .str z) rfl (show Rep X.K G (.str z) u from ru)]
    refine ⟨p, _, .str z, j, .str z, rfl, rfl, hp, rfl, flat_strs, by rw [List.getElem?_map, hj]; rfl, by simp [eqV], fun m z' hm e => ?_, k _ (rep_fl rfl)⟩
    rw [List.getElem?_map] at e
    obtain ⟨w, hw, rfl⟩ := Option.map_eq_some_iff.mp e
    have : w ≠ z := fun q => hno m hm (by rw [hw, q])
    simp [eqV, this]⟩
end
end PL
set_option Elab.async false
set_option linter.all false
set_option maxRecDepth 100000
namespace PL
open PySem L2
section
variable {X : Cx} {ρ ρ' ρ0 ρ1 ρ2 : Rh} {s s1 s2 : Sl} {d d1 d2 : D} {e a b c o : Expr} {es : List Expr} {pos spos p q py apos cpos : Pos} {x f m y : Str} {ds : List D} {ss : List Sl} {k : Nat} {r : Sl}
/-- y = [f(x) for x in ..] -/
theorem hs_setMap {f : D → D} {tg iter elt : Expr} {scope : Scope} (i : Nat) (own : List (Str × Nat)) (is : List Nat) (hi : HI X tg iter ρ ds ρ0) (hN : X.N.Nodup) (ok : BlkOk X.N X.env.scope scope own)
    (hsw : swapsWith (.ListComp elt [⟨tg, iter, [], 0⟩] scope pos) (some (.Name y py)) spos.line X.env = pure true) (hbig : ds.length < 100000)
    (ht : ∀ (i : Nat) (d : D), ds[i]? = some d → ∃ ρt, (∀ s H C cl fp, HB (Bk X scope s H C cl fp) tg is d (wr ρ0 (own.map (·.2))) ρt) ∧ ∃ ρ2, (∀ s H C cl fp, HE (Bk X scope s H C cl fp) elt ρt (.sh (f d)) ρ2) ∧ wr ρ2 (own.map (·.2)) = wr ρ0 (own.map (·.2)))
    (hsh : noOwn ρ0 (own.map (·.2)) = true := by rfl) (his : ∀ j ∈ is, j ∈ own.map (·.2) := by decide) (hy : X.N[i]? = some y := by rfl) (hyl : X.env.scope.names.lookup y = some .local := by rfl) (hc : X.calm = true := by rfl) (hs : ∀ x, foldedSetIterable iter X.env x = pure x := by intro _; rfl) :
    HS1 X (.Assign [.Name y py] (.ListComp elt [⟨tg, iter, [], 0⟩] scope pos) spos) ρ (.nx (ρ0.set i (some (.ol (ds.map f))))) := by
  have h := hs_setLc (pos := pos) (py := py) (spos := spos) i own hi (cmp_map (f := f) (noOwn_sh hsh) hbig is his ht) hN ok hsw hy hyl hc hs
  simp only [List.take_length] at h
  exact h
theorem he_get {ky : Key} {ks : List (Key × D)} (hu : X.A.units + 1 < cLine) (ha : HE X a ρ (.sh (.dct ks)) ρ1) (hb : HG X b ρ1 (.sh (kD ky))) (h : look ks ky = some d) (hs : NoSl b := by exact fun _ _ => rfl) : HE X (.Subscript a b pos) ρ (.sh d) ρ1 := fun F G H σ Q ok k =>
  ⟨_, pe_dget hu pe_we pe_we hs, ha F G H σ _ ok fun v G1 H1 e1 ok1 rv => hb F G1 H1 σ _ ok1 fun w rw => by
    obtain ⟨p, vs, rfl, q, r⟩ := SlOk.pairs ok1.toHk (s := .sh (.dct ks)) rv.ok rfl
    obtain ⟨z, hz, rz⟩ := (repK_look r).1 d h
    rw [fl_rep (kD_fl ky) (show Rep X.K G1 (kD ky) w from rw)]
    exact ⟨p, z, rfl, .inl ⟨vs, ky, q, rfl, hz.symm⟩, k z G1 H1 e1 ok1 ⟨rz, fun z => by cases z⟩⟩⟩
end
end PL
set_option Elab.async false
set_option linter.all false
set_option maxRecDepth 100000
namespace PL
open PySem L2
theorem forget_at {ρ : Rh} {i j : Nat} {s : Sl} (h : (ρ.set i none)[j]? = some (some s)) : j ≠ i ∧ ρ[j]? = some (some s) := by
  by_cases z : i = j
  · subst z
    by_cases y : i < ρ.length
    · rw [List.getElem?_set_self y] at h; cases h
    · rw [List.getElem?_eq_none (by rw [List.length_set]; omega)] at h; cases h
  · rw [List.getElem?_set_ne z] at h
    exact ⟨fun q => z q.symm, h⟩
section
variable {X : Cx} {ρ : Rh} {s : Sl} {x : Str} {pos : Pos}
/-- an owned slot's value leaves its name -/
theorem he_take (i : Nat) (hi : ρ[i]? = some (some s)) (hN : X.N[i]? = some x := by rfl) (hv : Vis X.env.scope x := by first | exact Or.inl rfl | exact Or.inr (Or.inl rfl) | exact Or.inr (Or.inr rfl)) (hd : (x == ("__debug__" : Str)) = false := by decide) (hcd : (x == ("__classdict__" : Str)) = false := by decide) :
    HE X (.Name x pos) ρ s (ρ.set i none) := fun F G H σ Q ok k => by
  obtain ⟨v, h1, h2⟩ := ok.sl i s hi
  refine ⟨_, pv i hN hv hd hcd, v, h1, k v G H (Ex.refl _) ⟨ok.toHk, by rw [List.length_set]; exact ok.len, fun j t e => ok.sl j t (forget_at e).2, fun j l t u p e e' => ok.ow j l t u p (forget_at e).2 (forget_at e').2⟩ ⟨h2, fun o j t e ot q => ?_⟩⟩
  obtain ⟨p, u, rfl, _⟩ := own_ref h2 o
  exact (forget_at e).1 (ok.ow i j s t p hi (forget_at e).2 o ot h1 q).symm
end
end PL
set_option Elab.async false
set_option linter.all false
set_option maxRecDepth 100000
namespace PL
open PySem L2
mutual
def pdD : D → PyData
  | .non => .none
  | .bl b => .bool b
  | .int i => .int i
  | .str x => .str x
  | .tup l => .tuple (pdL l)
  | .lst l => .list (pdL l)
  | _ => .none
def pdL : List D → List PyData
  | [] => []
  | d :: r => pdD d :: pdL r
end
mutual
def okD : D → Bool
  | .non => true
  | .bl b => true
  | .int i => true
  | .str x => true
  | .tup l => okL l
  | .lst l => okL l
  | _ => false
def okL : List D → Bool
  | [] => true
  | d :: r => okD d && okL r
end
section
variable {K : PySem.W.Frag} {G H : Hp}
mutual
theorem rep_dp (s : Sub G H) : ∀ {d : D} {v : V}, okD d = true → Rep K G d v → Dp K H v (pdD d)
  | .non, v, o, r => by simp only [Rep] at r; subst r; exact .non
  | .bl b, v, o, r => by simp only [Rep] at r; subst r; exact .bl b
  | .int b, v, o, r => by simp only [Rep] at r; subst r; exact .int b
  | .str b, v, o, r => by simp only [Rep] at r; subst r; exact .str b
  | .tup l, v, o, r => by
    simp only [Rep] at r
    obtain ⟨a, vs, rfl, q, r⟩ := r
    simp only [okD] at o
    simp only [pdD]
    exact .tup (q.sq s) (repL_dp s o r)
  | .lst l, v, o, r => by
    simp only [Rep] at r
    obtain ⟨a, vs, rfl, q, r⟩ := r
    simp only [okD] at o
    simp only [pdD]
    exact .lst (q.sq s) (repL_dp s o r)
  | .ad _, v, o, r => by simp only [okD] at o; cases o
  | .ktup _, v, o, r => by simp only [okD] at o; cases o
  | .dct _, v, o, r => by simp only [okD] at o; cases o
  | .gtup _, v, o, r => by simp only [okD] at o; cases o
  | .dtt _, v, o, r => by simp only [okD] at o; cases o
  | .obj _ _, v, o, r => by simp only [okD] at o; cases o
theorem repL_dp (s : Sub G H) : ∀ {ds : List D} {vs : List V}, okL ds = true → RepL K G ds vs → DpAll K H vs (pdL ds)
  | [], vs, o, r => by rw [repL_nil r]; simp only [pdL]; exact .nil
  | d :: ds, vs, o, r => by
    obtain ⟨v, t, rfl, r1, r2⟩ := repL_cons r
    simp only [okL, Bool.and_eq_true] at o
    simp only [pdL]
    exact .cons (rep_dp s o.1 r1) (repL_dp s o.2 r2)
end
end
section
variable {X : Cx} {ρ ρ' ρ0 ρ1 ρ2 : Rh} {s s0 s1 s2 : Sl} {d d1 d2 : D} {e a b c o : Expr} {es : List Expr} {pos spos p q py px pt apos cpos lpos : Pos} {x f m y z : Str} {ds : List D} {ss : List Sl} {k : Nat} {r : Sl}
theorem v_eqDp (hu : X.A.units + 64 < cLine) (o1 : okD d1 = true) (o2 : okD d2 = true) (z1 : SeqAt.shaped (pdD d1) = true) (z2 : SeqAt.shaped (pdD d2) = true) : OpV X (compareOp .Eq) d1 d2 (.bl (PyData.eqv (pdD d1) (pdD d2))) := ⟨_, _, op_eqD hu, rfl, fun H a b Q ra rb q =>
  ⟨_, _, rep_dp strip_sub o1 ra, rep_dp strip_sub o2 rb, z1, z2, q⟩⟩
theorem v_neDp (hu : X.A.units + 64 < cLine) (o1 : okD d1 = true) (o2 : okD d2 = true) (z1 : SeqAt.shaped (pdD d1) = true) (z2 : SeqAt.shaped (pdD d2) = true) : OpV X (compareOp .NotEq) d1 d2 (.bl (!PyData.eqv (pdD d1) (pdD d2))) := ⟨_, _, op_neD hu, rfl, fun H a b Q ra rb q =>
  ⟨_, _, rep_dp strip_sub o1 ra, rep_dp strip_sub o2 rb, z1, z2, q⟩⟩
/-- x op e, x an owned slot's name -/
theorem ht_cmpV {op : CmpOp} {t : Bool} (i : Nat) (hi : ρ[i]? = some (some s)) (hb : HE X b ρ (.sh d2) ρ1) (hi1 : ρ1[i]? = some (some s1)) (h : OpV X (compareOp op) s1.data d2 (.bl t)) (hm : behindInMarks op b = false := by first | exact nomark _ | rfl)
    (hN : X.N[i]? = some x := by rfl) (hv : Vis X.env.scope x := by first | exact Or.inl rfl | exact Or.inr (Or.inl rfl) | exact Or.inr (Or.inr rfl)) (hd : (x == ("__debug__" : Str)) = false := by decide) (hcd : (x == ("__classdict__" : Str)) = false := by decide) :
    HT X (.Compare (.Name x p) [op] [b] pos) ρ t ρ1 := fun F G H σ Q ok k => by
  obtain ⟨r, z, hr, hz, hq⟩ := h
  cases hz
  obtain ⟨v, hv1, _⟩ := ok.sl i s hi
  refine ⟨_, pt_cmpR hr (pv i hN hv hd hcd) pe_we hm, v, hv1, hb F G H σ _ ok fun w G2 H2 e2 ok2 rw => ?_⟩
  obtain ⟨v', hv2, r2⟩ := ok2.sl i s1 hi1
  rw [hv1] at hv2
  cases hv2
  exact hq H2 v w _ (r2.rep ok2.toHk) (Rep.monk ok2.toHk.exk rw.ok) ⟨t, rfl, k G2 H2 e2 ok2⟩
/-- xs.pop(k), xs an owned list's name -/
theorem he_pop {k : Nat} (i : Nat) (h : HE X e ρ (.sh (.int k)) ρ1) (hi : ρ[i]? = some (some s)) (hsl : s.isL.isSome = true) (hi1 : ρ1[i]? = some (some s1)) (hl : s1.isL = some ds) (hk : ds[k]? = some d) (hz : ds.length ≤ 100000) (hN : X.N[i]? = some x := by rfl)
    (hv : Vis X.env.scope x := by first | exact Or.inl rfl | exact Or.inr (Or.inl rfl) | exact Or.inr (Or.inr rfl)) (hst : ∀ {ta te : TE}, PE X (.Name x lpos) ta → PA X [e] (tCons te tNil) → PE X (.Call (.Attribute (.Name x lpos) "pop" apos) [e] [] cpos) (tBM X.K "list" rPopAt ta (tCons te tNil)) := by
      intro ta te h1 h2; exact pe_bm PySem.F.plainAttrs_list PySem.F.slot_list_pop PySem.F.type_list_pop mt_popAt h1 h2)
    (hpa : ∀ {te : TE}, PE X e te → PA X [e] (tCons te tNil) := by intro te h; exact pa_cons h pa_nil) (hd : (x == ("__debug__" : Str)) = false := by decide) (hcd : (x == ("__classdict__" : Str)) = false := by decide) :
    HE X (.Call (.Attribute (.Name x lpos) "pop" apos) [e] [] cpos) ρ (.sh d) (ρ1.set i (some (s1.setL (ds.eraseIdx k)))) := fun F G H σ Q ok kk => by
  obtain ⟨v, hv1, r⟩ := ok.sl i s hi
  obtain ⟨ds0, hds0⟩ : ∃ z, s.isL = some z := Option.isSome_iff_exists.mp hsl
  obtain ⟨q0, vs0, rfl, hh0, _, _⟩ := slL_at hds0 r
  refine ⟨_, hst (pv i hN hv hd hcd) (hpa pe_we), .ref q0, hv1, .inl ⟨rfl, _, SqL.of hh0⟩, h F G H σ _ ok fun w G1 H1 e1 ok1 rw => ?_⟩
  obtain ⟨v1, hv2, r1⟩ := ok1.sl i s1 hi1
  rw [hv1] at hv2
  cases hv2
  obtain ⟨q, vs, eq, hh, rl, fin⟩ := slL_at hl r1
  cases eq
  have hg : G1 q0 = none := by
    obtain ⟨p', _, e', _, g', _⟩ := own_ref r1 (slL_own hl)
    cases e'
    exact g'
  have hw := fl_rep (v := .int k) rfl (show Rep X.K G1 (.int k) w from rw.ok)
  subst hw
  obtain ⟨y, hy, ry⟩ := repL_get rl hk
  have hlt := (List.getElem?_eq_some_iff.mp hk).1
  have hlen := repL_len rl
  refine ⟨q0, vs, k, k, y, rfl, rfl, hh, by omega, by omega, (ixN_seq (n := vs.length) (i := (k : Int)) (j := k) ?_).1, hy, ?_⟩
  · unfold ixN
    rw [if_pos (by omega), if_pos (by omega)]
    simp
  · exact kk y G1 _ e1 (ok_chg ok1 hi1 (slL_own hl) hv1 (fun _ _ z => HO.noConfusion z) (fin hg upd_same (repL_erase k rl))) ⟨ry, fun z => by cases z⟩
/-- x, y = e, [] -/
theorem hs_parL {i j : Nat} {kt k2 pt2 : _} (h : HE X a ρ (.sh d) ρ1) (hps : ∀ {ta : TA}, PA X [a, .List [] q] ta → PS X (.Assign [.Tuple [.Name x px, .Name y py] kt pt] (.Tuple [a, .List [] q] k2 pt2) pos) (tPar i j ta)) (hij : i ≠ j)
    (h1 : starEach [a, .List [] q] X.env = (false, eval a X.env) :: starEach [.List [] q] X.env := by rfl) (h2 : starEach [.List [] q] X.env = (false, eval (.List [] q) X.env) :: starEach [] X.env := by rfl) :
    HS1 X (.Assign [.Tuple [.Name x px, .Name y py] kt pt] (.Tuple [a, .List [] q] k2 pt2) pos) ρ (.nx ((ρ1.set i (some (.sh d))).set j (some (.ol [])))) := fun F G H σ D ok post =>
  ⟨_, hps (pa_cons pe_we (pa_cons pe_we pa_nil h2) h1), h F G H σ _ ok fun v G1 H1 e1 ok1 rv => he_lst (X := X) hea_nil (Nat.le_of_ble_eq_true rfl) F G1 H1 σ _ ok1 fun w G2 H2 e2 ok2 rw => by
    refine ⟨v, w, rfl, post _ G2 H2 ((ok2.put (s := .sh d) (v := v) ⟨rv.ok.mono e2, fun z => by cases z⟩).put ⟨rw.ok, fun oo l t hl ot q => ?_⟩)⟩
    by_cases zi : i = l
    · subst zi
      by_cases yy : i < ρ1.length
      · rw [List.getElem?_set_self yy] at hl
        cases hl
        cases ot
      · rw [List.getElem?_eq_none (by rw [List.length_set]; omega)] at hl; cases hl
    · rw [List.getElem?_set_ne zi] at hl q
      exact rw.ap oo l t hl ot q⟩
end
end PL
set_option Elab.async false
set_option linter.all false
set_option maxRecDepth 100000
namespace PySem
set_option maxHeartbeats 1000000 in
theorem meets_enumerate_new1 {v : Value} {o : Obj} {H : Heap → Prop} (B : Begins v o H) :
    Meets (Builtin.«enumerate.__new__» ⟨[.type "enumerate", v], []⟩) (fun _ R s => H s.heap ∧
      R (.ok (.ret (.ref (s.heap.push o).objs.size))) { s with heap := (s.heap.push o).push { cls := .type "enumerate", data := .fields #[.none, .bool false, .ref s.heap.objs.size, rawInt 0, .none, .none] } }) :=
  .of_wp fun prog w A R s h => by
    obtain ⟨hp, g, d, tk, os⟩ := s; obtain ⟨h1, h⟩ := h
    have hsub := sub_enumerate
    have q1 : ∀ {A' : Around} {E : Value → Shared → Prop} {Q : Value → Shared → Prop}, Q (.ref hp.objs.size) ⟨hp.push o, g, d, tk, os⟩ → wpAny (model prog w) A' (pyIter v) Q E ⟨hp, g, d, tk, os⟩ :=
      fun q => B.iter prog w _ _ ⟨hp, g, d, tk, os⟩ _ h1 q
    wp_walk using q1
    refine wpAny_stack_any fun st => wpAny_pure ?_
    split
    · rename_i c _ _ _ _ _
      cases (c == Value.type "enumerate")
      · wp_walk using q1
        exact ⟨_, rfl, h⟩
      · wp_walk using q1
        exact ⟨_, rfl, h⟩
    · wp_walk using q1
      exact ⟨_, rfl, h⟩
section
variable {prog : Program} {w : World} {A : Around} {E : Value → Shared → Prop} {s : Shared}
theorem enum_begins1 {v : Value} {o : Obj} {H : Heap → Prop} {Q : Value → Shared → Prop} (B : Begins v o H) (h1 : H s.heap)
    (h : ∀ h', IsEnum h' (s.heap.objs.size + 1) s.heap.objs.size 0 .none → h'.get? s.heap.objs.size = some o → h'.objs.size = s.heap.objs.size + 2 →
      (∀ b o, s.heap.get? b = some o → h'.get? b = some o) → Q (.ref (s.heap.objs.size + 1)) { s with heap := h' }) :
    wpAny (model prog w) A (call (.type "enumerate") [v]) Q E s := by
  refine callType_new F.called_enumerate (by decide) (F.typeCall_enumerate_1 _) (F.newCall_enumerate_1 _) (fun obj => F.args_object_init_2 obj _) F.entry_enumerate_new
    (meets_enumerate_new1 B) ⟨h1, ?_⟩
  have hz : (s.heap.push o).objs.size = s.heap.objs.size + 1 := Heap.size_push ..
  show _ ∧ _
  rw [hz]
  have he : IsEnum ((s.heap.push o).push { cls := .type "enumerate", data := .fields #[.none, .bool false, .ref s.heap.objs.size, rawInt 0, .none, .none] }) (s.heap.objs.size + 1) s.heap.objs.size 0 .none := by
    have := Heap.get?_push_size (s.heap.push o) (o := { cls := .type "enumerate", data := .fields #[.none, .bool false, .ref s.heap.objs.size, rawInt 0, .none, .none] }) rfl
    rw [hz] at this; exact this
  refine ⟨⟨_, he, rfl⟩, h _ he (Heap.get?_push_of_some _ (Heap.get?_push_size _ B.free)) (by rw [Heap.size_push, hz]) fun b o x => Heap.get?_push_of_some _ (Heap.get?_push_of_some _ x)⟩
end
end PySem
namespace PL
open PySem PySem.Spec PyProof.Rows L2
def IteT (K : PySem.W.Frag) (a : Addr) : It :=
  ⟨fun i H => ∃ (xs : List V) (x : V), SqT K H a xs ∧ xs[i]? = some x, fun i H v H' => ∃ T x, v = .ref T ∧ H T = none ∧ H' = upd H T (.tup [.int (i : Nat), x]) ∧ ∀ xs, SqT K H a xs → xs[i]? = some x, fun i H => ∃ xs : List V, SqT K H a xs ∧ xs.length = i⟩
theorem turn_enumT {P : Program} {w : World} {K : PySem.W.Frag} {elts : List Expr} {kk : Nat} {tpos : Pos} (a e it : Addr) :
    Turn P w K (.Tuple elts kk tpos) (IteT K a) [e, it] e (fun i h => (∃ old, IsEnum h e it ((i : Nat) : Int) old) ∧ h.IsTupleIter it a i ∧ e ≠ it ∧ e ≠ a ∧ a ≠ it) where
  mem := by simp
  obj := fun i h st b hb => by
    obtain ⟨⟨old, he⟩, ⟨o, ho, hc, hd⟩, _⟩ := st
    have e' : b = e ∨ b = it := by simpa using hb
    rcases e' with z | z
    · rw [z]; exact ⟨_, he, fun v q => nomatch q⟩
    · rw [z]; exact ⟨o, ho, fun v q => by rw [hd] at q; cases q⟩
  keep := fun i h h' st k => let ⟨⟨old, he⟩, hi, hne⟩ := st; ⟨⟨old, k e (by simp) _ he⟩, hi.at fun o q => k it (by simp) o q, hne⟩
  item := by
    intro X hP hw hK hc i pins s σ H E I hf st hg
    subst hP hw hK
    obtain ⟨⟨old, he⟩, hit, hne, hea, hai⟩ := st
    obtain ⟨xs, x, hq, hx⟩ := hg
    obtain ⟨its, rv, p, hz⟩ := I.tuple hq
    obtain ⟨u, hu, ru⟩ := rv.get hx
    have hel : e < s.heap.objs.size := Heap.lt_size he
    have hil : it < s.heap.objs.size := by obtain ⟨_, q, _⟩ := hit; exact Heap.lt_size q
    have hD := Draws.tuple (prog := X.prog) (w := X.w) (A := X.A.in1) (I.ok.hd hc) it a hai its.toArray
    have hlt : i < its.toArray.size := by
      rw [List.size_toArray]
      exact (List.getElem?_eq_some_iff.mp hu).1
    refine wpAny_pyNext_enum_itemC hD he ⟨hit, p⟩ hlt hne (by simp [hne, hea]) fun y h' tk hP ho st' hT hsz hk => ?_
    have hyu : y = u := by
      have : its.toArray[i]? = some u := by simpa using hu
      rw [hP] at this
      exact Option.some.inj this
    subst hyu
    refine ⟨_, rfl, wpAny_letOwnedTupleGo_enum (s := { s with heap := h', toks := tk + 1 }) ho fun h'' he' sb => ?_⟩
    have hT2 : h''.get? s.heap.objs.size = some { cls := .type "tuple", data := .seq #[.int i tk, y] } := (sb.2 _ (Nat.ne_of_gt hel)).trans hT
    have new : ObjOk X.prog X.w (upd H s.heap.objs.size (.tup [.int (i : Nat), x])) h'' s.heap.objs.size (.tup [.int (i : Nat), x]) :=
      ⟨by show 2 ≤ sizeLine; decide, [.int i tk, y], .cons ⟨_, rfl⟩ (.cons ru .nil), ⟨_, hT2, rfl, _, rfl⟩⟩
    have I1 : Inv X pins σ (upd H s.heap.objs.size (.tup [.int (i : Nat), x])) { s with heap := h'', toks := tk + 1 } :=
      I.turnedNew (ch := [e, it]) (fun b ob hb q => (sb.2 b (fun z => hb (by simp [z]))).trans (hk b ob (fun z => hb (by simp [z])) (fun z => hb (by simp [z])) q)) hf (Nat.le_refl _) new
    refine ⟨.ref s.heap.objs.size, _, I1, rfl, ⟨_, x, rfl, I.hok.fresh (Nat.le_refl _), rfl, fun ys hy => by rw [I.tuple_inj hy hq]; exact hx⟩, ⟨⟨y, ?_⟩, st'.1.at fun o q => (sb.2 it (Ne.symm hne)).trans q, hne, hea, hai⟩, fun b hb => ?_⟩
    · have e1 : ((i + 1 : Nat) : Int) = (i : Int) + 1 := by omega
      rw [e1]; exact he'
    · have hb' : b < s.heap.objs.size := by
        have e' : b = e ∨ b = it := by simpa using hb
        rcases e' with z | z
        · rw [z]; exact hel
        · rw [z]; exact hil
      rw [upd_ne (Nat.ne_of_lt hb')]
      exact (hf b hb).1
  done := by
    intro X hP hw hK hc i pins s σ H E I hf st hg
    subst hP hw hK
    obtain ⟨⟨old, he⟩, hit, hne, hea, hai⟩ := st
    obtain ⟨xs, hq, hx⟩ := hg
    obtain ⟨its, rv, p, hz⟩ := I.tuple hq
    obtain ⟨f0, f1, f2, f3, f4, f5⟩ := hf it (by simp)
    have hl := rv.length
    have hD := Draws.tuple (prog := X.prog) (w := X.w) (A := X.A.in1) (I.ok.hd hc) it a hai its.toArray
    refine wpAny_pyNext_enum_endD hD he (show Heap.IsTupleIter s.heap it a (its.toArray.size) ∧ _ from ⟨?_, p⟩) fun h' eb => ⟨rfl, I.turned (t' := s.toks) (fun b o hb q => eb b o hb q) f0 f1 f3 f4 f5⟩
    rw [List.size_toArray, ← hl, hx]
    exact hit
  self := fun A i s Q E st h => let ⟨⟨_, he⟩, _⟩ := st; wpAny_pyIter_enum he h
def iEnumT (K : PySem.W.Frag) (ta : TA) : TI := fun σ H R => ta σ H fun vs H1 => ∃ a xs, vs = [.ref a] ∧ SqT K H1 a xs ∧ R (IteT K a) H1
theorem pi_enumT {X : Cx} {e : Expr} {ta : TA} {p pos tpos : Pos} {elts : List Expr} {kk : Nat} (hg : Gl X "enumerate") (hm : X.mg "enumerate" = none) (ha : PA X [e] ta) (hs : starEach [e] X.env = [(false, eval e X.env)] := by rfl) :
    PI X (.Tuple elts kk tpos) (.Call (.Name "enumerate" p) [e] [] pos) (iEnumT X.K ta) := by
  refine ⟨fun pins s σ H R I h => ?_⟩
  refine Call_ (ld_blt I hg hm boot_enumerate (PyProof.Rows.callWith_type1 (thn (ha.run pos pins s σ H _ I h) fun us s1 ⟨vs, H1, I1, r1, q1⟩ => ?_) hs rfl))
  obtain ⟨a, xs, ex, hq, q⟩ := q1
  subst ex
  cases r1 with
  | cons r rr =>
    cases rr
    cases r
    obtain ⟨its, rv, p', hz⟩ := I1.tuple hq
    refine enum_begins1 (begins_tuple a its.toArray) p' fun h' he hit hsz hk => wpAny_pyIter_enum he ?_
    have I2 : Inv X pins σ H1 { s1 with heap := h' } := I1.kept (t' := s1.toks) hk
    have ha' : a < s1.heap.objs.size := by obtain ⟨_, q, _⟩ := p'; exact Heap.lt_size q
    refine ⟨s1.heap.objs.size + 1, [s1.heap.objs.size + 1, s1.heap.objs.size], _, _, H1, rfl, I2, turn_enumT a (s1.heap.objs.size + 1) s1.heap.objs.size, ⟨⟨.none, he⟩, ⟨_, hit, rfl, rfl⟩, Nat.succ_ne_self _, Ne.symm (Nat.ne_of_lt (Nat.lt_succ_of_lt ha')), Nat.ne_of_lt ha'⟩, fun b hb => ?_, q⟩
    have e' : b = s1.heap.objs.size + 1 ∨ b = s1.heap.objs.size := by simpa using hb
    have hle : s1.heap.objs.size ≤ b := by
      rcases e' with z | z
      · rw [z]; exact Nat.le_add_right _ _
      · rw [z]; exact Nat.le_refl _
    exact I1.fpOk hle (I1.hok.fresh hle)
def enumD (ds : List D) : List D := ds.mapIdx fun i d => .tup [.int (i : Nat), d]
theorem wk_enumT {K : PySem.W.Frag} {F : Fr} {p : Addr} {vs : List V} {ds : List D} (hg : ∀ F' G H σ ρ, FrLe F F' → Ok K F' G H σ ρ → SqT K H p vs) (hr : RepL K F.G0 ds vs) : Wk K F (IteT K p) (enumD ds) where
  go := fun i F' G H σ ρ le hi ok => by
    have hl := repL_len hr
    have hi : i < ds.length := by simpa [enumD] using hi
    exact ⟨vs, vs[i]'(by omega), hg _ _ _ _ _ le ok, List.getElem?_eq_getElem (by omega)⟩
  st := fun F' G H σ ρ le ok => ⟨vs, hg _ _ _ _ _ le ok, by rw [repL_len hr]; simp [enumD]⟩
  yl := fun i F' G H σ ρ x H' le hi ok y => by
    obtain ⟨T, v, rfl, h2, rfl, h4⟩ := y
    obtain ⟨d, e1, e2⟩ := repL_get' hr (h4 vs (hg _ _ _ _ _ le ok))
    obtain ⟨q1, q2, q3⟩ := res_tup (ds := [.int (i : Nat), d]) ok h2 (repL_mk (rep_fl rfl) (repL_one (e2.mono (le.2.trans ok.g0))))
    exact ⟨_, _, by simp [enumD, e1], q3, q1, q2.ok⟩
section
variable {X : Cx} {ρ ρ' : Rh} {ds : List D} {e : Expr} {p pos tpos : Pos} {elts : List Expr} {kk : Nat}
theorem hi_enumT (h : HE X e ρ (.sh (.tup ds)) ρ') (hm : X.mg "enumerate" = none) (hg : Gl X "enumerate" := by rfl) (hs : starEach [e] X.env = (false, eval e X.env) :: starEach [] X.env := by rfl) (hs' : starEach [e] X.env = [(false, eval e X.env)] := by rfl) : HI X (.Tuple elts kk tpos) (.Call (.Name "enumerate" p) [e] [] pos) ρ (enumD ds) ρ' := fun F G H σ R ok k =>
  ⟨_, pi_enumT hg hm (pa_cons pe_we pa_nil hs) hs', h F G H σ _ ok fun v G1 H1 e1 ok1 r => by
    have rr := r.ok
    simp only [SlOk, Rep] at rr
    obtain ⟨a, vs, rfl, q, rl⟩ := rr
    exact ⟨a, vs, rfl, q.sq ok1.sub, k _ _ G1 H1 e1 ok1.into rfl (wk_enumT (fun F' G H σ ρ le ok => (q.mono (le.2.trans ok.g0)).sq ok.sub) rl) (exit_into ok1)⟩⟩
end
end PL
set_option Elab.async false
set_option linter.all false
set_option maxRecDepth 100000
namespace PL
open PySem L2
def sortI (ns : List Int) : List Int := ns.mergeSort (fun a b => decide (a ≤ b))
theorem sortI_perm (ns : List Int) : (sortI ns).Perm ns := List.mergeSort_perm ..
theorem sortI_ord (ns : List Int) : (sortI ns).Pairwise (· ≤ ·) := by
  have := List.pairwise_mergeSort (le := fun (a b : Int) => decide (a ≤ b)) (by simp only [decide_eq_true_eq]; intro a b c h1 h2; omega) (by simp only [Bool.or_eq_true, decide_eq_true_eq]; intro a b; omega) ns
  exact this.imp fun h => by simpa using h
theorem sortI_eq {ns ms : List Int} (h : ms.Perm ns) (o : ms.Pairwise (· ≤ ·)) : ms = sortI ns :=
  List.Perm.eq_of_pairwise (fun a b _ _ h1 h2 => Int.le_antisymm h1 h2) o (sortI_ord ns) (h.trans (sortI_perm ns).symm)
theorem sort_min {ns : List Int} (h : 0 < ns.length) : (sortI ns)[0]? = some (minI ns) := by
  have hp := sortI_perm ns
  have ho := sortI_ord ns
  cases e : sortI ns with
  | nil => have := hp.length_eq; rw [e] at this; simp at this; omega
  | cons a r =>
    rw [e] at ho hp
    have hm := minI_spec (ns := ns) (m := a) (hp.mem_iff.mp List.mem_cons_self) fun y hy => by
      rcases List.mem_cons.mp (hp.mem_iff.mpr hy) with z | z
      · rw [z]; exact Int.le_refl _
      · exact (List.pairwise_cons.mp ho).1 y z
    rw [← hm]
    rfl
theorem sort_max {ns : List Int} (h : 0 < ns.length) : (sortI ns)[(sortI ns).length - 1]? = some (maxI ns) := by
  have hp := sortI_perm ns
  have ho := sortI_ord ns
  have hl := hp.length_eq
  have hlt : (sortI ns).length - 1 < (sortI ns).length := by omega
  have hm := maxI_spec (ns := ns) (m := (sortI ns)[(sortI ns).length - 1]) (hp.mem_iff.mp (List.getElem_mem hlt)) fun y hy => by
    obtain ⟨i, hi, e⟩ := List.mem_iff_getElem.mp (hp.mem_iff.mpr hy)
    rw [← e]
    by_cases z : i = (sortI ns).length - 1
    · subst z; exact Int.le_refl _
    · exact List.pairwise_iff_getElem.mp ho i _ hi hlt (by omega)
  rw [List.getElem?_eq_getElem hlt, ← hm]
theorem atI_last {α : Type} {xs : List α} {d : α} (h0 : 0 < xs.length) (h : xs[xs.length - 1]? = some d) : atI xs (-1) = some d := by
  unfold atI ixN
  rw [if_neg (by omega), if_pos (by omega)]
  rw [show (-1 + (xs.length : Int)).toNat = xs.length - 1 by omega]
  exact h
section
variable {X : Cx} {ρ ρ1 : Rh} {e : Expr} {p pos : Pos} {ns : List Int}
theorem he_sorted (ha : HE X e ρ (.sh (.lst (ns.map D.int))) ρ1) (hl : ns.length < 64) (hm : X.mg "sorted" = none) (hg : Gl X "sorted" := by rfl) (he : starEach [e] X.env = (false, eval e X.env) :: starEach [] X.env := by rfl) (hpl : (backTo pos (starEach [] X.env)).any (·.1) = false := by rfl) :
    HE X (.Call (.Name "sorted" p) [e] [] pos) ρ (.ol ((sortI ns).map D.int)) ρ1 := fun F G H σ Q ok k =>
  ⟨_, pe_callB cr_sorted hg hm PyProof.Rows.boot_sorted (pa_cons pe_we pa_nil he) (by decide) (by decide) he hpl, ha F G H σ _ ok fun v G1 H1 e1 ok1 r => by
    have rr := r.ok
    simp only [SlOk, Rep] at rr
    obtain ⟨a, vs, rfl, q, rl⟩ := rr
    rw [repL_ints rl] at q
    refine ⟨a, ns, rfl, q.sq ok1.sub, hl, fun ns' p' h1 h2 hp => ?_⟩
    rw [sortI_eq h1 h2]
    obtain ⟨q1, q2⟩ := res_ol ok1 hp (repL_ints' (ns := sortI ns))
    exact k _ _ _ e1 q1 q2⟩
end
end PL
set_option Elab.async false
set_option linter.all false
set_option maxRecDepth 100000
namespace PL
open PySem L2
def cutD (xs : List D) (lo hi : Option Int) : List D := (xs.drop (_root_.HT.sIx xs.length 0 lo)).take (_root_.HT.sIx xs.length xs.length hi - _root_.HT.sIx xs.length 0 lo)
theorem repL_cut {K : PySem.W.Frag} {G : Hp} {ds : List D} {vs : List V} {lo hi : Option Int} (r : RepL K G ds vs) : RepL K G (cutD ds lo hi) (cutV vs lo hi) := by
  unfold cutD cutV
  rw [repL_len r]
  exact repL_take _ (repL_drop _ r)
section
variable {X : Cx} {ρ ρ' ρ0 ρ1 ρ2 ρ3 : Rh} {s s0 s1 s2 : Sl} {d d1 d2 : D} {e a b c o : Expr} {es : List Expr} {pos spos p q py px pz pt apos cpos lpos p2 q1 q2 q3 : Pos} {x f m y z : Str} {ds : List D} {ss : List Sl} {k : Nat} {r : Sl} {lo hi : Option Expr} {l u : Option Int}
def WPo (X : Cx) (e : Option Expr) : TO := fun σ H Q => ∃ t, PO X e t ∧ t σ H Q
theorem po_wo {e : Option Expr} : PO X e (WPo X e) := ⟨fun pins s σ H Q I h => let ⟨t, p, q⟩ := h; p.run pins s σ H Q I q⟩
def HPo (X : Cx) (e : Option Expr) (ρ : Rh) (o : Option Int) (ρ' : Rh) : Prop := ∀ (F : Fr) (G H : Hp) (σ : L2.St) (Q : Option Int → Hp → Prop), Ok X.K F G H σ ρ → (∀ G' H', Ex G G' → Ok X.K F G' H' σ ρ' → Q o H') → WPo X e σ H Q
theorem hpo_none : HPo X none ρ none ρ := fun F G H σ Q ok k => ⟨_, po_none, k G H (Ex.refl _) ok⟩
theorem hpo_some {i : Int} (h : HE X e ρ (.sh (.int i)) ρ') : HPo X (some e) ρ (some i) ρ' := fun F G H σ Q ok k => ⟨_, po_some pe_we, h F G H σ _ ok fun v G1 H1 e1 ok1 r => ⟨i, int_of r.ok, k G1 H1 e1 ok1⟩⟩
/-- xs[lo:hi] -/
theorem he_slice (ha : HE X a ρ (.sh (.lst ds)) ρ1) (hl : HPo X lo ρ1 l ρ2) (hh : HPo X hi ρ2 u ρ3) : HE X (.Subscript a (.Slice lo hi none p2) pos) ρ (.ol (cutD ds l u)) ρ3 := fun F G H σ Q ok k =>
  ⟨_, pe_slice sl_list pe_we po_wo po_wo, ha F G H σ _ ok fun v G1 H1 e1 ok1 r => hl F G1 H1 σ _ ok1 fun G2 H2 e2 ok2 => hh F G2 H2 σ _ ok2 fun G3 H3 e3 ok3 => by
    have rr := r.ok
    simp only [SlOk, Rep] at rr
    obtain ⟨p', vs, rfl, q, rl⟩ := rr
    refine ⟨p', vs, rfl, ((q.mono e2).mono e3).sq ok3.sub, fun n hn => ?_⟩
    obtain ⟨h1, h2⟩ := res_ol ok3 hn (repL_cut (lo := l) (hi := u) (RepL.mono e3 (RepL.mono e2 rl)))
    exact k _ _ _ (e1.trans (e2.trans e3)) h1 h2⟩
theorem apart_put {σ : L2.St} {ρ : Rh} {i : Nat} {u v : V} {s' : Option Sl} (h : Apart σ ρ v) (hl : σ.length = ρ.length) (n : u ≠ v) : Apart (σ.set i (some u)) (ρ.set i s') v := fun j t hj ot e => by
  by_cases z : i = j
  · subst z
    by_cases y : i < σ.length
    · rw [List.getElem?_set_self y] at e
      cases e
      exact n rfl
    · rw [List.getElem?_eq_none (by rw [List.length_set]; omega)] at e; cases e
  · rw [List.getElem?_set_ne z] at hj e
    exact h j t hj ot e
/-- x, y, z = {}, {}, [] -/
theorem hs_par3 {i j l : Nat} {kt k2 pt2 : _} (hps : ∀ {ta : TA}, PA X [.Dict [] [] q1, .Dict [] [] q2, .List [] q3] ta → PS X (.Assign [.Tuple [.Name x px, .Name y py, .Name z pz] kt pt] (.Tuple [.Dict [] [] q1, .Dict [] [] q2, .List [] q3] k2 pt2) pos) (tPar3 i j l ta)) (hij : i ≠ j) (hil : i ≠ l) (hjl : j ≠ l)
    (h1 : starEach [.Dict [] [] q1, .Dict [] [] q2, .List [] q3] X.env = (false, eval (.Dict [] [] q1) X.env) :: starEach [.Dict [] [] q2, .List [] q3] X.env := by rfl) (h2 : starEach [.Dict [] [] q2, .List [] q3] X.env = (false, eval (.Dict [] [] q2) X.env) :: starEach [.List [] q3] X.env := by rfl) (h3 : starEach [.List [] q3] X.env = (false, eval (.List [] q3) X.env) :: starEach [] X.env := by rfl) :
    HS1 X (.Assign [.Tuple [.Name x px, .Name y py, .Name z pz] kt pt] (.Tuple [.Dict [] [] q1, .Dict [] [] q2, .List [] q3] k2 pt2) pos) ρ (.nx (((ρ.set i (some (.od []))).set j (some (.od []))).set l (some (.ol [])))) := fun F G H σ D ok post =>
  ⟨_, hps (pa_cons pe_dnewK (pa_cons pe_dnewK (pa_cons (pe_lst pa_nil) pa_nil h3) h2) h1), fun p1 n1 p2 n2 => ⟨Nat.le_of_ble_eq_true rfl, fun p3 n3 => by
    have ok1 := ok.new (o := .dK []) n1 fun _ _ z => HO.noConfusion z
    have ok2 := ok1.new (o := .dK []) n2 fun _ _ z => HO.noConfusion z
    have ok3 := ok2.new (o := .lst []) n3 fun _ _ z => HO.noConfusion z
    obtain ⟨b1, g1, a1⟩ := ok.free n1
    obtain ⟨b2, g2, a2⟩ := ok1.free n2
    obtain ⟨b3, g3, a3⟩ := ok2.free n3
    have d12 : p1 ≠ p2 := fun z => by rw [← z, upd_same] at n2; cases n2
    have d23 : p2 ≠ p3 := fun z => by rw [← z, upd_same] at n3; cases n3
    have d13 : p1 ≠ p3 := fun z => by rw [← z, upd_ne d12, upd_same] at n3; cases n3
    refine ⟨.ref p1, .ref p2, .ref p3, rfl, post _ G _ ?_⟩
    have o1 := ok3.put (i := i) (s := .od []) (v := .ref p1) ⟨⟨p1, [], rfl, b1, g1, by rw [upd_ne d13, upd_ne d12, upd_same], repK_mk0⟩, fun _ => a1⟩
    have o2 := o1.put (i := j) (s := .od []) (v := .ref p2) ⟨⟨p2, [], rfl, b2, g2, by rw [upd_ne d23, upd_same], repK_mk0⟩, fun _ => apart_put a2 ok.len (fun z => d12 (V.ref.inj z))⟩
    exact o2.put (i := l) (s := .ol []) (v := .ref p3) ⟨⟨p3, [], rfl, b3, g3, upd_same, repL_mk0⟩, fun _ => apart_put (apart_put a3 ok.len fun z => d13 (V.ref.inj z)) (by rw [List.length_set, List.length_set]; exact ok.len) fun z => d23 (V.ref.inj z)⟩⟩⟩
end
end PL
set_option Elab.async false
set_option linter.all false
set_option maxRecDepth 100000
namespace PL
open PySem L2
mutual
theorem eqv_same : ∀ d : D, okD d = true → PyData.eqv (pdD d) (pdD d) = true
  | .non, _ => rfl
  | .bl b, _ => by simp [pdD, PyData.eqv]
  | .int i, _ => by simp [pdD, PyData.eqv]
  | .str x, _ => by simp [pdD, PyData.eqv]
  | .tup l, h => by
    simp only [okD] at h
    simp only [pdD, PyData.eqv]
    exact eqv_sameL l h
  | .lst l, h => by
    simp only [okD] at h
    simp only [pdD, PyData.eqv]
    exact eqv_sameL l h
  | .ad _, h => by simp only [okD] at h; cases h
  | .ktup _, h => by simp only [okD] at h; cases h
  | .dct _, h => by simp only [okD] at h; cases h
  | .gtup _, h => by simp only [okD] at h; cases h
  | .dtt _, h => by simp only [okD] at h; cases h
  | .obj _ _, h => by simp only [okD] at h; cases h
theorem eqv_sameL : ∀ l : List D, okL l = true → PyData.eqvAll (pdL l) (pdL l) = true
  | [], _ => by simp only [pdL, PyData.eqvAll]
  | d :: r, h => by
    simp only [okL, Bool.and_eq_true] at h
    simp only [pdL, PyData.eqvAll, eqv_same d h.1, eqv_sameL r h.2]
    rfl
end
section
variable {X : Cx} {d : D}
/-- x == x, x != x, as data -/
theorem v_eqSame (hu : X.A.units + 64 < cLine) (o : okD d = true) (z : SeqAt.shaped (pdD d) = true) : OpV X (compareOp .Eq) d d (.bl true) := op_to (v_eqDp hu o o z z) (by rw [eqv_same d o])
theorem v_neSame (hu : X.A.units + 64 < cLine) (o : okD d = true) (z : SeqAt.shaped (pdD d) = true) : OpV X (compareOp .NotEq) d d (.bl false) := op_to (v_neDp hu o o z z) (by rw [eqv_same d o]; rfl)
end
end PL
set_option Elab.async false
set_option linter.all false
set_option maxRecDepth 100000
namespace PL
open PySem L2
section
variable {X : Cx} {ρ ρ0 : Rh} {ds : List D} {pos : Pos}
/-- a comprehension whose elements change the slots: R i ahead of the i-th turn, which gives g i -/
theorem he_mapS {R : Nat → Rh} {g : Nat → D} {tg iter elt : Expr} {scope : Scope} (own : List (Str × Nat)) (is : List Nat) (hi : HI X tg iter ρ ds ρ0) (h0 : R 0 = ρ0) (hlen : ∀ i, (R i).length = ρ0.length) (hkeep : ∀ i, ∀ j ∈ own.map (·.2), (R i)[j]? = ρ0[j]?) (hN : X.N.Nodup) (ok : BlkOk X.N X.env.scope scope own) (hbig : ds.length < 100000)
    (ht : ∀ (i : Nat) (d : D), ds[i]? = some d → ∃ ρt, (∀ s H C cl fp, HB (Bk X scope s H C cl fp) tg is d (wr (R i) (own.map (·.2))) ρt) ∧ ∃ ρ2, (∀ s H C cl fp, HE (Bk X scope s H C cl fp) elt ρt (.sh (g i)) ρ2) ∧ wr ρ2 (own.map (·.2)) = wr (R (i + 1)) (own.map (·.2)))
    (hsh : noOwn ρ0 (own.map (·.2)) = true := by rfl) (his : ∀ j ∈ is, j ∈ own.map (·.2) := by decide) (hc : X.calm = true := by rfl) (hs : ∀ x, foldedSetIterable iter X.env x = pure x := by intro _; rfl) :
    HE X (.ListComp elt [⟨tg, iter, [], 0⟩] scope pos) ρ (.ol ((List.range ds.length).map g)) (R ds.length) := by
  refine he_lc (R := R) (acc := fun i => (List.range i).map g) own hi ⟨h0, rfl, fun i _ => hlen i, fun i _ => hkeep i, noOwn_sh hsh, fun i h => by rw [List.length_map, List.length_range]; omega, fun i d hd => ?_⟩ hN ok hc hs
  obtain ⟨ρt, hb, ρ2, he, hw⟩ := ht i d hd
  exact ⟨is, ρt, true, ρt, his, hb, fun _ _ _ _ _ => hts_nil, fun _ => ⟨g i, ρ2, he, by rw [List.range_succ, List.map_append]; rfl, hw⟩, fun z => by cases z⟩
end
end PL
set_option Elab.async false
set_option linter.all false
set_option maxRecDepth 100000
namespace PL
open PySem L2
/-! ### dicts of data that are not equal -/
def DEq (K : PySem.W.Frag) (H : Hp) (x y : V) : Prop := ∃ d e, Dp K H x d ∧ Dp K H y e ∧ SeqAt.shaped d = true ∧ SeqAt.shaped e = true ∧ PyData.eqv d e = true
section
variable {X : Cx} {pins : List (Addr × Obj)} {σ : L2.St} {H : Hp} {s : Shared}
theorem hits_dp {κ : Type} [DecidableEq κ] {A : Around} (hu : A.in1.units + 64 < cLine) (I : Inv X pins σ H s) {kvs : List (κ × V)} {vb : List (κ × Value)} (rb : KV kvs vb) {ks : List (κ × V)} {va : List (κ × Value)} (ra : KV ks va) :
    (∀ p ∈ ks, ∃ y, valV kvs p.1 = some y ∧ DEq X.K H p.2 y) → PySem.W.KeqHits A.in1 s vb va true := by
  unfold KV at ra
  induction ra with
  | nil => intro _; exact .nil
  | @cons p q ps qs h t ih =>
    intro hp
    obtain ⟨h1, h2⟩ := h
    obtain ⟨y0, e, d, d', hd, hd', z, z', eq⟩ := hp p List.mem_cons_self
    have rr : RelO (some y0) (PySem.valueAt vb p.1) := by rw [← e]; exact rb.val p.1
    obtain ⟨y, hy, ry⟩ := rr.some_of
    obtain ⟨k, v⟩ := q
    have h1' : p.1 = k := h1
    rw [h1'] at hy
    obtain ⟨as, r1⟩ := Dp.reads I d _ _ hd h2
    obtain ⟨bs, r2⟩ := Dp.reads I d' _ _ hd' ry
    have q := PySem.W.keq_at (A := A) r1 r2 z z' hu
    rw [eq] at q
    show PySem.W.KeqHits A.in1 s vb ((k, v) :: qs) (true && true)
    exact .hit hy q (ih fun p' hm => hp p' (List.mem_cons_of_mem _ hm))
def rNeDD (K : PySem.W.Frag) : R2 := fun x y H Q => ∃ a b ks ls, x = .ref a ∧ y = .ref b ∧ Rd H a (.dK ks) ∧ Rd H b (.dK ls) ∧ ks.length = ls.length ∧ (∀ p ∈ ks, ∃ z, valV ls p.1 = some z ∧ DEq K H p.2 z) ∧ Q (.bl false) H
theorem op_neDD (hu : X.A.units < cLine) (hu1 : X.A.in1.units + 64 < cLine) : OpR X (compareOp .NotEq) (rNeDD X.K) := by
  intro pins s σ H x y v u Q I rx ry h
  obtain ⟨a, b, ks, ls, rfl, rfl, ea, eb, hlen, hp, q⟩ := h
  obtain rfl : v = Value.ref a := rx
  obtain rfl : u = Value.ref b := ry
  obtain ⟨_, ya, va, ra, da⟩ := dk_rd I.hok ea
  obtain ⟨_, yb, vb, rb, db⟩ := dk_rd I.hok eb
  have hl : va.length = vb.length := by rw [← ra.length, ← rb.length]; exact hlen
  exact PySem.W.keq_ne (knd := mixKind X.prog X.w) (r := true) ya yb da db hu (fun _ => hits_dp hu1 I rb ra hp) (fin_bl I q (by simp [hl]))
end
theorem repK_mem {K : PySem.W.Frag} {G : Hp} : ∀ {ks : List (Key × D)} {vs : List (Key × V)}, RepK K G ks vs → ∀ p ∈ vs, ∃ d, (p.1, d) ∈ ks ∧ Rep K G d p.2
  | [], vs, h, p, hp => by rw [repK_nil h] at hp; cases hp
  | (k, d) :: ks, vs, h, p, hp => by
    obtain ⟨v, r, rfl, h1, h2⟩ := repK_cons h
    rcases List.mem_cons.mp hp with e | e
    · subst e; exact ⟨d, List.mem_cons_self, h1⟩
    · obtain ⟨d', a, b⟩ := repK_mem h2 p e
      exact ⟨d', List.mem_cons_of_mem _ a, b⟩
theorem look_mem : ∀ {ks : List (Key × D)}, (ks.map (·.1)).Nodup → ∀ {k : Key} {d : D}, (k, d) ∈ ks → look ks k = some d
  | (k0, d0) :: ks, h, k, d, hm => by
    rw [List.map_cons, List.nodup_cons] at h
    simp only [look]
    rcases List.mem_cons.mp hm with e | e
    · cases e; rw [if_pos rfl]
    · rw [if_neg fun z : k0 = k => h.1 (z ▸ List.mem_map.mpr ⟨_, e, rfl⟩)]
      exact look_mem h.2 e
section
variable {X : Cx} {ρ ρ' ρ0 ρ1 ρ2 : Rh} {a b : Expr} {pos : Pos}
theorem v_neDct {ks : List (Key × D)} (hu : X.A.units < cLine) (hu1 : X.A.in1.units + 64 < cLine) (hn : (ks.map (·.1)).Nodup) (hs : ∀ p ∈ ks, okD p.2 = true ∧ SeqAt.shaped (pdD p.2) = true) : OpV X (compareOp .NotEq) (.dct ks) (.dct ks) (.bl false) :=
  ⟨_, _, op_neDD hu hu1, rfl, fun H v w Q ra rb q => by
    obtain ⟨p1, vs1, rfl, e1, r1⟩ := rep_dct strip_sub ra
    obtain ⟨p2, vs2, rfl, e2, r2⟩ := rep_dct strip_sub rb
    refine ⟨p1, p2, vs1, vs2, rfl, rfl, e1, e2, by rw [repK_len r1, repK_len r2], fun p hp => ?_, q⟩
    obtain ⟨d, hd, rd⟩ := repK_mem r1 p hp
    obtain ⟨z, hz, rz⟩ := (repK_look (j := p.1) r2).1 d (look_mem hn hd)
    obtain ⟨o, sh⟩ := hs _ hd
    exact ⟨z, hz, _, _, rep_dp strip_sub o rd, rep_dp strip_sub o rz, sh, sh, eqv_same d o⟩⟩
end
/-! ### != of two instances of a class with an own ==, by the default != -/
section
variable {prog : Program} {w : World} {A : Around} {E : Value → Shared → Prop} {s : Shared} {K : PySem.W.Frag} {x C f : Addr} {ox : Obj} {od : Option Obj} {b tb : Value}
theorem ne_entry {Q : Fin → Shared → Prop} (hu : A.units < cLine) (X : K.In s.heap) (I : PySem.W.InstAt s.heap x ox C od) (hs : PySem.W.findIn K (.ref C) "__eq__" = some (some (.ref f))) (hf : PySem.W.isFn K (.ref f) = true)
    (h : wpAny (model prog w) A (call (.ref f) [.ref x, b]) (fun v s' => v = .bool true ∧ Q (.done (.ret (.bool false))) s') E s) :
    wpAny (model prog w) A (Builtin.«object.__ne__» ⟨[.ref x, b], []⟩) Q E s := by
  unfold Builtin.«object.__ne__»
  repeat (first
    | with_reducible refine wpAny_cRoomFor hu ?_
    | (refine wpAny_bind (m := callSpecialIfBound? (.ref x) (Str.ofString "__eq__") [b])
        (PySem.W.ifBound_K X I hs hf (wpAny_mono h (fun r s' hr => by
          obtain ⟨rfl, hq⟩ := hr
          repeat (first | exact hq | exact wpAny_pure hq | exact wpAny_truthy_bool hq | (refine wpAny_bind (m := truthy (.bool _)) (wpAny_truthy_bool ?_)) | wp_step)) fun _ _ e => e)))
    | wp_step)
theorem call_ne {Q : Value → Shared → Prop} (hu : A.in1.units < cLine) (X : K.In s.heap) (I : PySem.W.InstAt s.heap x ox C od) (hm : PySem.W.mroIn K C (.type "object") = some true) (hs : PySem.W.findIn K (.ref C) "__eq__" = some (some (.ref f))) (hf : PySem.W.isFn K (.ref f) = true)
    (h : wpAny (model prog w) A.in1 (call (.ref f) [.ref x, b]) (fun v s' => v = .bool true ∧ Q (.bool false) s') E s) :
    wpAny (model prog w) A (call (.builtin "object.__ne__") [.ref x, b]) Q E s :=
  wpAny_call (codeAny_call_builtin F.cmp_object.ne.plain F.cmpEntry_ne (PySem.W.check_slot F.cmpKind_ne F.cmpSplit_ne (I.type.andThen (PySem.W.looks_mroIn X hm)) (F.cmpArgs_ne _ _) (ne_entry hu X I hs hf h)))
theorem ifBound_ne {args : List Value} {M : Model} {Q : Option Value → Shared → Prop} (X : K.In s.heap) (I : PySem.W.InstAt s.heap x ox C od) (hs : PySem.W.findIn K (.ref C) "__ne__" = some (some (.builtin "object.__ne__")))
    (h : wpAny M A (call (.builtin "object.__ne__") (.ref x :: args)) (fun v => Q (some v)) E s) : wpAny M A (callSpecialIfBound? (.ref x) "__ne__" args) Q E s := by
  simp only [callSpecialIfBound?, bindSpecialIfBound?]
  refine wpAny_holding (wpAny_bind (wpAny_bind (wpAny_bind (I.type.here ((PySem.W.looks_findIn X hs).here ?_)))))
  refine wpAny_bind (wpAny_askSetting (wpAny_ite ?_))
  have fin : wpAny M A (call (.builtin "object.__ne__") ([.ref x] ++ args) >>= fun v => pure (some v)) Q E s := wpAny_bind (wpAny_mono h (fun v s' h' => wpAny_pure h') fun _ _ h' => h')
  split
  · exact wpAny_bind (wpAny_of_eq (F.cmp_object.ne.bind _) (wpAny_pure (by exact fin)))
  · exact wpAny_tryCatch (wpAny_bind (wpAny_of_eq (F.cmp_object.ne.bind _) (wpAny_pure (by exact fin))))
theorem ne_K {Q : Value → Shared → Prop} (hu : A.units < cLine) (hu1 : A.in1.units < cLine) (X : K.In s.heap) (I : PySem.W.InstAt s.heap x ox C od) (hb : PySem.W.Looks (model prog w) s.heap (typeOf b) tb) (hn : PySem.W.notFirst K C tb = true)
    (hm : PySem.W.mroIn K C (.type "object") = some true) (h1 : PySem.W.findIn K (.ref C) "__ne__" = some (some (.builtin "object.__ne__")))
    (hs : PySem.W.findIn K (.ref C) "__eq__" = some (some (.ref f))) (hf : PySem.W.isFn K (.ref f) = true)
    (h : wpAny (model prog w) A.in1 (call (.ref f) [.ref x, b]) (fun v s' => v = .bool true ∧ Q (.bool false) s') E s) : wpAny (model prog w) A (richCompare .NotEq (.ref x) b) Q E s := by
  have one : wpAny (model prog w) A (tryCompare (.ref x) (cmpInfo .NotEq).2.1 b) (fun r s' => r = some (.bool false) ∧ Q (.bool false) s') E s := by
    unfold tryCompare
    refine wpAny_bind (ifBound_ne X I h1 (call_ne hu1 X I hm hs hf (wpAny_mono h (fun v s' hv => ⟨hv.1, ?_⟩) fun _ _ e => e)))
    exact wpAny_pure ⟨rfl, hv.2⟩
  unfold richCompare
  simp only [oneThing_ref]
  refine wpAny_holding (wpAny_bind (wpAny_cRoomFor hu ?_))
  refine wpAny_bind (I.type.here (wpAny_bind (hb.here ?_)))
  split
  · rename_i q
    have e : PySem.W.subIn K tb (.ref C) = some false := by
      rcases Bool.or_eq_true_iff.mp hn with e | e
      · rw [beq_iff_eq.mp e] at q; simp at q
      · exact beq_iff_eq.mp e
    refine wpAny_bind ((PySem.W.looks_subIn X e).here ?_)
    simp only [Bool.false_eq_true, if_false]
    refine wpAny_bind (wpAny_mono one (fun r s' z => ?_) fun _ _ e => e)
    obtain ⟨rfl, hq⟩ := z
    exact wpAny_pure hq
  · refine wpAny_bind (wpAny_pure ?_)
    simp only [Bool.false_eq_true, if_false]
    refine wpAny_bind (wpAny_mono one (fun r s' z => ?_) fun _ _ e => e)
    obtain ⟨rfl, hq⟩ := z
    exact wpAny_pure hq
end
/-- what the lookup of a class with an own == says -/
structure NeC (K : PySem.W.Frag) (C f : Addr) : Prop where
  hm : PySem.W.mroIn K C (.type "object") = some true
  ne : PySem.W.findIn K (.ref C) "__ne__" = some (some (.builtin "object.__ne__"))
  eq : PySem.W.findIn K (.ref C) "__eq__" = some (some (.ref f))
  fn : PySem.W.isFn K (.ref f) = true
/-- the contract of an own == -/
structure EqC (P : Program) (w : World) (K : PySem.W.Frag) (mg : Str → Option Value) (base : Heap) (k : Nat) (C : Addr) (Fn : List D → Sl → Prop) : Prop where
  ex : ∃ f fd ps, FnOk P w K mg base CX0 k f fd ps (spR K Fn) ∧ NeC K C f ∧ Binds K fd ps []
def rNeOwn (X : Cx) (C : Addr) (Fn : List D → Sl → Prop) : R2 := fun x y H Q => ∃ a b dx dy fs gs, x = .ref a ∧ y = .ref b ∧ H a = some (.ins C dx fs) ∧ H b = some (.ins C dy gs) ∧
  spR X.K Fn [.ref a, .ref b] H (fun v H' => v = .bl true ∧ Q (.bl false) H') (fun _ _ _ => False)
section
variable {X : Cx} {ρ ρ' ρ0 ρ1 ρ2 : Rh} {a b : Expr} {pos : Pos} {k : Nat} {C : Addr} {Fn : List D → Sl → Prop}
theorem op_neOwn (cd : EqC X.prog X.w X.K X.mg X.base k C Fn) (hr : Room (k + 1) X.A) : OpR X (compareOp .NotEq) (rNeOwn X C Fn) := by
  intro pins s σ H x y v u Q I rx ry h
  obtain ⟨f, fd, ps, F1, nc, hb⟩ := cd.ex
  obtain ⟨a, b, dx, dy, fs, gs, rfl, rfl, ha, hb', hsp⟩ := h
  cases rx
  cases ry
  obtain ⟨mA, J, _⟩ := ins_get I.hok ha
  obtain ⟨mB, J', _⟩ := ins_get I.hok hb'
  obtain ⟨od, J, _⟩ := J.look
  obtain ⟨od', J', _⟩ := J'.look
  refine ne_K (tb := .ref C) hr.units0 hr.in1.units0 I.kIn J J'.type (by simp [PySem.W.notFirst]) nc.hm nc.ne nc.eq nc.fn ?_
  have hl := F1.len _ _ _ _ hsp
  have e0 : Env0 X.prog X.w X.K X.mg X.base X.A.in1 X.stack s H := by
    have e := I.env0
    exact ⟨e.frames, e.mod, e.bs, e.bsz, e.funs, e.frf, e.hok, e.bare⟩
  have r2 : Vals [V.ref a, V.ref b] [Value.ref a, Value.ref b] := .cons rfl (.cons rfl .nil)
  refine wpAny_call (codeAny_mono (F1.run X.A.in1 X.stack s H ⟨[.ref a, .ref b], []⟩ [.ref a, .ref b] [.ref a, .ref b] _ _ hr.in1 e0 (by
    have := hb s [.ref a, .ref b] I.kIn (by simpa using hl)
    simpa using this) r2 hsp) fun r s' hq => ?_)
  cases r with
  | error e => exact pass0 pins σ H s e s' I hq
  | ok fl =>
    cases fl with
    | ret w =>
      obtain ⟨z, H', I', rz, ez, q⟩ := I.after hq
      subst ez
      cases rz
      exact ⟨rfl, .bl false, H', I', rfl, q⟩
    | next => exact False.elim hq
    | brk => exact False.elim hq
    | cont => exact False.elim hq
end
end PL
set_option Elab.async false
set_option linter.all false
set_option maxRecDepth 100000
namespace PL
open PySem L2
/-! ### zip of two lists -/
def zipD (ds es : List D) : List D := (ds.zip es).map fun p => .tup [p.1, p.2]
theorem wk_zip {K : PySem.W.Frag} {F : Fr} {p q : Addr} {vs ws : List V} {ds es : List D} (hg : ∀ F' G H σ ρ, FrLe F F' → Ok K F' G H σ ρ → SqL K H p vs ∧ SqL K H q ws) (hr : RepL K F.G0 ds vs) (hr2 : RepL K F.G0 es ws) : Wk K F (Itz K p q) (zipD ds es) where
  go := fun i F' G H σ ρ le hi ok => by
    have h1 := repL_len hr
    have h2 := repL_len hr2
    simp only [zipD, List.length_map, List.length_zip] at hi
    obtain ⟨g1, g2⟩ := hg _ _ _ _ _ le ok
    exact ⟨vs, ws, vs[i]'(by omega), ws[i]'(by omega), g1, g2, List.getElem?_eq_getElem (by omega), List.getElem?_eq_getElem (by omega)⟩
  st := fun F' G H σ ρ le ok => by
    have h1 := repL_len hr
    have h2 := repL_len hr2
    obtain ⟨g1, g2⟩ := hg _ _ _ _ _ le ok
    refine ⟨vs, ws, g1, g2, ?_⟩
    simp only [zipD, List.length_map, List.length_zip]
    omega
  yl := fun i F' G H σ ρ x H' le hi ok y => by
    obtain ⟨T, v, w, rfl, h2, rfl, h4, h5⟩ := y
    obtain ⟨g1, g2⟩ := hg _ _ _ _ _ le ok
    obtain ⟨d, e1, e2⟩ := repL_get' hr (h4 vs g1)
    obtain ⟨d', e1', e2'⟩ := repL_get' hr2 (h5 ws g2)
    obtain ⟨q1, q2, q3⟩ := res_tup (ds := [d, d']) ok h2 (repL_mk (e2.mono (le.2.trans ok.g0)) (repL_one (e2'.mono (le.2.trans ok.g0))))
    refine ⟨_, _, ?_, q3, q1, q2.ok⟩
    simp only [zipD, List.getElem?_map, (List.getElem?_zip_eq_some (z := (d, d'))).mpr ⟨e1, e1'⟩]
    rfl
section
variable {X : Cx} {ρ ρ' ρ0 ρ1 ρ2 : Rh} {ds es : List D} {a e e2 : Expr} {p pos tpos p2 apos cpos : Pos} {elts : List Expr} {kk : Nat} {s s1 : Sl} {d : D} {x : Str}
theorem hi_zip (h : HEA X [e, e2] ρ [.lst ds, .lst es] ρ') (hm : X.mg "zip" = none) (hg : Gl X "zip" := by rfl) (hs : starEach [e, e2] X.env = (false, eval e X.env) :: starEach [e2] X.env := by rfl) (hpl : (backTo pos (starEach [e2] X.env)).any (·.1) = false := by rfl) : HI X (.Tuple elts kk tpos) (.Call (.Name "zip" p) [e, e2] [] pos) ρ (zipD ds es) ρ' := fun F G H σ R ok k =>
  ⟨_, pi_zip hg hm pa_wa hs hpl, h F G H σ _ ok fun vs G1 H1 e1 ok1 r => by
    obtain ⟨v, t, rfl, r1, r2⟩ := repL_cons r
    obtain ⟨v', t', rfl, r3, r4⟩ := repL_cons r2
    rw [repL_nil r4]
    simp only [Rep] at r1 r3
    obtain ⟨a, vs, rfl, q, rl⟩ := r1
    obtain ⟨b, ws, rfl, q', rl'⟩ := r3
    exact ⟨a, b, vs, ws, rfl, q.sq ok1.sub, q'.sq ok1.sub, k _ _ G1 H1 e1 ok1.into rfl (wk_zip (fun F' G H σ ρ le ok => ⟨(q.mono (le.2.trans ok.g0)).sq ok.sub, (q'.mono (le.2.trans ok.g0)).sq ok.sub⟩) rl rl') (exit_into ok1)⟩⟩
end
end PL
set_option Elab.async false
set_option linter.all false
set_option maxRecDepth 100000
namespace PL
open PySem L2
section
variable {X : Cx}
/-! ### d.pop(k) -/
def rDPop : V → List V → Hp → VK → Prop := fun x vs H Q => ∃ a kvs k v, x = .ref a ∧ vs = [kV k] ∧ H a = some (.dK kvs) ∧ valV kvs k = some v ∧ Q v (upd H a (.dK (dropK kvs k)))
theorem mt_dpop : MtR X "dict.pop" rDPop := by
  intro pins s σ H x xs v us Q I rx rxs h
  obtain ⟨a, kvs, k, v, rfl, rfl, ha, hv, q⟩ := h
  cases rx
  obtain ⟨u1, rfl, r1⟩ := vals1 rxs
  exact d_pop (more := []) I ha r1 hv (.inl rfl) fun w' s' I' rw' => ⟨v, _, I', rw', q⟩
end
section
variable {X : Cx} {ρ ρ' ρ0 ρ1 ρ2 : Rh} {ks : List (Key × D)} {a e e2 : Expr} {p pos tpos p2 apos cpos lpos : Pos} {d : D} {x : Str} {ky : Key}
theorem hs_dpop (i : Nat) (h : HG X e ρ (.sh (kD ky))) (hi : ρ[i]? = some (some (.od ks))) (hl : look ks ky = some d) (hN : X.N[i]? = some x := by rfl)
    (hv : Vis X.env.scope x := by first | exact Or.inl rfl | exact Or.inr (Or.inl rfl) | exact Or.inr (Or.inr rfl)) (hst : ∀ {ta te : TE}, PE X (.Name x lpos) ta → PA X [e] (tCons te tNil) → PE X (.Call (.Attribute (.Name x lpos) "pop" apos) [e] [] cpos) (tBM X.K "dict" rDPop ta (tCons te tNil)) := by
      intro ta te h1 h2; exact pe_bm PySem.F.plainAttrs_dict PySem.F.slot_dict_pop PySem.F.type_dict_pop mt_dpop h1 h2)
    (hpa : ∀ {te : TE}, PE X e te → PA X [e] (tCons te tNil) := by intro te h; exact pa_cons h pa_nil) (hd : (x == ("__debug__" : Str)) = false := by decide) (hcd : (x == ("__classdict__" : Str)) = false := by decide)
    (hs : swapsWith (.Call (.Attribute (.Name x lpos) "pop" apos) [e] [] cpos) none pos.line X.env = pure false := by rfl) :
    HS1 X (.Expr (.Call (.Attribute (.Name x lpos) "pop" apos) [e] [] cpos) pos) ρ (.nx (ρ.set i (some (.od (dropD ks ky))))) := fun F G H σ D ok post => by
  obtain ⟨v, hv1, q0, vs, rfl, hb, hg, hh, rl⟩ := ok.sl i (.od ks) hi
  refine ⟨_, ps_expr (hst (pv i hN hv hd hcd) (hpa pe_we)) hs, .ref q0, hv1, .inr (.inr (.inl ⟨rfl, .inl ⟨_, hh⟩⟩)), h F G H σ _ ok fun w rw => ?_⟩
  have hw := fl_rep (kD_fl ky) (show Rep X.K G (kD ky) w from rw)
  subst hw
  obtain ⟨z, hz, rz⟩ := (repK_look (j := ky) rl).1 d hl
  exact ⟨q0, vs, ky, z, rfl, rfl, hh, hz, post σ G _ (ok_chg ok hi rfl hv1 (fun _ _ z => HO.noConfusion z) ⟨q0, _, rfl, hb, hg, upd_same, repK_drop rl⟩)⟩
/-! ### d[k] = list(e); d[k][i] = d[k][i] + call - n -/
theorem sig_same {σ : L2.St} {i : Nat} {v : V} (h : σ[i]? = some (some v)) : σ.set i (some v) = σ := by
  refine List.ext_getElem? fun j => ?_
  by_cases z : i = j
  · subst z
    rw [List.getElem?_set_self (List.getElem?_eq_some_iff.mp h).1, h]
  · rw [List.getElem?_set_ne z]
theorem ok_forget {K : PySem.W.Frag} {F : Fr} {G H : Hp} {σ : L2.St} (ok : Ok K F G H σ ρ) (i : Nat) : Ok K F G H σ (ρ.set i none) :=
  ⟨ok.toHk, by rw [List.length_set]; exact ok.len, fun j t hj => ok.sl j t (forget_at hj).2, fun j l t t' a hj hl => ok.ow j l t t' a (forget_at hj).2 (forget_at hl).2⟩
theorem apart_forget {K : PySem.W.Frag} {F : Fr} {G H : Hp} {σ : L2.St} {i : Nat} {s : Sl} {q : Addr} (ok : Ok K F G H σ ρ) (hi : ρ[i]? = some (some s)) (ho : s.own = true) (hq : σ[i]? = some (some (.ref q))) : Apart σ (ρ.set i none) (.ref q) := fun j t hj oj ej => by
  obtain ⟨h1, h2⟩ := forget_at hj
  exact h1 (ok.ow i j s t q hi h2 ho oj hq ej).symm
end
end PL
set_option Elab.async false
set_option linter.all false
set_option maxRecDepth 100000
set_option maxHeartbeats 2000000
namespace PL
open PySem L2
theorem ixN_n {n j : Nat} (hj : j < n) : ixN n (j : Int) = some j := by
  unfold ixN
  rw [if_pos (by omega), if_pos (by omega)]
  simp
section
variable {X : Cx} {ρ ρ' ρ0 ρ1 ρ2 : Rh} {ks : List (Key × D)} {src k1 k2 k3 ix ix2 call : Expr} {pl pc ps1 ps2 p1 p2 p3 p4 p5 pb pb2 pm l1 l2 l3 : Pos} {jm : Option Str} {x : Str} {ky : Key} {s : Sl} {rest : List Stmt} {out : Out} {xs : List Int} {m c n : Int} {t : Nat}
/-- d[k] = list(e); d[k][i] = d[k][i] + call - m: the list is d's alone -/
theorem hs_nest {im} (i : Nat) (hu : X.A.units + 1 < cLine) (hi : ρ[i]? = some (some (.od ks))) (hz : ks.length < 100000)
    (hsrc : HG X src ρ s) (hit : s.items = some (xs.map D.int)) (hm : X.mg "list" = none) (hk1 : HG X k1 ρ (.sh (kD ky)))
    (hk3 : HG X k3 (ρ.set i none) (.sh (kD ky))) (hx2 : HG X ix2 (ρ.set i none) (.sh (.int t))) (hn : xs[t]? = some n) (hcall : HE X call (ρ.set i none) (.sh (.int c)) ρ2)
    (hk2 : HG X k2 ρ2 (.sh (kD ky))) (hx : HG X ix ρ2 (.sh (.int t)))
    (hrest : HS X rest (ρ2.set i (some (.od (putD ks ky (.lst ((xs.set t (n + c - m)).map D.int)))))) out)
    (hN : X.N[i]? = some x := by rfl) (hg : Gl X "list" := by rfl)
    (hv : Vis X.env.scope x := by first | exact Or.inl rfl | exact Or.inr (Or.inl rfl) | exact Or.inr (Or.inr rfl)) (hd : (x == ("__debug__" : Str)) = false := by decide) (hcd : (x == ("__classdict__" : Str)) = false := by decide)
    (hst : starEach [src] X.env = (false, eval src X.env) :: starEach [] X.env := by rfl) (hpl : (backTo pc (starEach [] X.env)).any (·.1) = false := by rfl)
    (hs1 : swapsWith (.Call (.Name "list" pl) [src] [] pc) (some (.Subscript (.Name x l1) k1 p1)) ps1.line X.env = pure false := by rfl)
    (hns : NoSl k3 := by exact fun _ _ => rfl) (hpi : PlainIx ix2 := by exact fun _ _ => rfl) (hns2 : NoSl k2 := by exact fun _ _ => rfl)
    (hsw : swapsWithSole [.Subscript (.Subscript (.Name x l2) k2 p2) ix p3] (.BinOp (.BinOp (.Subscript (.Subscript (.Name x l3) k3 p4) ix2 p5) .Add call pb) .Sub (.Constant (.int m) im pm) pb2) ps2.line X.env = pure false := by rfl)
    (hsws : swappedStores [.Subscript (.Subscript (.Name x l2) k2 p2) ix p3] (.BinOp (.BinOp (.Subscript (.Subscript (.Name x l3) k3 p4) ix2 p5) .Add call pb) .Sub (.Constant (.int m) im pm) pb2) X.env = pure none := by rfl)
    (h1 : (assignEach [.Subscript (.Subscript (.Name x l2) k2 p2) ix p3] X.env).map (·.2) = [assign (.Subscript (.Subscript (.Name x l2) k2 p2) ix p3) X.env] := by rfl)
    (has : ∀ v, assign (.Subscript (.Subscript (.Name x l2) k2 p2) ix p3) X.env v = (do
      let ov ← holding [v] (eval (.Subscript (.Name x l2) k2 p2) X.env)
      let iv ← holding [v, ov] (eval ix X.env)
      standAt p3
      holding [v, ov, iv] (setItem ov iv v)
      release [v, ov, iv] []) := by intro _; rfl) :
    HS X (.Assign [.Subscript (.Name x l1) k1 p1] (.Call (.Name "list" pl) [src] [] pc) ps1 ::
      .Assign [.Subscript (.Subscript (.Name x l2) k2 p2) ix p3] (.BinOp (.BinOp (.Subscript (.Subscript (.Name x l3) k3 p4) ix2 p5) .Add call pb) .Sub (.Constant (.int m) im pm) pb2) ps2 :: rest) ρ out := fun F G H σ Ds ok post => by
  obtain ⟨ra, za, hra, hza, hqa⟩ := (v_add : OpV X (binaryOp .Add) (.int n) (.int c) (.int (n + c)))
  obtain ⟨rs, zs, hrs, hzs, hqs⟩ := (v_sub : OpV X (binaryOp .Sub) (.int (n + c)) (.int m) (.int (n + c - m)))
  cases hza
  cases hzs
  refine ⟨_, pss_cons ps_ws pss_wss, ⟨_, ps_dput hu (pv i hN hv hd hcd) pe_we pe_we hs1, he_list hsrc hit hm hg hst hpl F G H σ _ ok fun v G1 H1 e1 ok1 rv => ?_⟩⟩
  obtain ⟨p, vs, rfl, pb, pg, ph, pr⟩ := rv.ok
  obtain ⟨v1, hv2, q, kvs, rfl, qb, qg, qh, ql⟩ := ok1.sl i (.od ks) hi
  have pap := rv.ap rfl
  have hpq : p ≠ q := fun z => by subst z; rw [ph] at qh; cases qh
  obtain rfl : vs = xs.map V.int := repL_ints pr
  refine ⟨.ref q, hv2, hk1 F G1 H1 σ _ ok1 fun y ry => ?_⟩
  rw [fl_rep (kD_fl ky) (show Rep X.K G1 (kD ky) y from ry)]
  refine ⟨q, _, rfl, DPut.k qh (ln_lt (by rw [repK_len ql]; exact hz)), ?_⟩
  have nz : ∀ (u : List (Key × V)) a b, HO.dK u ≠ .frz a b := fun _ _ _ z => HO.noConfusion z
  have nzl : ∀ (u : List V) a b, HO.lst u ≠ .frz a b := fun _ _ _ z => HO.noConfusion z
  have qap := apart_forget ok1 hi rfl hv2
  have ok2 := ok_side (u := .dK (putK kvs ky (.ref p))) (ok_forget ok1 i) qb qg qap (nz _)
  have h2q : upd H1 q (.dK (putK kvs ky (.ref p))) q = some (.dK (putK kvs ky (.ref p))) := upd_same
  have h2p : upd H1 q (.dK (putK kvs ky (.ref p))) p = some (.lst (xs.map V.int)) := by rw [upd_ne hpq]; exact ph
  generalize upd H1 q (.dK (putK kvs ky (.ref p))) = H2 at ok2 h2q h2p ⊢
  have pap' : Apart σ (ρ.set i none) (.ref p) := fun j t hj oj => pap j t (forget_at hj).2 oj
  have hval : valV (putK kvs ky (.ref p)) ky = some (.ref p) := by rw [valV_put, if_pos rfl]
  have hlt : t < xs.length := (List.getElem?_eq_some_iff.mp hn).1
  have hat : atI (xs.map V.int) (t : Int) = some (.int n) := by
    unfold atI
    rw [ixN_n (by rw [List.length_map]; exact hlt)]
    show (xs.map V.int)[t]? = _
    rw [List.getElem?_map, hn]
    rfl
  refine ⟨_, pss_cons ps_ws pss_wss, ⟨_, ps_asg (pe_op hrs (pe_op hra (pe_ix ix_lt (pe_dget hu (pv i hN hv hd hcd) pe_we hns) pe_we hpi) pe_we) pe_int) (pg_sub (pe_dget hu (pv i hN hv hd hcd) pe_we hns2) pe_we set_list has) hsw hsws h1, ?_⟩⟩
  refine ⟨.ref q, hv2, hk3 F G1 H2 σ _ ok2 fun y ry => ?_⟩
  rw [fl_rep (kD_fl ky) (show Rep X.K G1 (kD ky) y from ry)]
  refine ⟨q, _, rfl, .inl ⟨_, ky, .inl h2q, rfl, hval.symm⟩, ?_⟩
  refine hx2 F G1 H2 σ _ ok2 fun w rw1 => ?_
  rw [int_of rw1]
  refine .inl ⟨p, _, (t : Int), _, rfl, rfl, SqL.of h2p, hat, ?_⟩
  have okp := ok_guard ok2 h2p pap'
  have okq := ok_guard okp h2q qap
  refine hcall _ G1 H2 σ _ okq fun w G3 H3 e3 ok3 rw2 => ?_
  have qbp : upd F.B p (.lst (xs.map V.int)) q = none := by rw [upd_ne (fun z => hpq z.symm)]; exact qb
  obtain ⟨ok4, h3q, g3q, ap3q⟩ := ok_unguard ok3 okp.toHk qbp qg (nz _)
  obtain ⟨ok5, h3p, g3p, ap3p⟩ := ok_unguard ok4 ok2.toHk pb pg (nzl _)
  rw [int_of rw2.ok]
  refine hqa H3 _ _ _ (rep_fl rfl) (rep_fl rfl) ?_
  refine hqs H3 _ _ _ (rep_fl rfl) (rep_fl rfl) ?_
  refine ⟨.ref q, hv2, hk2 F G3 H3 σ _ ok5 fun y ry => ?_⟩
  rw [fl_rep (kD_fl ky) (show Rep X.K G3 (kD ky) y from ry)]
  refine ⟨q, _, rfl, .inl ⟨_, ky, .inl h3q, rfl, hval.symm⟩, ?_⟩
  refine hx F G3 H3 σ _ ok5 fun w rw3 => ?_
  rw [int_of rw3]
  refine ⟨p, _, (t : Int), t, rfl, rfl, h3p, ixN_n (by rw [List.length_map]; exact hlt), ?_⟩
  have ok6 := ok_side (u := .lst ((xs.map V.int).set t (.int (n + c - m)))) ok5 pb g3p ap3p (nzl _)
  have ok7 := ok6.freeze pb g3p upd_same (nzl _) ap3p
  have e13 : Ex G1 (upd G3 p (.lst ((xs.map V.int).set t (.int (n + c - m))))) := e3.trans (Ex.new g3p)
  have res : Res X.K F (upd G3 p (.lst ((xs.map V.int).set t (.int (n + c - m))))) (upd H3 p (.lst ((xs.map V.int).set t (.int (n + c - m))))) σ ρ2 (.od (putD ks ky (.lst ((xs.set t (n + c - m)).map D.int)))) (.ref q) := by
    refine ⟨⟨q, _, rfl, qb, by rw [upd_ne (fun z => hpq z.symm)]; exact g3q, by rw [upd_ne (fun z => hpq z.symm)]; exact h3q, repK_put (RepK.mono e13 ql) ?_⟩, fun _ => ap3q⟩
    simp only [Rep]
    refine ⟨p, _, rfl, upd_same, ?_⟩
    rw [← List.map_set]
    exact repL_ints'
  have ok8 := ok7.put (i := i) res
  rw [sig_same hv2] at ok8
  exact hrest F _ _ σ Ds ok8 post
end
end PL
set_option Elab.async false
set_option linter.all false
set_option maxRecDepth 100000
namespace PL
open PySem L2
section
variable {X : Cx} {ρ ρ' ρ0 ρ1 ρ2 : Rh} {s s1 s2 : Sl} {d d1 d2 : D} {e a b c o : Expr} {es : List Expr} {pos spos p q py apos cpos : Pos} {x f m y : Str} {ds : List D} {ss : List Sl} {k : Nat} {r : Sl}
/-- y = [e for x in ..] with elements that change the slots -/
theorem hs_setMapS {R : Nat → Rh} {g : Nat → D} {tg iter elt : Expr} {scope : Scope} (l : Nat) (own : List (Str × Nat)) (is : List Nat) (hi : HI X tg iter ρ ds ρ0) (h0 : R 0 = ρ0) (hlen : ∀ i, (R i).length = ρ0.length) (hkeep : ∀ i, ∀ j ∈ own.map (·.2), (R i)[j]? = ρ0[j]?) (hN : X.N.Nodup) (ok : BlkOk X.N X.env.scope scope own)
    (hsw : swapsWith (.ListComp elt [⟨tg, iter, [], 0⟩] scope pos) (some (.Name y py)) spos.line X.env = pure true) (hbig : ds.length < 100000)
    (ht : ∀ (i : Nat) (d : D), ds[i]? = some d → ∃ ρt, (∀ s H C cl fp, HB (Bk X scope s H C cl fp) tg is d (wr (R i) (own.map (·.2))) ρt) ∧ ∃ ρ2, (∀ s H C cl fp, HE (Bk X scope s H C cl fp) elt ρt (.sh (g i)) ρ2) ∧ wr ρ2 (own.map (·.2)) = wr (R (i + 1)) (own.map (·.2)))
    (hsh : noOwn ρ0 (own.map (·.2)) = true := by rfl) (his : ∀ j ∈ is, j ∈ own.map (·.2) := by decide) (hy : X.N[l]? = some y := by rfl) (hyl : X.env.scope.names.lookup y = some .local := by rfl) (hc : X.calm = true := by rfl) (hs : ∀ x, foldedSetIterable iter X.env x = pure x := by intro _; rfl) :
    HS1 X (.Assign [.Name y py] (.ListComp elt [⟨tg, iter, [], 0⟩] scope pos) spos) ρ (.nx ((R ds.length).set l (some (.ol ((List.range ds.length).map g))))) := by
  refine hs_setLc (R := R) (acc := fun i => (List.range i).map g) l own hi ⟨h0, rfl, fun i _ => hlen i, fun i _ => hkeep i, noOwn_sh hsh, fun i h => by rw [List.length_map, List.length_range]; omega, fun i d hd => ?_⟩ hN ok hsw hy hyl hc hs
  obtain ⟨ρt, hb, ρ2, he, hw⟩ := ht i d hd
  exact ⟨is, ρt, true, ρt, his, hb, fun _ _ _ _ _ => hts_nil, fun _ => ⟨g i, ρ2, he, by rw [List.range_succ, List.map_append]; rfl, hw⟩, fun z => by cases z⟩
theorem he_listDE {ks : List (Key × D)} (ha : HE X a ρ (.sh (.dct ks)) ρ1) (hm : X.mg "list" = none) (hg : Gl X "list" := by rfl) (hc : X.calm = true := by rfl) (hst : starEach [a] X.env = (false, eval a X.env) :: starEach [] X.env := by rfl) (hpl : (backTo pos (starEach [] X.env)).any (·.1) = false := by rfl) :
    HE X (.Call (.Name "list" p) [a] [] pos) ρ (.ol (keysD ks)) ρ1 := fun F G H σ Q ok k =>
  ⟨_, pe_callTy (call_listD hc) hg hm PyProof.Rows.boot_list (pa_cons pe_we pa_nil hst) (by decide) (by decide) hst hpl, ha F G H σ _ ok fun v G1 H1 e1 ok1 r => by
    obtain ⟨a, vs, rfl, q, rl⟩ := rep_dct ok1.sub (show Rep X.K G1 (.dct ks) v from r.ok)
    refine ⟨a, vs, rfl, q, fun l n => ?_⟩
    obtain ⟨o1, o2⟩ := res_ol ok1 n (repL_keys rl)
    exact k _ _ _ e1 o1 o2⟩
/-- x != y of two instances with an own == -/
theorem ht_neOwn {C : Addr} {fs gs : List (Str × D)} {Fn : List D → Sl → Prop} (cd : EqC X.prog X.w X.K X.mg X.base k C Fn) (hr : Room (k + 1) X.A) (ha : HE X a ρ (.sh (.obj C fs)) ρ1) (hb : HE X b ρ1 (.sh (.obj C gs)) ρ2) (hf : Fn [.obj C fs, .obj C gs] (.sh (.bl true)))
    (hm : behindInMarks .NotEq b = false := by first | exact nomark _ | rfl) : HT X (.Compare a [.NotEq] [b] pos) ρ false ρ2 := fun F G H σ Q ok kk => by
  refine ⟨_, pt_cmpR (op_neOwn cd hr) pe_we pe_we hm, ha F G H σ _ ok fun v G1 H1 e1 ok1 rv => hb F G1 H1 σ _ ok1 fun w G2 H2 e2 ok2 rw => ?_⟩
  have r1 := Rep.mono e2 (show Rep X.K G1 (.obj C fs) v from rv.ok)
  have r2 := show Rep X.K G2 (.obj C gs) w from rw.ok
  have r1' := r1
  have r2' := r2
  simp only [Rep] at r1' r2'
  obtain ⟨pa, dx, vs, rfl, qa, _⟩ := r1'
  obtain ⟨pb, dy, ws, rfl, qb, _⟩ := r2'
  refine ⟨pa, pb, dx, dy, vs, ws, rfl, rfl, ok2.sub.ins qa, ok2.sub.ins qb, G2, [.obj C fs, .obj C gs], .sh (.bl true), rfl, ok2.sub, ok2.nf, repL_mk r1 (repL_one r2), hf, fun v G3 H3 hk3 sl => ⟨bl_of sl, false, rfl, ?_⟩⟩
  exact kk G3 H3 ((e1.trans e2).trans hk3.g0) (ok2.called hk3)
end
end PL
set_option Elab.async false
set_option linter.all false
set_option maxRecDepth 100000
set_option maxHeartbeats 2000000
namespace PL
open PySem L2
section
variable {X : Cx} {ρ ρ' ρ0 ρ1 ρ2 ρ3 : Rh} {s s1 s2 : Sl} {d d1 d2 : D} {e a b c o tg : Expr} {es : List Expr} {pos spos p q p1 p2 p3 apos cpos lpos tpos : Pos} {x f m y : Str} {ds l l' : List D} {ss : List Sl} {k : Nat} {r : Sl} {ks : List (Key × D)}
theorem repL_setAt {K : PySem.W.Frag} {G : Hp} : ∀ {ds : List D} {vs : List V} {i : Nat} {d : D} {v : V}, RepL K G ds vs → Rep K G d v → RepL K G (ds.set i d) (vs.set i v)
  | [], vs, i, d, v, h, r => by rw [repL_nil h]; exact repL_mk0
  | d0 :: ds, vs, 0, d, v, h, r => by
    obtain ⟨v0, t, rfl, h1, h2⟩ := repL_cons h
    exact repL_mk r h2
  | d0 :: ds, vs, i + 1, d, v, h, r => by
    obtain ⟨v0, t, rfl, h1, h2⟩ := repL_cons h
    exact repL_mk h1 (repL_setAt h2 r)
/-- xs[j] = e, xs an owned list's name -/
theorem hs_lput {j : Nat} (i : Nat) (h : HE X e ρ (.sh d) ρ1) (hi1 : ρ1[i]? = some (some s1)) (hl : s1.isL = some ds) (hx : HG X a ρ1 (.sh (.int j))) (hj : j < ds.length) (hN : X.N[i]? = some x := by rfl)
    (hv : Vis X.env.scope x := by first | exact Or.inl rfl | exact Or.inr (Or.inl rfl) | exact Or.inr (Or.inr rfl)) (hd : (x == ("__debug__" : Str)) = false := by decide) (hcd : (x == ("__classdict__" : Str)) = false := by decide)
    (hsw : swapsWithSole [.Subscript (.Name x lpos) a p3] e pos.line X.env = pure false := by rfl) (hsws : swappedStores [.Subscript (.Name x lpos) a p3] e X.env = pure none := by rfl)
    (h1 : (assignEach [.Subscript (.Name x lpos) a p3] X.env).map (·.2) = [assign (.Subscript (.Name x lpos) a p3) X.env] := by rfl)
    (has : ∀ v, assign (.Subscript (.Name x lpos) a p3) X.env v = (do
      let ov ← holding [v] (eval (.Name x lpos) X.env)
      let iv ← holding [v, ov] (eval a X.env)
      standAt p3
      holding [v, ov, iv] (setItem ov iv v)
      release [v, ov, iv] []) := by intro _; rfl) :
    HS1 X (.Assign [.Subscript (.Name x lpos) a p3] e pos) ρ (.nx (ρ1.set i (some (s1.setL (ds.set j d))))) := fun F G H σ Ds ok post => by
  refine ⟨_, ps_asg pe_we (pg_sub (pv i hN hv hd hcd) pe_we set_list has) hsw hsws h1, h F G H σ _ ok fun w G1 H1 e1 ok1 rw => ?_⟩
  obtain ⟨v1, hv2, r1⟩ := ok1.sl i s1 hi1
  obtain ⟨q, vs, rfl, hh, rl, fin⟩ := slL_at hl r1
  have hg : G1 q = none := by
    obtain ⟨p', _, e', _, g', _⟩ := own_ref r1 (slL_own hl)
    cases e'
    exact g'
  refine ⟨.ref q, hv2, hx F G1 H1 σ _ ok1 fun y ry => ?_⟩
  rw [int_of ry]
  refine ⟨q, vs, (j : Int), j, rfl, rfl, hh, ixN_n (by rw [repL_len rl]; exact hj), post σ G1 _ (ok_chg ok1 hi1 (slL_own hl) hv2 (fun _ _ z => HO.noConfusion z) (fin hg upd_same (repL_setAt rl rw.ok)))⟩
/-- f([..]) that changes the list it is given -/
theorem he_callIoT {Fio' : List D → List D → Sl → List D → Prop} (cd : Fio X.prog X.w X.K X.mg X.base k x Fio') (hr : Room k X.A) (h : HE X e ρ (.ol l) ρ1) (hf : Fio' l [] r l') (hn : r.nio = true := by rfl) (hg : Gl X x := by rfl) (hdb : (x == ("__debug__" : Str)) = false := by decide)
    (hst : starEach [e] X.env = (false, eval e X.env) :: starEach [] X.env := by rfl) (hpl : (backTo pos (starEach [] X.env)).any (·.1) = false := by rfl) : HE X (.Call (.Name x p) [e] [] pos) ρ r ρ1 := fun F G H σ Q ok kk => by
  obtain ⟨f, fd, ps, F1, hm, hk, hb⟩ := cd.ex
  refine ⟨_, pe_call F1 hr hg hm hk hb .nil pass0 (pa_cons pe_we pa_nil hst) hdb hst hpl, h F G H σ _ ok fun v G1 H1 e1 ok1 rv => ?_⟩
  obtain ⟨q, ls, rfl, bq, gq, hq, rl⟩ := rv.ok
  have ap := rv.ap rfl
  refine ⟨G1, q, [], l, ls, [], r, l', hn, by simp, ok1.sub, ok1.nf, gq, hq, rl, repL_mk0, hf, fun v G2 H2 ls' hk2 g2 h2 rl2 sl => ?_⟩
  have hB : ∀ a, a ≠ q → (fun a => if a = q then none else H1 a) a = H1 a := fun a z => if_neg z
  have hnq : ∀ (j : Nat) (t : Sl) (a : Addr), ρ1[j]? = some (some t) → t.own = true → σ[j]? = some (some (.ref a)) → a ≠ q := fun j t a h1 ot h3 z => ap j t h1 ot (z ▸ h3)
  have okF : Ok X.K F G2 H2 σ ρ1 := by
    refine ⟨⟨hk2.sub, fun a o ea => ?_, ok1.g0.trans hk2.g0, fun a o ea => ?_, hk2.nf, fun a o u ea => ?_⟩, ok1.len, fun j t hj => ?_, ok1.ow⟩
    · have z : a ≠ q := fun z => by rw [z, bq] at ea; cases ea
      exact hk2.bh a o ((hB a z).trans (ok1.bh a o ea))
    · rcases hk2.gn a o ea with z | z
      · exact ok1.gn a o z
      · by_cases y : a = q
        · rw [y]; exact .inr bq
        · exact .inr (none_of_ex ok1.bh ((hB a y).symm.trans z))
    · have z := hk2.fz a o u ea
      by_cases y : a = q
      · have z : (if a = q then none else H1 a) = some (.frz o (.dK u)) := z
        rw [if_pos y] at z; cases z
      · exact ok1.fz a o u ((hB a y).symm.trans z)
    · obtain ⟨w, w1, w2⟩ := ok1.sl j t hj
      refine ⟨w, w1, w2.move hk2.g0 fun ot a ea => ?_⟩
      subst ea
      have nq := hnq j t a hj ot w1
      obtain ⟨a', u, ea', b', g', h', _⟩ := own_ref w2 ot
      cases ea'
      have hB' : (fun a => if a = q then none else H1 a) a = some u := (hB a nq).trans h'
      refine ⟨?_, (hk2.bh a u hB').trans h'.symm⟩
      cases z2 : G2 a with
      | none => rfl
      | some u' =>
        rcases hk2.gn a u' z2 with y | y
        · rw [show G1 a = some u' from y] at g'; cases g'
        · have := y.symm.trans hB'; cases this
  refine kk v G2 H2 (e1.trans hk2.g0) okF ⟨rebase sl hn ok1.bh, fun oo => ?_⟩
  obtain ⟨q2, rfl, bq2⟩ := own_new sl hn oo
  exact (ok1.free bq2).2.2
/-- xs[::-1] -/
theorem he_revL {kk : Nat} (h : HE X e ρ (.sh (.lst ds)) ρ1) : HE X (.Subscript e (.Slice none none (some (.UnaryOp .USub (.Constant (.int 1) kk p1) p2)) p3) pos) ρ (.ol ds.reverse) ρ1 := fun F G H σ Q ok k =>
  ⟨_, pe_revL pe_we, h F G H σ _ ok fun v G1 H1 e1 ok1 r => by
    obtain ⟨a, vs, rfl, q, rl⟩ := rep_lst ok1.sub r.ok
    refine ⟨a, vs, rfl, q, fun p hp => ?_⟩
    have hr : RepL X.K G1 ds.reverse vs.reverse := by
      clear q k r hp h
      induction ds generalizing vs with
      | nil => rw [repL_nil rl]; exact repL_mk0
      | cons d0 t ih =>
        obtain ⟨v0, t', rfl, h1, h2⟩ := repL_cons rl
        rw [List.reverse_cons, List.reverse_cons]
        exact repL_append (ih _ h2) (repL_one h1)
    obtain ⟨o1, o2⟩ := res_ol ok1 hp hr
    exact k _ _ _ e1 o1 o2⟩
/-- dict(xs) of a list of pairs -/
theorem he_dictP (h : HE X e ρ (.sh (.lst (itemsD ks))) ρ1) (hnd : (ks.map (·.1)).Nodup) (hm : X.mg "dict" = none) (hg : Gl X "dict" := by rfl) (hc : X.calm = true := by rfl) (hst : starEach [e] X.env = (false, eval e X.env) :: starEach [] X.env := by rfl) (hpl : (backTo pos (starEach [] X.env)).any (·.1) = false := by rfl) :
    HE X (.Call (.Name "dict" p) [e] [] pos) ρ (.od ks) ρ1 := fun F G H σ Q ok k =>
  ⟨_, pe_callTy (call_dictP hc) hg hm PyProof.Rows.boot_dict (pa_cons pe_we pa_nil hst) (by decide) (by decide) hst hpl, h F G H σ _ ok fun v G1 H1 e1 ok1 r => by
    obtain ⟨a, vs, rfl, q, rl⟩ := rep_lst ok1.sub r.ok
    obtain ⟨ps, kvs, rfl, hp, rk⟩ := items_pairs ok1.sub rl
    refine ⟨a, ps, kvs, rfl, q, hp, fun l n => ?_⟩
    have hn : (kvs.map (·.1)).Nodup := by rw [repK_keys rk]; exact hnd
    rw [mergeK_nodup (kvs := []) (by simpa using hn), List.nil_append]
    obtain ⟨o1, o2⟩ := res_od ok1 n rk
    exact k _ _ _ e1 o1 o2⟩
theorem c_any (hc : X.calm = true) {bs : List Bool} : CallV X (.builtin "any") [.lst (bs.map D.bl)] (.bl (bs.any id)) := ⟨_, _, cr_any hc, rfl, fun H vs Q r q => by
  obtain ⟨v, t, rfl, r1, r2⟩ := repL_cons r
  rw [repL_nil r2]
  obtain ⟨a, ws, rfl, hq, rl⟩ := rep_lst strip_sub r1
  rw [repL_bls rl] at hq
  exact ⟨a, bs, rfl, hq, q⟩⟩
/-- range(a, b, c) -/
theorem hi_range3 {i j w : Int} {n : Nat} (h : HEA X [a, b, c] ρ [.int i, .int j, .int w] ρ') (hR : RgC i j w n) (hg : Gl X "range") (hm : X.mg "range" = none)
    (hs : starEach [a, b, c] X.env = (false, eval a X.env) :: starEach [b, c] X.env := by rfl) (hpl : (backTo pos (starEach [b, c] X.env)).any (·.1) = false := by rfl) : HI X tg (.Call (.Name "range" p) [a, b, c] [] pos) ρ ((List.range n).map fun (m : Nat) => D.int (i + (m : Int) * w)) ρ' := fun F G H σ R ok k =>
  ⟨_, pi_range3 hg hm pa_wa hs hpl, h F G H σ _ ok fun vs G1 H1 e1 ok1 r => by
    obtain ⟨v1, t1, rfl, r1, r2⟩ := repL_cons r
    obtain ⟨v2, t2, rfl, r3, r4⟩ := repL_cons r2
    obtain ⟨v3, t3, rfl, r5, r6⟩ := repL_cons r4
    rw [repL_nil r6, fl_rep (v := .int i) rfl r1, fl_rep (v := .int j) rfl r3, fl_rep (v := .int w) rfl r5]
    refine ⟨i, j, w, n, rfl, hR, k _ _ G1 H1 e1 ok1.into rfl ⟨fun m F' G H σ ρ le hm ok => ?_, fun F' G H σ ρ le ok => ?_, fun m F' G H σ ρ y H' le hm ok z => ?_⟩ (exit_into ok1)⟩
    · exact walk_rangeC.goes m H (by simpa using hm) trivial
    · have := (walk_rangeC (lo := i) (c := w) (n := n)).stops H trivial
      simpa using this
    · obtain ⟨z1, z2⟩ := walk_rangeC.yields m H y H' (by simpa using hm) trivial z
      subst z1
      subst z2
      exact ⟨.int (i + (m : Int) * w), G, by simp [List.getElem?_range (show m < n by simpa using hm)], Ex.refl _, ok, rep_fl rfl⟩⟩
def valsD (ks : List (Key × D)) : List D := ks.map fun kv => kv.2
theorem wk_vals {K : PySem.W.Frag} {F : Fr} {p : Addr} {ob : Obj} {vs : List (Key × V)} {ks : List (Key × D)} (hg : ∀ F' G H σ ρ, FrLe F F' → Ok K F' G H σ ρ → H p = some (.frz ob (.dK vs))) (hr : RepK K F.G0 ks vs) : Wk K F (Itd p ob vs) (valsD ks) where
  go := fun i F' G H σ ρ le hi ok => walk_values.goes i H (by rw [repK_len hr]; simpa [valsD] using hi) (hg _ _ _ _ _ le ok)
  st := fun F' G H σ ρ le ok => by
    have := (walk_values (d := p) (o := ob) (kvs := vs)).stops H (hg _ _ _ _ _ le ok)
    rw [repK_len hr] at this
    simpa [valsD] using this
  yl := fun i F' G H σ ρ x H' le hi ok y => by
    obtain ⟨e, kk, h1⟩ := walk_values.yields i H x H' (by rw [repK_len hr]; simpa [valsD] using hi) (hg _ _ _ _ _ le ok) y
    subst e
    obtain ⟨d, e1, e2⟩ := repK_get hr h1
    exact ⟨d, G, by simp [valsD, e1], Ex.refl _, ok, e2.mono (le.2.trans ok.g0)⟩
theorem hi_values {ks : List (Key × D)} (h : HE X e ρ (.sh (.dct ks)) ρ') (hbase : attributeBase e "values" X.env (eval e X.env) = eval e X.env := by rfl) (hline : (apos.endLine == cpos.line) = true := by rfl) :
    HI X tg (.Call (.Attribute e "values" apos) [] [] cpos) ρ (valsD ks) ρ' := fun F G H σ R ok k => by
  refine ⟨fun σ H R => WE X e σ H fun x H1 => (∃ d kvs, x = .ref d ∧ H1 d = some (.dK kvs) ∧ ∀ o, (∀ o' u', X.H_0 d ≠ some (.frz o' u')) → R (Itd d o kvs) (upd H1 d (.frz o (.dK kvs)))) ∨ ∃ d o kvs, x = .ref d ∧ H1 d = some (.frz o (.dK kvs)) ∧ R (Itd d o kvs) H1, ?_, ?_⟩
  · refine ⟨fun pins s σ H R I h => ?_⟩
    obtain ⟨t, pt, q⟩ := h
    refine wpAny_Call_method (T := "dict") (id := "dict.values") hbase rfl hline PySem.F.plainAttrs_dict PySem.F.slot_dict_values PySem.F.type_dict_values (thn (pt.run pins s σ H _ I q) fun u s1 ⟨x, H1, I1, rx, q1⟩ => ?_)
    obtain ⟨d, o, kvs, H2, ex, hd, I1, q⟩ : ∃ d o kvs H2, x = .ref d ∧ H2 d = some (.frz o (.dK kvs)) ∧ Inv X pins σ H2 s1 ∧ R (Itd d o kvs) H2 := by
      rcases q1 with ⟨d, kvs, ex, hd, q⟩ | ⟨d, o, kvs, ex, hd, q⟩
      · have nf := I1.nofrz hd trivial
        obtain ⟨od, I2⟩ := I1.lock hd trivial
        exact ⟨d, od, kvs, _, ex, upd_same, I2, q od nf⟩
      · exact ⟨d, o, kvs, _, ex, hd, I1, q⟩
    subst ex
    obtain rfl : u = Value.ref d := rx
    obtain ⟨hs, hgd, hx, es, ep, vs, hdt, hsz, kv, hm⟩ := I1.frzK hd
    have hl : kvs.length = vs.length := Paired.length kv
    refine ⟨hm.dictOf.typeIs, hm.dictOf.mapOf.noDict, ?_⟩
    have I2 : Inv X pins σ H2 { s1 with heap := s1.heap.push { cls := .type "dict_values", data := .fields #[.ref d] } } := I1.kept (t' := s1.toks) fun b ob q => Heap.get?_push_of_some _ q
    have fin : wpAny (model X.prog X.w) X.A (pyIter (.ref s1.heap.objs.size)) (PIE X pins σ tg R) X.xe { s1 with heap := s1.heap.push { cls := .type "dict_values", data := .fields #[.ref d] } } := by
      refine wpAny_pyIter_values (d := d) (knd := mixKind X.prog X.w) ⟨_, Heap.get?_push_size _ rfl, rfl, rfl⟩ (hm.push _) (pi_one (tk := s1.toks) I2 _ (turn_vals _ hdt) ⟨_, Heap.get?_push_size _ rfl, rfl, ?_⟩ q)
      rw [hl] <;> rfl
    show wpAny _ _ (callWith cpos (.builtin "dict.values") [.ref d] [] []) _ X.xe s1
    exact method_meetsIn PySem.F.slot_dict_values PySem.F.entry_dict_values rfl (PySem.evalArgs_none ⟨rfl, hm.dictOf.typeIs, PySem.F.args_dict_values_1 _, _, meets_dict_values (mixKind X.prog X.w) d hs, ⟨vs, hm.dictOf⟩, fin⟩)
  · refine h F G H σ _ ok fun v G1 H1 e1 ok1 r => ?_
    have rr := r.ok
    simp only [SlOk, Rep] at rr
    obtain ⟨p, vs, rfl, q, rl⟩ := rr
    rcases ok1.sub p _ q with hp | ⟨⟨ob, hp⟩, _⟩
    · refine .inl ⟨p, vs, rfl, hp, fun ob n => ?_⟩
      exact k _ _ G1 _ e1 (ok_lock ok1 q hp) rfl (wk_vals (fun F' G H σ ρ le ok => ok.bh p _ (le.1 p _ upd_same)) rl) (exit_lock ok1 q hp n)
    · exact .inr ⟨p, ob, vs, rfl, hp, k _ _ G1 H1 e1 ok1.into rfl (wk_vals (fun F' G H σ ρ le ok => ok.bh p _ (le.1 p _ (ok1.fz p _ _ hp))) rl) (exit_into ok1)⟩
end
/-! ### == of two equal dicts of data -/
section
variable {X : Cx} {a b : Expr} {pos : Pos}
def rEqDD (K : PySem.W.Frag) : R2 := fun x y H Q => ∃ a b ks ls, x = .ref a ∧ y = .ref b ∧ Rd H a (.dK ks) ∧ Rd H b (.dK ls) ∧ ks.length = ls.length ∧ (∀ p ∈ ks, ∃ z, valV ls p.1 = some z ∧ DEq K H p.2 z) ∧ Q (.bl true) H
theorem op_eqDD (hu : X.A.units < cLine) (hu1 : X.A.in1.units + 64 < cLine) : OpR X (compareOp .Eq) (rEqDD X.K) := by
  intro pins s σ H x y v u Q I rx ry h
  obtain ⟨a, b, ks, ls, rfl, rfl, ea, eb, hlen, hp, q⟩ := h
  obtain rfl : v = Value.ref a := rx
  obtain rfl : u = Value.ref b := ry
  obtain ⟨_, ya, va, ra, da⟩ := dk_rd I.hok ea
  obtain ⟨_, yb, vb, rb, db⟩ := dk_rd I.hok eb
  have hl : va.length = vb.length := by rw [← ra.length, ← rb.length]; exact hlen
  exact PySem.W.keq_eq (knd := mixKind X.prog X.w) (r := true) ya yb da db hu (fun _ => hits_dp hu1 I rb ra hp) (fin_bl I q (by simp [hl]))
theorem v_eqDct {ks : List (Key × D)} (hu : X.A.units < cLine) (hu1 : X.A.in1.units + 64 < cLine) (hn : (ks.map (·.1)).Nodup) (hs : ∀ p ∈ ks, okD p.2 = true ∧ SeqAt.shaped (pdD p.2) = true) : OpV X (compareOp .Eq) (.dct ks) (.dct ks) (.bl true) :=
  ⟨_, _, op_eqDD hu hu1, rfl, fun H v w Q ra rb q => by
    obtain ⟨p1, vs1, rfl, e1, r1⟩ := rep_dct strip_sub ra
    obtain ⟨p2, vs2, rfl, e2, r2⟩ := rep_dct strip_sub rb
    refine ⟨p1, p2, vs1, vs2, rfl, rfl, e1, e2, by rw [repK_len r1, repK_len r2], fun p hp => ?_, q⟩
    obtain ⟨d, hd, rd⟩ := repK_mem r1 p hp
    obtain ⟨z, hz, rz⟩ := (repK_look (j := p.1) r2).1 d (look_mem hn hd)
    obtain ⟨o, sh⟩ := hs _ hd
    exact ⟨z, hz, _, _, rep_dp strip_sub o rd, rep_dp strip_sub o rz, sh, sh, eqv_same d o⟩⟩
end
end PL
set_option Elab.async false
set_option linter.all false
set_option maxRecDepth 100000
namespace PL
open PySem L2
/-! ### a list that may be the module's own -/
theorem rep_klst {K : PySem.W.Frag} {G H : Hp} {ds : List D} {v : V} (s : Sub G H) (h : Rep K G (.klst ds) v) : ∃ a vs, v = .ref a ∧ SqL K H a vs ∧ RepL K G ds vs := by
  simp only [Rep] at h
  obtain ⟨a, vs, rfl, q, r⟩ := h
  refine ⟨a, vs, rfl, ?_, r⟩
  rcases q with q | q
  · exact .inl (s.rd q)
  · exact sqL_lift q
section
variable {X : Cx} {ρ : Rh} {d : D} {a b : Expr} {pos : Pos} {ds es : List D}
theorem c_lenK {es : List D} : CallV X (.builtin "len") [.klst es] (.int es.length) := ⟨_, _, call_len_seq, rfl, fun H vs Q r q => by
  obtain ⟨v, t, rfl, r1, r2⟩ := repL_cons r
  rw [repL_nil r2]
  obtain ⟨a, ws, rfl, hq, rl⟩ := rep_klst strip_sub r1
  exact ⟨a, ws, rfl, .inl hq, by rw [repL_len rl]; exact q⟩⟩
theorem hg_ixK {i : Int} (ha : HG X a ρ (.sh (.klst ds))) (hb : HG X b ρ (.sh (.int i))) (h : atI ds i = some d) (hs : PlainIx b := by exact fun _ _ => rfl) : HG X (.Subscript a b pos) ρ (.sh d) := fun F G H σ Q ok k =>
  ⟨_, pe_ix ix_lt pe_we pe_we hs, ha F G H σ _ ok fun v rv => hb F G H σ _ ok fun w rw => by
    obtain ⟨p, vs, rfl, q, r⟩ := rep_klst ok.sub (show Rep X.K G (.klst ds) v from rv)
    obtain ⟨z, hz, rz⟩ := atI_rep r h
    rw [int_of rw]
    exact .inl ⟨p, vs, i, z, rfl, rfl, q, hz, k z rz⟩⟩
end
end PL
set_option Elab.async false
set_option linter.all false
set_option maxRecDepth 100000
namespace PL
open PySem L2
section
variable {X : Cx} {ρ : Rh} {q1 q2 px py pt pos : Pos} {x y : Str}
/-- x, y = {}, {} -/
theorem hs_par2D {i j : Nat} {kt k2 pt2 : _} (hps : ∀ {ta : TA}, PA X [.Dict [] [] q1, .Dict [] [] q2] ta → PS X (.Assign [.Tuple [.Name x px, .Name y py] kt pt] (.Tuple [.Dict [] [] q1, .Dict [] [] q2] k2 pt2) pos) (tPar i j ta)) (hij : i ≠ j)
    (h1 : starEach [.Dict [] [] q1, .Dict [] [] q2] X.env = (false, eval (.Dict [] [] q1) X.env) :: starEach [.Dict [] [] q2] X.env := by rfl) (h2 : starEach [.Dict [] [] q2] X.env = (false, eval (.Dict [] [] q2) X.env) :: starEach [] X.env := by rfl) :
    HS1 X (.Assign [.Tuple [.Name x px, .Name y py] kt pt] (.Tuple [.Dict [] [] q1, .Dict [] [] q2] k2 pt2) pos) ρ (.nx ((ρ.set i (some (.od []))).set j (some (.od [])))) := fun F G H σ D ok post =>
  ⟨_, hps (pa_cons pe_dnewK (pa_cons pe_dnewK pa_nil h2) h1), fun p1 n1 p2 n2 => by
    have ok1 := ok.new (o := .dK []) n1 fun _ _ z => HO.noConfusion z
    have ok2 := ok1.new (o := .dK []) n2 fun _ _ z => HO.noConfusion z
    obtain ⟨b1, g1, a1⟩ := ok.free n1
    obtain ⟨b2, g2, a2⟩ := ok1.free n2
    have d12 : p1 ≠ p2 := fun z => by rw [← z, upd_same] at n2; cases n2
    refine ⟨.ref p1, .ref p2, rfl, post _ G _ ?_⟩
    have o1 := ok2.put (i := i) (s := .od []) (v := .ref p1) ⟨⟨p1, [], rfl, b1, g1, by rw [upd_ne d12, upd_same], repK_mk0⟩, fun _ => a1⟩
    exact o1.put (i := j) (s := .od []) (v := .ref p2) ⟨⟨p2, [], rfl, b2, g2, upd_same, repK_mk0⟩, fun _ => apart_put a2 ok.len (fun z => d12 (V.ref.inj z))⟩⟩
end
theorem cut_from (xs : List D) (n : Nat) : cutD xs (some (n : Int)) none = xs.drop n := by
  unfold cutD
  have h1 : HT.sIx xs.length 0 (some (n : Int)) = min n xs.length := by
    unfold HT.sIx
    simp
    try omega
  have h2 : HT.sIx xs.length xs.length none = xs.length := by
    unfold HT.sIx
    simp
  rw [h1, h2]
  rcases Nat.lt_or_ge xs.length n with z | z
  · rw [show min n xs.length = xs.length by omega, List.drop_of_length_le (Nat.le_refl _), List.drop_of_length_le (by omega)]
    simp
  · rw [show min n xs.length = n by omega]
    exact List.take_of_length_le (by rw [List.length_drop]; omega)
end PL
set_option Elab.async false
set_option linter.all false
set_option maxRecDepth 100000
namespace PL
open PySem L2
section
variable {X : Cx} {pos : Pos}
/-- (a, b, ..) = a list of that length -/
def gLst (K : PySem.W.Frag) (n : Nat) (t : TGs) : TG := fun v σ H Q => ∃ a xs, v = .ref a ∧ SqL K H a xs ∧ xs.length = n ∧ t xs σ H Q
theorem pg_lst {es : List Expr} {k : Nat} {t : TGs} {n : Nat} (hc : X.calm = true) (h : PGs X es t)
    (hn : (assignEach es X.env).length = n := by rfl) (hst : (assignEach es X.env).findIdx? (·.1) = none := by rfl) : PG X (.Tuple es k pos) (gLst X.K n t) := by
  refine ⟨fun pins s σ H v u Q I r hw => ?_⟩
  obtain ⟨a, xs, e1, hq, hl, hw⟩ := hw
  subst e1
  cases r
  obtain ⟨its, rv, ht, hz⟩ := I.list hq
  have e2 : (assignEach es X.env).length = its.toArray.size := by simp [hn, ← hl, rv.length]
  rw [PyProof.Rows.assign_Tuple]
  refine wpAny_bind (wpAny_standAt ?_)
  unfold unpack
  rw [e2, hst]
  refine wpAny_bind (wpAny_holding (PySem.W.kun_itemsOf (I.ok.hd hc) ht.isList fun h' hx => ?_))
  have I1 : Inv X pins σ H { s with heap := h' } := I.kept (t' := s.toks) fun b o e => hx b o (Nat.ne_of_lt (Heap.lt_size e)) e
  exact h.run pins _ σ H xs _ Q I1 (by simpa using rv) hw
variable {ρ ρ1 : Rh} {es : List Expr} {ds : List D}
theorem hb_lstT {kk : Nat} {is : List Nat} (h : HBs X es is ds ρ ρ1) (hc : X.calm = true := by rfl) (hn : (assignEach es X.env).length = ds.length := by rfl) (hst : (assignEach es X.env).findIdx? (·.1) = none := by rfl) : HB X (.Tuple es kk pos) is (.lst ds) ρ ρ1 := fun F G H σ v Q ok r k => by
  obtain ⟨p, vs, rfl, q, rl⟩ := rep_lst ok.sub r
  exact ⟨_, pg_lst hc pgs_wgs hn hst, p, vs, rfl, q, repL_len rl, h F G H σ vs Q ok rl k⟩
variable {x f : Str} {e : Expr} {p q : Pos} {k : Nat} {d1 : D} {ks : List (Key × D)} {Fn : List D → Sl → Prop} {n m : Int}
/-- f(e, x), x an owned dict that is lent; what comes back is a pair of numbers -/
theorem he_lend (i : Nat) (cd : Fd X.prog X.w X.K X.mg X.base k f Fn) (hr : Room k X.A) (h1 : HG X e ρ (.sh d1)) (hi : ρ[i]? = some (some (.od ks))) (hf : Fn [d1, .dct ks] (.sh (.tup [.int n, .int m])))
    (h2 : HG X (.Name x q) ρ (.od ks)) (hg : Gl X f := by rfl) (hdb : (f == ("__debug__" : Str)) = false := by decide)
    (hst : starEach [e, .Name x q] X.env = (false, eval e X.env) :: starEach [.Name x q] X.env := by rfl) (hst2 : starEach [.Name x q] X.env = (false, eval (.Name x q) X.env) :: starEach [] X.env := by rfl) (hpl : (backTo pos (starEach [.Name x q] X.env)).any (·.1) = false := by rfl) :
    HE X (.Call (.Name f p) [e, .Name x q] [] pos) ρ (.sh (.tup [.int n, .int m])) ρ := fun F G H σ Q ok kk => by
  obtain ⟨fa, fd, ps, F1, hm, hk, hb⟩ := cd.ex
  refine ⟨_, pe_call F1 hr hg hm hk hb .nil pass0 (pa_cons pe_we (pa_cons pe_we pa_nil hst2) hst) hdb hst hpl, ?_⟩
  refine h1 F G H σ _ ok fun v r1 => h2 F G H σ _ ok fun w r2 => ?_
  obtain ⟨a, vs, rfl, b0, g0, ha, rk⟩ := r2
  have ex : Ex G (upd G a (.dK vs)) := Ex.new g0
  refine ⟨upd G a (.dK vs), [d1, .dct ks], .sh (.tup [.int n, .int m]), rfl, ?_, ?_, ?_, hf, fun v2 G2 H2 hk2 sl => ?_⟩
  · intro c o hc
    by_cases z : c = a
    · subst z
      rw [upd_same] at hc
      cases hc
      exact .inl ha
    · rw [upd_ne z] at hc
      exact ok.sub _ _ hc
  · exact nf_upd ok.nf fun _ _ z => HO.noConfusion z
  · rw [List.append_nil]
    refine repL_mk (Rep.mono ex r1) (repL_mk ?_ repL_mk0)
    simp only [Rep]
    exact ⟨a, vs, rfl, upd_same, RepK.mono ex rk⟩
  · have hga : G2 a = some (.dK vs) := hk2.g0 a _ upd_same
    have hG' : ∀ c o, (if c = a then none else G2 c) = some o → c ≠ a ∧ G2 c = some o := fun c o h => by
      by_cases z : c = a
      · rw [if_pos z] at h; cases h
      · rw [if_neg z] at h; exact ⟨z, h⟩
    have exG : Ex G (fun c => if c = a then none else G2 c) := fun c o h => by
      have z : c ≠ a := fun z => by rw [z, g0] at h; cases h
      show (if c = a then none else G2 c) = some o
      rw [if_neg z]
      exact hk2.g0 c o (ex c o h)
    have hgn : ∀ c o, G2 c = some o → c ≠ a → G c = some o ∨ H c = none := fun c o h z => by
      rcases hk2.gn c o h with y | y
      · have y : upd G a (.dK vs) c = some o := y
        rw [upd_ne z] at y
        exact .inl y
      · exact .inr y
    refine kk v2 (fun c => if c = a then none else G2 c) H2 exG ?_ ⟨?_, fun z => by cases z⟩
    · refine ok.move ⟨fun c o h => hk2.sub c o (hG' c o h).2, ok.bh.trans hk2.bh, ok.g0.trans exG, fun c o h => ?_, fun c o u h => hk2.nf c o u (hG' c _ h).2, fun c o u h => ok.fz c o u (hk2.fz c o u h)⟩ exG fun i s c hi o hc => ?_
      · obtain ⟨z, h⟩ := hG' c o h
        rcases hgn c o h z with y | y
        · exact ok.gn c o y
        · exact .inr (none_of_ex ok.bh y)
      · obtain ⟨v', hv, hs⟩ := ok.sl i s hi
        obtain ⟨p', u, e', b', g', hh, _⟩ := own_ref hs o
        rw [hv, e'] at hc
        cases hc
        refine ⟨?_, (hk2.bh c u hh).trans hh.symm⟩
        by_cases z : c = a
        · exact if_pos z
        · show (if c = a then none else G2 c) = none
          rw [if_neg z]
          cases r : G2 c with
          | none => rfl
          | some u' =>
            rcases hgn c u' r z with y | y
            · rw [y] at g'; cases g'
            · rw [y] at hh; cases hh
    · have sl : Rep X.K G2 (.tup [.int n, .int m]) v2 := sl
      simp only [Rep, RepL] at sl
      show Rep X.K (fun c => if c = a then none else G2 c) (.tup [.int n, .int m]) v2
      simp only [Rep, RepL]
      obtain ⟨c, us, e1, t, e2⟩ := sl
      refine ⟨c, us, e1, ?_, e2⟩
      rcases t with (t | ⟨o, t⟩) | t
      · have z : c ≠ a := fun z => by rw [z, hga] at t; cases t
        exact .inl (.inl (by show (if c = a then none else G2 c) = _; rw [if_neg z]; exact t))
      · have z : c ≠ a := fun z => by rw [z, hga] at t; cases t
        exact .inl (.inr ⟨o, by show (if c = a then none else G2 c) = _; rw [if_neg z]; exact t⟩)
      · exact .inr t
end
end PL
set_option Elab.async false
set_option linter.all false
set_option maxRecDepth 100000
set_option maxHeartbeats 2000000
namespace PL
open PySem L2
/-! ### list(d.items()), d perhaps locked -/
theorem items_laidL {X : Cx} {pins : List (Addr × Obj)} {σ : L2.St} {H : Hp} {s : Shared} {h' : Heap} {tk : Nat} {kvs : List (Key × V)} {vs : List (Key × Value)} {acc : Array Value} {c : Nat} {as : List Addr} (I : Inv X pins σ H s) (hz : kvs.length ≤ sizeLine) (kv : KV kvs vs)
    (hk : ∀ b o, s.heap.get? b = some o → h'.get? b = some o) (hS : h'.get? s.heap.objs.size = some { cls := .type "list", dict := none, data := .seq acc c, slots := #[] }) (hl : as.length = vs.length) (hG : PySem.W.KdxG (mixKind X.prog X.w) vs s.heap.objs.size h' as) (hacc : acc.toList = as.map Value.ref) :
    ∃ H' : Hp, Ex H H' ∧ H s.heap.objs.size = none ∧ (∀ t ∈ as, H t = none) ∧ s.heap.objs.size ∉ as ∧ H' s.heap.objs.size = some (.lst (as.map V.ref)) ∧ Paired (fun (t : Addr) (q : Key × V) => H' t = some (.tup [kV q.1, q.2])) as kvs ∧
      (∀ b, b ∉ as → b ≠ s.heap.objs.size → H' b = H b) ∧ Inv X pins σ H' { s with heap := h', toks := tk } := by
  obtain ⟨H1, k1, k3, k6, off, J⟩ := items_laid0 (tk := tk) I kv hk hl hG
  have lk : kvs.length = vs.length := Paired.length kv
  have hSn : s.heap.objs.size ∉ as := fun z => Nat.lt_irrefl _ (hG.above _ z)
  have newS : H s.heap.objs.size = none := I.hok.fresh (Nat.le_refl _)
  have h1S : H1 s.heap.objs.size = none := (off _ hSn).trans newS
  have ex1 : Ex H1 (upd H1 s.heap.objs.size (.lst (as.map V.ref))) := Ex.new h1S
  have kp : Ex H (upd H1 s.heap.objs.size (.lst (as.map V.ref))) := fun b u e => ex1 b u (k1 b u e)
  have offS : ∀ b, b ∉ as → b ≠ s.heap.objs.size → upd H1 s.heap.objs.size (.lst (as.map V.ref)) b = H b := fun b z1 z2 => by rw [upd_ne z2]; exact off b z1
  refine ⟨upd H1 s.heap.objs.size (.lst (as.map V.ref)), kp, newS, k3, hSn, upd_same, Paired.mapP k6 (fun t z h => ex1 t _ h), offS, ?_⟩
  refine I.call' (ch := []) rfl ⟨fun b o q _ _ _ => hk b o q, fun b o q _ _ _ => ⟨o.slots, hk b o q⟩, fun b o q n _ => ?_, fun b o q _ => ⟨o, hk b o q⟩, fun b xs q => kp b _ q, fun b o u q => kp b _ q, fun b ps q => ⟨#[], by rw [kp b _ q]; simp⟩⟩ (fun b u q => ?_) I.bare fun b z => by simp at z
  · have lt := Heap.lt_size q
    rw [offS b (fun z => absurd lt (Nat.not_lt.mpr (Nat.le_of_lt (hG.above b z)))) (Nat.ne_of_lt lt)]
    exact n
  · by_cases hb : b = s.heap.objs.size
    · subst hb
      rw [upd_same] at q
      cases q
      refine ⟨by rw [List.length_map]; omega, acc.toList, c, by rw [hacc]; exact LiI.vals_refs as, ?_⟩
      rw [Array.toArray_toList]
      exact hS
    · rw [upd_ne hb] at q
      exact (J.hok b u q).stay (fun d v _ y => y) (fun d y => ex1 d _ y) fun d xs y => ex1 d _ y
section
variable {X : Cx} {e : Expr} {te : TE} {p apos cpos pos : Pos}
def tListItemsR (te : TE) : TE := fun σ H Q => te σ H fun x H1 => ∃ d kvs, x = .ref d ∧ Rd H1 d (.dK kvs) ∧ ∀ (H' : Hp) (q : Addr) (ts : List Addr), Ex H1 H' → H1 q = none → (∀ t ∈ ts, H1 t = none) → q ∉ ts → H' q = some (.lst (ts.map V.ref)) →
  Paired (fun (t : Addr) (z : Key × V) => H' t = some (.tup [kV z.1, z.2])) ts kvs → (∀ b, b ∉ ts → b ≠ q → H' b = H1 b) → Q (.ref q) H'
theorem pe_listItemsR (hc : X.calm = true) (he : PE X e te) (hg : Gl X "list") (hm : X.mg "list" = none) (hbase : attributeBase e "items" X.env (eval e X.env) = eval e X.env := by rfl) (hline : (apos.endLine == cpos.line) = true := by rfl)
    (hs : starEach [.Call (.Attribute e "items" apos) [] [] cpos] X.env = (false, eval (.Call (.Attribute e "items" apos) [] [] cpos) X.env) :: starEach [] X.env := by rfl) :
    PE X (.Call (.Name "list" p) [.Call (.Attribute e "items" apos) [] [] cpos] [] pos) (tListItemsR te) := by
  refine ⟨fun pins s σ H Q I hq => ?_⟩
  refine wpAny_Call_Name_kw (ld_blt I hg hm PyProof.Rows.boot_list ?_)
  refine PyProof.Rows.callWith_type1 ?_ hs rfl
  rw [hs]
  show wpAny _ _ (spliced ((false, eval (.Call (.Attribute e "items" apos) [] [] cpos) X.env) :: backTo pos (starEach [] X.env))) _ _ s
  refine Calls.spliced_cons ?_
  refine wpAny_Call_method (T := "dict") (id := "dict.items") hbase rfl hline PySem.F.plainAttrs_dict PySem.F.slot_dict_items PySem.F.type_dict_items (thn (he.run pins s σ H _ I hq) fun u s1 ⟨x, H1, I1, rx, d, kvs, ex, hd, q⟩ => ?_)
  subst ex
  obtain rfl : u = Value.ref d := rx
  obtain ⟨hz, hs0, vs, kv, hdo⟩ := dk_rd I1.hok hd
  obtain ⟨ep, hat⟩ := hdo.dictAt
  have lk : kvs.length = vs.length := Paired.length kv
  have I2 : Inv X pins σ H1 { s1 with heap := s1.heap.push { cls := .type "dict_items", data := .fields #[.ref d] } } := I1.kept (t' := s1.toks) fun b ob q => Heap.get?_push_of_some _ q
  refine ⟨hdo.typeIs, hdo.mapOf.noDict, ?_⟩
  show wpAny _ _ (callWith cpos (.builtin "dict.items") [.ref d] [] []) _ X.xe s1
  refine method_meetsIn PySem.F.slot_dict_items PySem.F.entry_dict_items rfl (PySem.evalArgs_none ⟨rfl, hdo.typeIs, PySem.F.args_dict_items_1 _, _, meets_dict_items (mixKind X.prog X.w) d hs0, ⟨vs, hdo⟩, ?_⟩)
  refine Calls.spliced_nil ?_
  refine PySem.W.kdx_call (knd := mixKind X.prog X.w) (kvs := vs) (ep := ep) (I1.ok.hd hc) ⟨_, Heap.get?_push_size _ rfl, rfl, rfl⟩ (hat.push _) (by omega) fun h' tk acc c as hk hS hl hG hacc => ?_
  obtain ⟨H', k1, k2, k3, k4, k5, k6, off, J⟩ := items_laidL (tk := tk) I2 hz kv hk hS hl hG hacc
  exact ⟨.ref _, H', J, rfl, q H' _ as k1 k2 k3 k4 k5 k6 off⟩
variable {ρ : Rh} {s : Sl} {ks : List (Key × D)}
theorem he_listItems (ha : HG X e ρ s) (hi : s.pairs = some ks) (hm : X.mg "list" = none) (hg : Gl X "list" := by rfl) (hc : X.calm = true := by rfl) (hbase : attributeBase e "items" X.env (eval e X.env) = eval e X.env := by rfl) (hline : (apos.endLine == cpos.line) = true := by rfl)
    (hs : starEach [.Call (.Attribute e "items" apos) [] [] cpos] X.env = (false, eval (.Call (.Attribute e "items" apos) [] [] cpos) X.env) :: starEach [] X.env := by rfl) :
    HE X (.Call (.Name "list" p) [.Call (.Attribute e "items" apos) [] [] cpos] [] pos) ρ (.sh (.lst (itemsD ks))) ρ := fun F G H σ Q ok kk =>
  ⟨_, pe_listItemsR hc pe_we hg hm hbase hline hs, ha F G H σ _ ok fun v r => by
    obtain ⟨d, kvs, rfl, hd, rk⟩ := r.pairs ok.toHk hi
    refine ⟨d, kvs, rfl, hd, fun H' t ts ex ht hts hn hT hp off => ?_⟩
    obtain ⟨ok2, eg⟩ := ok_many ok (t :: ts) ex (fun b hb => by
        rcases List.mem_cons.mp hb with rfl | hb
        · exact ht
        · exact hts b hb) (fun b hb => off b (fun z => hb (List.mem_cons_of_mem _ z)) fun z => hb (by rw [z]; exact List.mem_cons_self)) (fun b hb => by
        rcases List.mem_cons.mp hb with rfl | hb
        · exact ⟨_, hT, fun q u e => by cases e⟩
        · obtain ⟨j, pk, e1, e2, e3⟩ := LiI.paired_ix hp hb
          exact ⟨_, e3, fun q u e => by cases e⟩)
    refine kk _ _ H' eg ok2 ⟨?_, fun z => by cases z⟩
    simp only [SlOk, Rep]
    refine ⟨t, ts.map V.ref, rfl, ?_, rep_items (rk.mono eg) ?_⟩
    · show (if t ∈ t :: ts then H' t else G t) = _
      rw [if_pos List.mem_cons_self]
      exact hT
    · have : ∀ {l : List Addr} {kv : List (Key × V)}, (∀ t' ∈ l, t' ∈ ts) → Paired (fun (t : Addr) (z : Key × V) => H' t = some (.tup [kV z.1, z.2])) l kv → Paired (fun (t' : Addr) (z : Key × V) => (if t' ∈ t :: ts then H' t' else G t') = some (.tup [kV z.1, z.2])) l kv := by
        intro l
        induction l with
        | nil => intro kv _ h; cases h; exact .nil
        | cons a l ih =>
          intro kv hs h
          cases h with
          | cons h1 h2 => exact .cons (by rw [if_pos (List.mem_cons_of_mem _ (hs a List.mem_cons_self))]; exact h1) (ih (fun t' ht' => hs t' (List.mem_cons_of_mem _ ht')) h2)
      exact this (fun _ z => z) hp⟩
end
end PL
set_option Elab.async false
set_option linter.all false
set_option maxRecDepth 100000
set_option maxHeartbeats 2000000
namespace PL
open PySem L2
/-! ### objects apart, kept by what follows -/
def gd (F : Fr) (G : Hp) : List (Addr × HO) → Fr
  | [] => F
  | (p, o) :: L => ⟨upd (gd F G L).B p o, G, (gd F G L).io⟩
structure ObAp (F : Fr) (G H : Hp) (σ : L2.St) (ρ : Rh) (p : Addr) (o : HO) : Prop where
  h : H p = some o
  ap : Apart σ ρ (.ref p)
  b : F.B p = none
  g : G p = none
  nz : ∀ a u, o ≠ .frz a u
section
variable {K : PySem.W.Frag} {F : Fr} {G G2 H H2 : Hp} {σ σ2 : L2.St} {ρ ρ2 : Rh}
theorem gd_B : ∀ {L : List (Addr × HO)} {a : Addr}, a ∉ L.map (·.1) → (gd F G L).B a = F.B a
  | [], a, _ => rfl
  | (p, o) :: L, a, h => by
    show upd (gd F G L).B p o a = F.B a
    rw [upd_ne (fun z => h (by rw [z]; exact List.mem_cons_self)), gd_B (fun z => h (List.mem_cons_of_mem _ z))]
theorem gd_some : ∀ {L : List (Addr × HO)} {a : Addr}, a ∈ L.map (·.1) → (gd F G L).B a ≠ none
  | (p, o) :: L, a, h, e => by
    have e : upd (gd F G L).B p o a = none := e
    by_cases z : a = p
    · subst z; rw [upd_same] at e; cases e
    · rw [upd_ne z] at e
      exact gd_some (L := L) ((List.mem_cons.mp h).resolve_left z) e
theorem gd_le (g0 : Ex F.G0 G) : ∀ {L : List (Addr × HO)}, (∀ p ∈ L, F.B p.1 = none) → FrLe F (gd F G L)
  | [], _ => FrLe.refl _
  | (p, o) :: L, h => by
    refine ⟨fun a u e => ?_, g0⟩
    have z : a ≠ p := fun z => by rw [z, h _ List.mem_cons_self] at e; cases e
    show upd (gd F G L).B p o a = some u
    rw [upd_ne z]
    exact (gd_le g0 fun q hq => h q (List.mem_cons_of_mem _ hq)).1 a u e
theorem guard_many : ∀ {L : List (Addr × HO)}, (∀ p ∈ L, ObAp F G H σ ρ p.1 p.2) → (L.map (·.1)).Nodup → Ok K F G H σ ρ →
    Ok K (gd F G L) G H σ ρ ∧ ∀ {G2 H2 : Hp} {σ2 : L2.St} {ρ2 : Rh}, Ok K (gd F G L) G2 H2 σ2 ρ2 → Ok K F G2 H2 σ2 ρ2 ∧ ∀ p ∈ L, ObAp F G2 H2 σ2 ρ2 p.1 p.2
  | [], _, _, ok => ⟨ok, fun ok2 => ⟨ok2, fun p h => by cases h⟩⟩
  | (p, o) :: L, h, nd, ok => by
    rw [List.map_cons, List.nodup_cons] at nd
    have hp := h _ List.mem_cons_self
    obtain ⟨ok1, back⟩ := guard_many (fun q hq => h q (List.mem_cons_of_mem _ hq)) nd.2 ok
    refine ⟨ok_guard ok1 hp.h hp.ap, fun {G2 H2 σ2 ρ2} ok2 => ?_⟩
    obtain ⟨ok3, h1, h2, h3⟩ := ok_unguard ok2 ok1.toHk (by rw [gd_B nd.1]; exact hp.b) hp.g hp.nz
    obtain ⟨ok4, h4⟩ := back ok3
    refine ⟨ok4, fun q hq => ?_⟩
    rcases List.mem_cons.mp hq with z | z
    · rw [z]; exact ⟨h1, h3, hp.b, h2, hp.nz⟩
    · exact h4 q z
/-! ### lists that a dict alone has: name, place, numbers -/
abbrev Nls := List (Key × Addr × List Int)
def adD (L : Nls) : List (Key × D) := L.map fun t => (t.1, .ad t.2.1)
def lsD (L : Nls) : List (Key × D) := L.map fun t => (t.1, .lst (t.2.2.map D.int))
def obs (L : Nls) : List (Addr × HO) := L.map fun t => (t.2.1, .lst (t.2.2.map V.int))
structure Nst (K : PySem.W.Frag) (F : Fr) (G H : Hp) (σ : L2.St) (ρ : Rh) (L : Nls) : Prop where
  nd : (L.map (·.2.1)).Nodup
  ap : ∀ t ∈ L, ObAp F G H σ ρ t.2.1 (.lst (t.2.2.map V.int))
theorem obs_map (L : Nls) : (obs L).map (·.1) = L.map (·.2.1) := by
  unfold obs
  rw [List.map_map]
  rfl
theorem Nst.obs {L : Nls} (h : Nst K F G H σ ρ L) : ∀ p ∈ PL.obs L, ObAp F G H σ ρ p.1 p.2 := fun p hp => by
  obtain ⟨t, ht, rfl⟩ := List.mem_map.mp hp
  exact h.ap t ht
theorem ob_res {p : Addr} {ns : List Int} (h : ObAp F G H σ ρ p (.lst (ns.map V.int))) : Res K F G H σ ρ (.ol (ns.map D.int)) (.ref p) := ⟨⟨p, _, rfl, h.b, h.g, h.h, repL_ints'⟩, fun _ => h.ap⟩
theorem res_ob {p : Addr} {ns : List Int} (h : Res K F G H σ ρ (.ol (ns.map D.int)) (.ref p)) : ObAp F G H σ ρ p (.lst (ns.map V.int)) := by
  obtain ⟨q, vs, e, b, g, hh, rl⟩ := h.ok
  cases e
  obtain rfl := repL_ints rl
  exact ⟨hh, h.ap rfl, b, g, fun _ _ z => HO.noConfusion z⟩
theorem nst_guard {L : Nls} (n : Nst K F G H σ ρ L) (ok : Ok K F G H σ ρ) : Ok K (gd F G (PL.obs L)) G H σ ρ ∧ ∀ {G2 H2 : Hp} {σ2 : L2.St} {ρ2 : Rh}, Ok K (gd F G (PL.obs L)) G2 H2 σ2 ρ2 → Ok K F G2 H2 σ2 ρ2 ∧ Nst K F G2 H2 σ2 ρ2 L := by
  obtain ⟨a, b⟩ := guard_many n.obs (by rw [obs_map]; exact n.nd) ok
  refine ⟨a, fun ok2 => ?_⟩
  obtain ⟨c, d⟩ := b ok2
  exact ⟨c, n.nd, fun t ht => d _ (List.mem_map.mpr ⟨t, ht, rfl⟩)⟩
/-- the lists are frozen -/
theorem nst_freeze : ∀ {L : Nls}, Nst K F G H σ ρ L → Ok K F G H σ ρ → ∃ G2, Ex G G2 ∧ Ok K F G2 H σ ρ ∧ (∀ t ∈ L, G2 t.2.1 = some (.lst (t.2.2.map V.int))) ∧ ∀ a, a ∉ L.map (·.2.1) → G2 a = G a
  | [], _, ok => ⟨G, Ex.refl _, ok, (fun t h => by cases h), fun a _ => rfl⟩
  | t :: L, n, ok => by
    have hnd := n.nd
    rw [List.map_cons, List.nodup_cons] at hnd
    obtain ⟨G2, e, ok2, h1, h2⟩ := nst_freeze (L := L) ⟨hnd.2, fun u hu => n.ap u (List.mem_cons_of_mem _ hu)⟩ ok
    have ht := n.ap t List.mem_cons_self
    have g2 : G2 t.2.1 = none := by rw [h2 _ hnd.1]; exact ht.g
    refine ⟨upd G2 t.2.1 (.lst (t.2.2.map V.int)), e.trans (Ex.new g2), ok2.freeze ht.b g2 ht.h ht.nz ht.ap, fun u hu => ?_, fun a ha => ?_⟩
    · rcases List.mem_cons.mp hu with z | z
      · rw [z, upd_same]
      · rw [upd_ne (fun q => hnd.1 (by rw [← q]; exact List.mem_map.mpr ⟨u, z, rfl⟩))]
        exact h1 u z
    · rw [upd_ne (fun q => ha (by rw [q]; exact List.mem_cons_self))]
      exact h2 a fun q => ha (List.mem_cons_of_mem _ q)
theorem rep_ad_ls : ∀ {L : Nls} {vs : List (Key × V)}, RepK K G (adD L) vs → (∀ t ∈ L, G2 t.2.1 = some (.lst (t.2.2.map V.int))) → RepK K G2 (lsD L) vs
  | [], vs, h, _ => by rw [repK_nil h]; exact repK_mk0
  | t :: L, vs, h, g => by
    obtain ⟨v, r, rfl, h1, h2⟩ := repK_cons h
    refine repK_mk ?_ (rep_ad_ls h2 fun u hu => g u (List.mem_cons_of_mem _ hu))
    simp only [Rep] at h1 ⊢
    exact ⟨t.2.1, _, h1, g t List.mem_cons_self, repL_ints'⟩
theorem nst_leave {L : Nls} {i : Nat} (n : Nst K F G H σ ρ L) (ok : Ok K F G H σ ρ) (hi : ρ[i]? = some (some (.od (adD L)))) : ∃ G2, Ok K F G2 H σ (ρ.set i (some (.od (lsD L)))) := by
  obtain ⟨G2, e, ok2, h1, h2⟩ := nst_freeze n ok
  obtain ⟨v, hv, p, vs, rfl, b, g, hh, rk⟩ := ok.sl i _ hi
  have hp : p ∉ L.map (·.2.1) := fun z => by
    obtain ⟨t, ht, e⟩ := List.mem_map.mp z
    have := (n.ap t ht).h
    rw [e, hh] at this
    cases this
  refine ⟨G2, ?_⟩
  have := (ok_forget ok2 i).put (i := i) (s := .od (lsD L)) (v := .ref p) ⟨⟨p, vs, rfl, b, by rw [h2 p hp]; exact g, hh, rep_ad_ls rk h1⟩, fun _ => apart_forget ok2 hi rfl hv⟩
  rw [sig_same hv, List.set_set] at this
  exact this
end
/-! ### how such a dict is made -/
section
variable {X : Cx} {ρ ρ' ρ0 ρ1 ρ2 : Rh} {a b tg iter elt e : Expr} {pos p spos py : Pos} {n : D} {xs : List Int} {scope : Scope} {own : List (Str × Nat)} {ds : List D} {y : Str}
/-- a pair of a thing and a list that is new -/
def HEF (X : Cx) (e : Expr) (ρ : Rh) (n : D) (xs : List Int) (ρ' : Rh) : Prop := ∀ (F : Fr) (G H : Hp) (σ : L2.St) (Q : VK), Ok X.K F G H σ ρ →
  (∀ v G' H' q, Ex G G' → Ok X.K F G' H' σ ρ' → Rep X.K G' (.tup [n, .ad q]) v → ObAp F G' H' σ ρ' q (.lst (xs.map V.int)) → Q v H') → WE X e σ H Q
theorem hef_tup {k : Nat} (h1 : HE X a ρ (.sh n) ρ1) (h2 : HE X b ρ1 (.ol (xs.map D.int)) ρ2) (hs : starEach [a, b] X.env = (false, eval a X.env) :: starEach [b] X.env := by rfl) (hs2 : starEach [b] X.env = (false, eval b X.env) :: starEach [] X.env := by rfl) : HEF X (.Tuple [a, b] k pos) ρ n xs ρ2 := fun F G H σ Q ok kk =>
  ⟨_, pe_tup (pa_cons pe_we (pa_cons pe_we pa_nil hs2) hs), h1 F G H σ _ ok fun v1 G1 H1 e1 ok1 r1 => h2 F G1 H1 σ _ ok1 fun v2 G2 H2 e2 ok2 r2 => by
    obtain ⟨q, vs, rfl, b, g, hq, rl⟩ := r2.ok
    obtain rfl : vs = xs.map V.int := repL_ints rl
    refine ⟨ln_ok (Nat.le_of_ble_eq_true rfl), fun t np => ?_⟩
    have rr : RepL X.K G2 [n, .ad q] [v1, .ref q] := repL_mk (Rep.mono e2 r1.ok) (repL_mk (by simp only [Rep]) repL_mk0)
    obtain ⟨a1, a2, a3⟩ := res_tup ok2 np rr
    have hpq : q ≠ t := fun z => by rw [z, np] at hq; cases hq
    exact kk _ _ _ q ((e1.trans e2).trans a3) a1 a2.ok ⟨by rw [upd_ne hpq]; exact hq, r2.ap rfl, b, by rw [upd_ne hpq]; exact g, fun _ _ z => HO.noConfusion z⟩⟩
theorem ob_wipe {F : Fr} {G H : Hp} {σ : L2.St} {ρ : Rh} {vs : List Nat} {q : Addr} {o : HO} (h : ObAp F G H σ ρ q o) : ObAp F G H (wipe σ vs) (wr ρ vs) q o := ⟨h.h, apart_wipe h.ap, h.b, h.g, h.nz⟩
theorem lc_fresh {NX : List (Key × List Int)} {F : Fr} {G H : Hp} {σ : L2.St} {Q : VK} (hi : HI X tg iter ρ ds ρ0) (hsh : ∀ j ∈ own.map (·.2), ∀ s : Sl, ρ0[j]? = some (some s) → s.own = false) (hbig : ds.length < 100000) (hl : NX.length = ds.length)
    (ht : ∀ (i : Nat) (d : D) (kx : Key × List Int), ds[i]? = some d → NX[i]? = some kx → ∃ (is : List Nat) (ρt ρ2 : Rh), (∀ j ∈ is, j ∈ own.map (·.2)) ∧ (∀ s H C cl fp, HB (Bk X scope s H C cl fp) tg is d (wr ρ0 (own.map (·.2))) ρt) ∧ (∀ s H C cl fp, HEF (Bk X scope s H C cl fp) elt ρt (kD kx.1) kx.2 ρ2) ∧ wr ρ2 (own.map (·.2)) = wr ρ0 (own.map (·.2)))
    (ok : Ok X.K F G H σ ρ)
    (kk : ∀ v G' H' L, Ex G G' → Ok X.K F G' H' σ ρ0 → L.map (fun t => (t.1, t.2.2)) = NX → Nst X.K F G' H' σ ρ0 L → (∀ t ∈ L, v ≠ .ref t.2.1) → Res X.K F G' H' σ ρ0 (.ol (itemsD (adD L))) v → Q v H') :
    tLc (WI X tg iter) (fun v σ H Q => ∀ s H0 C cl fp, WG (Bk X scope s H0 C cl fp) tg v σ H Q) (fun σ H Q => ∀ s H0 C cl fp, ∃ t, PTs (Bk X scope s H0 C cl fp) [] t ∧ t σ H Q) (fun σ H Q => ∀ s H0 C cl fp, WE (Bk X scope s H0 C cl fp) elt σ H Q) (own.map (·.2)) σ H (fun v H' => Unl X H' (Q v)) := by
  refine hi F G H σ _ ok fun J F' G1 H1 e1 ok1 hG0 wk ex => fun Dl hD => ?_
  obtain ⟨exio, ex⟩ := ex
  obtain ⟨fb, fg, fa⟩ := ok1.free hD
  refine ⟨fun i m H2 => m = ds.length + 1 - i ∧ i ≤ ds.length ∧ ∃ G2 av L, L.map (fun t => (t.1, t.2.2)) = NX.take i ∧ Dl ∉ L.map (·.2.1) ∧ RepL X.K G2 (itemsD (adD L)) av ∧ H2 Dl = some (.lst av) ∧ G2 Dl = none ∧ Apart (wipe σ (own.map (·.2))) (wr ρ0 (own.map (·.2))) (.ref Dl) ∧
      Nst X.K F' G2 H2 (wipe σ (own.map (·.2))) (wr ρ0 (own.map (·.2))) L ∧ Ok X.K F' G2 H2 (wipe σ (own.map (·.2))) (wr ρ0 (own.map (·.2))),
    ⟨ds.length + 1, by simp, Nat.zero_le _, G1, [], [], by simp, by simp, repL_mk0, upd_same, fg, apart_wipe fa, ⟨by simp, fun t h => by cases h⟩, ok_wipe (ok1.new hD fun _ _ z => HO.noConfusion z)⟩, ?_⟩
  rintro i m H2 ⟨rfl, hle, G2, av, L, hL, hDn, rav, hDl, gDl, apD, nst, ok2⟩
  have hLl : L.length = i := by
    have := congrArg List.length hL
    rw [List.length_map, List.length_take] at this
    omega
  by_cases hlt : i < ds.length
  · refine .inr ⟨wk.go i F' G2 H2 _ _ (FrLe.refl _) hlt ok2, fun H3 => ∃ G3 av L, L.map (fun t => (t.1, t.2.2)) = NX.take (i + 1) ∧ Dl ∉ L.map (·.2.1) ∧ RepL X.K G3 (itemsD (adD L)) av ∧ H3 Dl = some (.lst av) ∧ G3 Dl = none ∧ Apart (wipe σ (own.map (·.2))) (wr ρ0 (own.map (·.2))) (.ref Dl) ∧
        Nst X.K F' G3 H3 (wipe σ (own.map (·.2))) (wr ρ0 (own.map (·.2))) L ∧ Ok X.K F' G3 H3 (wipe σ (own.map (·.2))) (wr ρ0 (own.map (·.2))),
      fun H3 h => ⟨ds.length + 1 - (i + 1), by omega, rfl, hlt, h⟩, fun x H3 y => ?_⟩
    have hM : ∀ p ∈ (Dl, HO.lst av) :: PL.obs L, ObAp F' G2 H2 (wipe σ (own.map (·.2))) (wr ρ0 (own.map (·.2))) p.1 p.2 := fun p hp => by
      rcases List.mem_cons.mp hp with z | z
      · rw [z]; exact ⟨hDl, apD, fb, gDl, fun _ _ z => HO.noConfusion z⟩
      · exact nst.obs p z
    obtain ⟨okg, back⟩ := guard_many (K := X.K) hM (by rw [List.map_cons, List.nodup_cons, obs_map]; exact ⟨hDn, nst.nd⟩) ok2
    have le : FrLe F' (gd F' G2 ((Dl, HO.lst av) :: PL.obs L)) := gd_le ok2.g0 fun p hp => (hM p hp).b
    obtain ⟨d, G3, hd, e3, ok3, rd⟩ := wk.yl i _ G2 H2 _ _ x H3 le hlt okg y
    obtain ⟨kx, hkx⟩ : ∃ kx, NX[i]? = some kx := ⟨NX[i]'(by omega), List.getElem?_eq_getElem _⟩
    obtain ⟨is, ρt, ρ2, his, hb, he, hw2⟩ := ht i d kx hd hkx
    intro s0 H0 C0 cl0 fp0
    refine hb s0 H0 C0 cl0 fp0 _ G3 H3 _ x _ ok3 rd fun σ4 ok4 se sl => ?_
    have hw : wipe σ4 (own.map (·.2)) = wipe σ (own.map (·.2)) := wipe_eq se sl his
    refine ⟨hw, fun s1 H01 C1 cl1 fp1 => hts_nil _ G3 H3 σ4 _ ok4 fun G5 H5 e5 ok5 => ?_⟩
    show (if true = true then _ else _)
    rw [if_pos rfl]
    intro s2 H02 C2 cl2 fp2
    refine he s2 H02 C2 cl2 fp2 _ G5 H5 σ4 _ ok5 fun z G6 H6 q e6 ok6 rz oq => ?_
    have ok7 := ok_wipe (vs := own.map (·.2)) ok6
    have oq7 := ob_wipe (vs := own.map (·.2)) oq
    rw [hw, hw2] at ok7 oq7
    obtain ⟨ok8, h8⟩ := back ok7
    have g6 : Ex G2 G6 := (e3.trans e5).trans e6
    have d8 := h8 _ List.mem_cons_self
    have hqn : q ∉ ((Dl, HO.lst av) :: PL.obs L).map (·.1) := fun z => gd_some (F := F') (G := G2) z oq7.b
    have hqD : q ≠ Dl := fun z => hqn (by rw [z]; exact List.mem_cons_self)
    have hqL : q ∉ L.map (·.2.1) := fun z => hqn (by rw [List.map_cons, obs_map]; exact List.mem_cons_of_mem _ z)
    have oq8 : ObAp F' G6 H6 (wipe σ (own.map (·.2))) (wr ρ0 (own.map (·.2))) q (.lst (kx.2.map V.int)) := ⟨oq7.h, oq7.ap, none_of_ex le.1 oq7.b, oq7.g, oq7.nz⟩
    have side : ∀ {a : Addr} {o : HO}, a ≠ Dl → ObAp F' G6 H6 (wipe σ (own.map (·.2))) (wr ρ0 (own.map (·.2))) a o → ObAp F' G6 (upd H6 Dl (.lst (av ++ [z]))) (wipe σ (own.map (·.2))) (wr ρ0 (own.map (·.2))) a o := fun ne h => ⟨by rw [upd_ne ne]; exact h.h, h.ap, h.b, h.g, h.nz⟩
    refine ⟨av, d8.h, ln_lt ?_, G6, av ++ [z], L ++ [(kx.1, q, kx.2)], ?_, ?_, ?_, upd_same, d8.g, d8.ap, ⟨?_, fun t ht => ?_⟩, ok_side ok8 fb d8.g d8.ap fun _ _ z => HO.noConfusion z⟩
    · rw [repL_len rav]
      simp only [itemsD, adD, List.length_map]
      omega
    · rw [List.map_append, hL, List.take_add_one, hkx]
      rfl
    · rw [List.map_append]
      intro z
      rcases List.mem_append.mp z with z | z
      · exact hDn z
      · exact hqD (List.mem_singleton.mp z).symm
    · have : itemsD (adD (L ++ [(kx.1, q, kx.2)])) = itemsD (adD L) ++ [.tup [kD kx.1, .ad q]] := by simp [itemsD, adD]
      rw [this]
      exact repL_append (RepL.mono g6 rav) (repL_one rz)
    · rw [List.map_append, List.nodup_append]
      refine ⟨nst.nd, by simp, fun a ha b hb e => ?_⟩
      rw [List.map_singleton, List.mem_singleton] at hb
      rw [hb] at e
      have e : a = q := e
      exact hqL (by rw [← e]; exact ha)
    · rcases List.mem_append.mp ht with z | z
      · exact side (fun q => hDn (by rw [← q]; exact List.mem_map.mpr ⟨t, z, rfl⟩)) (h8 _ (List.mem_cons_of_mem _ (List.mem_map.mpr ⟨t, z, rfl⟩)))
      · rw [List.mem_singleton.mp z]
        exact side hqD oq8
  · have e : i = ds.length := by omega
    subst e
    have ok9 : Ok X.K F' G2 H2 σ ρ0 := ok_unwipe ok2 ok1 (by rw [← hG0]; exact ok2.g0) rfl (fun _ _ => rfl) hsh
    have un : ∀ {a : Addr}, Apart (wipe σ (own.map (·.2))) (wr ρ0 (own.map (·.2))) (.ref a) → Apart σ ρ0 (.ref a) := fun ap j t hj oj ej => by
      by_cases z : j ∈ own.map (·.2)
      · rw [hsh j z t hj] at oj
        cases oj
      · exact ap j t (by rw [wr_out z]; exact hj) oj (by rw [wipe_out z]; exact ej)
    refine .inl ⟨wk.st F' G2 H2 _ _ (FrLe.refl _) ok2, ex G2 H2 σ _ (Q (.ref Dl)) ok9 fun H3 ok3 rr => ?_⟩
    refine kk _ G2 H3 L (e1.trans (by rw [← hG0]; exact ok2.g0)) ok3 (by rw [hL, ← hl, List.take_length]) ⟨nst.nd, fun t ht => ?_⟩ (fun t ht z => hDn (by cases z; exact List.mem_map.mpr ⟨t, ht, rfl⟩)) (rr (.ol (itemsD (adD L))) (.ref Dl) ⟨⟨Dl, av, rfl, fb, gDl, hDl, rav⟩, fun _ => un apD⟩)
    have h := nst.ap t ht
    exact res_ob (K := X.K) (rr (.ol (t.2.2.map D.int)) (.ref t.2.1) (ob_res ⟨h.h, un h.ap, h.b, h.g, h.nz⟩))
end
end PL
set_option Elab.async false
set_option linter.all false
set_option maxRecDepth 100000
set_option maxHeartbeats 2000000
namespace PL
open PySem L2
/-! ### xs != ys of two lists whose things are equal, dicts among them -/
section
open PySem.SeqAt PySem.MeetsSeq PySem.MeetsSeq2 PySem.MeetsSeq3 PySem.SeqRoads2 PySem.AutoSeq1
variable {prog : Program} {w : World}
theorem ne_loop (l b : Addr) (xs ys : Array Value) (n m : Nat) (dx dy : Option Addr) (sx sy : Array (Option Value)) (hsz : xs.size = ys.size) (k : Nat) :
    ∀ i : Nat, xs.size - i = k → MeetsIn prog w (Builtin.«list.__eq__.loop» ⟨[.ref l, .ref b, rawInt i, rawInt 3], []⟩)
      (fun A R s => s.heap.get? l = some { cls := .type "list", dict := dx, data := .seq xs n, slots := sx } ∧ s.heap.get? b = some { cls := .type "list", dict := dy, data := .seq ys m, slots := sy } ∧
        (∀ j (h1 : j < xs.size) (h2 : j < ys.size), EqIn prog w A.in1 s xs[j] ys[j] true) ∧ R (.ok (.ret (.bool false))) s) := by
  induction k with
  | zero =>
    intro i hk A R s h
    obtain ⟨hp, g, d, tk, os⟩ := s
    obtain ⟨hl, hb, he, h⟩ := h
    wp_walk using wpAny_loadPart' hl, wpAny_loadPart' hb
    have q1 : xs[((i : Nat) : Int).toNat]? = none := by simp; omega
    have q2 : ys[((i : Nat) : Int).toNat]? = none := by simp; omega
    rw [q1, q2]
    wp_walk using wpAny_loadPart' hl, wpAny_loadPart' hb
    show R (.ok (.ret (.bool (xs.size != ys.size)))) _
    rw [hsz]
    simpa using h
  | succ k ih =>
    intro i hk A R s h
    obtain ⟨hp, g, d, tk, os⟩ := s
    obtain ⟨hl, hb, he, h⟩ := h
    wp_walk using wpAny_loadPart' hl, wpAny_loadPart' hb
    have l1 : i < xs.size := by omega
    have l2 : i < ys.size := by omega
    have q1 : xs[((i : Nat) : Int).toNat]? = some xs[i] := by simp [l1]
    have q2 : ys[((i : Nat) : Int).toNat]? = some ys[i] := by simp [l2]
    have hc : ((i : Int) + 1) = ((i + 1 : Nat) : Int) := by push_cast; rfl
    rw [q1, q2]
    refine wpAny_bind (he i l1 l2 _ _ ?_)
    wp_walk
    rw [hc]
    exact ⟨plainId_quiet plain_eq_loop _, codeAny_builtin entry_eq_loop (by
      rw [Around.under_plainId plain_eq_loop _]
      exact ih (i + 1) (by omega) A R _ ⟨hl, hb, he, h⟩)⟩
theorem ne_same (l b : Addr) (xs ys : Array Value) (n m : Nat) (dx dy : Option Addr) (sx sy : Array (Option Value)) (hsz : xs.size = ys.size) :
    MeetsIn prog w (Builtin.«list.__ne__» ⟨[.ref l, .ref b], []⟩)
      (fun A R s => s.heap.get? l = some { cls := .type "list", dict := dx, data := .seq xs n, slots := sx } ∧ s.heap.get? b = some { cls := .type "list", dict := dy, data := .seq ys m, slots := sy } ∧
        (∀ j (h1 : j < xs.size) (h2 : j < ys.size), EqIn prog w A.in1 s xs[j] ys[j] true) ∧ R (.ok (.ret (.bool false))) s) := by
  intro A R s h
  obtain ⟨hp, g, d, tk, os⟩ := s
  obtain ⟨hl, hb, he, h⟩ := h
  have f3 := AutoSeq1.sub_list_list
  have hne : ¬ (xs.size != ys.size) = true := by simp [hsz]
  wp_walk using wpAny_loadPart' hl, wpAny_loadPart' hb
  exact ⟨plainId_quiet plain_eq_loop _, codeAny_builtin entry_eq_loop (by
    rw [Around.under_plainId plain_eq_loop _]
    exact ne_loop l b xs ys n m dx dy sx sy hsz _ 0 rfl A R _ ⟨hl, hb, he, h⟩)⟩
theorem ne_lists {A : Around} {s : Shared} {E : Value → Shared → Prop} {l b : Addr} {xs ys : Array Value} {Q : Value → Shared → Prop} (hl : s.heap.IsList l xs) (hb : s.heap.IsList b ys) (hsz : xs.size = ys.size) (hu : A.units < cLine)
    (he : ∀ j (h1 : j < xs.size) (h2 : j < ys.size), EqIn prog w A.in1 s xs[j] ys[j] true) (h : Q (.bool false) s) : wpAny (model prog w) A (compareOp .NotEq (.ref l) (.ref b)) Q E s := by
  obtain ⟨⟨cls, dd, data, sl⟩, ho, hc, n, hd⟩ := id hl
  obtain ⟨⟨cls2, dd2, data2, sl2⟩, ho2, hc2, n2, hd2⟩ := id hb
  simp only at hc hd hc2 hd2
  subst hc hd hc2 hd2
  exact wpAny_richCompare_same_room (T := "list") (op := .NotEq) ⟨_, ho, rfl⟩ ⟨_, ho2, rfl⟩ F.slot_list_ne (call_meetsIn F.slot_list_ne ⟨_, ho, rfl⟩ F.entry_list_ne (F.args_list_ne_2 _ _) (ne_same l b xs ys n n2 dd dd2 sl sl2 hsz)
    ⟨ho, ho2, he, show Value.bool false ≠ Value.notImplemented ∧ Q (.bool false) s from ⟨(fun x => nomatch x), h⟩⟩) hu
end
/-- two dicts with the same things -/
def DDs (K : PySem.W.Frag) (H : Hp) (x y : V) : Prop := ∃ a b ks ls, x = .ref a ∧ y = .ref b ∧ Rd H a (.dK ks) ∧ Rd H b (.dK ls) ∧ ks.length = ls.length ∧ ∀ p ∈ ks, ∃ z, valV ls p.1 = some z ∧ DEq K H p.2 z
def rNeLD (K : PySem.W.Frag) : R2 := fun x y H Q => ∃ a b vs ws, x = .ref a ∧ y = .ref b ∧ SqL K H a vs ∧ SqL K H b ws ∧ vs.length = ws.length ∧ (∀ (j : Nat) v w, vs[j]? = some v → ws[j]? = some w → DDs K H v w) ∧ Q (.bl false) H
section
variable {X : Cx}
theorem op_neLD (hu : X.A.units < cLine) (hu1 : X.A.in1.units < cLine) (hu2 : X.A.in1.in1.units + 64 < cLine) : OpR X (compareOp .NotEq) (rNeLD X.K) := by
  intro pins s σ H x y v u Q I rx ry h
  obtain ⟨a, b, vs, ws, rfl, rfl, ha, hb, hlen, hp, q⟩ := h
  obtain rfl : v = Value.ref a := rx
  obtain rfl : u = Value.ref b := ry
  obtain ⟨its, r1, pl1, _⟩ := I.list ha
  obtain ⟨jts, r2, pl2, _⟩ := I.list hb
  have l1 := r1.length
  have l2 := r2.length
  refine ne_lists pl1.isList pl2.isList (by simp; omega) hu (fun j h1 h2 => ?_) ⟨.bl false, H, I, rfl, q⟩
  have h1' : j < its.length := by simpa using h1
  have h2' : j < jts.length := by simpa using h2
  obtain ⟨v', hv⟩ : ∃ v', vs[j]? = some v' := ⟨vs[j]'(by omega), List.getElem?_eq_getElem _⟩
  obtain ⟨w', hw⟩ : ∃ w', ws[j]? = some w' := ⟨ws[j]'(by omega), List.getElem?_eq_getElem _⟩
  obtain ⟨c, d, ks, ls, rfl, rfl, ec, ed, hl, hpp⟩ := hp j v' w' hv hw
  obtain ⟨u1, e1, q1⟩ := r1.get hv
  obtain ⟨u2, e2, q2⟩ := r2.get hw
  have f1 : its.toArray[j] = Value.ref c := by
    have : its[j]? = some its.toArray[j] := by simp [h1']
    rw [this] at e1
    obtain rfl : u1 = Value.ref c := q1
    exact Option.some.inj e1
  have f2 : jts.toArray[j] = Value.ref d := by
    have : jts[j]? = some jts.toArray[j] := by simp [h2']
    rw [this] at e2
    obtain rfl : u2 = Value.ref d := q2
    exact Option.some.inj e2
  rw [f1, f2]
  by_cases z : c = d
  · subst z
    exact (PySem.SeqAt.EqAt.same _).inModel _ _
  · refine PySem.SeqAt.EqIn.of_refs z fun E' Q' hq => ?_
    obtain ⟨_, ya, va, ra, da⟩ := dk_rd I.hok ec
    obtain ⟨_, yb, vb, rb, db⟩ := dk_rd I.hok ed
    have hl' : va.length = vb.length := by rw [← ra.length, ← rb.length]; exact hl
    exact PySem.W.keq_eq (knd := mixKind X.prog X.w) (r := true) ya yb da db hu1 (fun _ => hits_dp hu2 I rb ra hpp) (by simpa [hl'] using hq)
theorem v_neLD {ls : List (List (Key × D))} (hu : X.A.units < cLine) (hu1 : X.A.in1.units < cLine) (hu2 : X.A.in1.in1.units + 64 < cLine) (hn : ∀ ks ∈ ls, (ks.map (·.1)).Nodup) (hs : ∀ ks ∈ ls, ∀ p ∈ ks, okD p.2 = true ∧ SeqAt.shaped (pdD p.2) = true) :
    OpV X (compareOp .NotEq) (.lst (ls.map .dct)) (.lst (ls.map .dct)) (.bl false) := ⟨_, _, op_neLD hu hu1 hu2, rfl, fun H v w Q r1 r2 q => by
  obtain ⟨a, vs, rfl, ha, ra⟩ := rep_lst strip_sub r1
  obtain ⟨b, ws, rfl, hb, rb⟩ := rep_lst strip_sub r2
  refine ⟨a, b, vs, ws, rfl, rfl, ha, hb, by rw [repL_len ra, repL_len rb], fun j v w hv hw => ?_, q⟩
  have hj : j < (ls.map D.dct).length := by rw [← repL_len ra]; exact (List.getElem?_eq_some_iff.mp hv).1
  rw [List.length_map] at hj
  have at_ : ∀ {us : List V} {u : V}, RepL X.K (strip H) (ls.map D.dct) us → us[j]? = some u → Rep X.K (strip H) (.dct ls[j]) u := fun {us u} r e => by
    clear ra rb hv hw r1 r2 ha hb q hn hs
    induction ls generalizing us j with
    | nil => simp at hj
    | cons c t ih =>
      obtain ⟨x, r', rfl, h1, h2⟩ := repL_cons r
      cases j with
      | zero => simp only [List.getElem?_cons_zero, Option.some.injEq] at e; subst e; exact h1
      | succ j => exact ih _ (by simpa using hj) h2 (by simpa using e)
  have rv := at_ ra hv
  have rw' := at_ rb hw
  have hm : ls[j] ∈ ls := List.getElem_mem _
  have hn := hn _ hm
  have hs := hs _ hm
  generalize ls[j] = ks at rv rw' hn hs
  simp only [Rep] at rv rw'
  obtain ⟨c, kv, rfl, ec, kr⟩ := rv
  obtain ⟨d, kw, rfl, ed, lr⟩ := rw'
  refine ⟨c, d, kv, kw, rfl, rfl, strip_sub.rd ec, strip_sub.rd ed, by rw [repK_len kr, repK_len lr], fun p hp => ?_⟩
  obtain ⟨e, he, rp⟩ := repK_mem kr p hp
  obtain ⟨z, hz, rz⟩ := (repK_look (j := p.1) lr).1 e (look_mem hn he)
  obtain ⟨o1, o2⟩ := hs _ he
  exact ⟨z, hz, pdD e, pdD e, rep_dp strip_sub o1 rp, rep_dp strip_sub o1 rz, o2, o2, eqv_same e o1⟩⟩
end
end PL
set_option Elab.async false
set_option linter.all false
set_option maxRecDepth 100000
set_option maxHeartbeats 2000000
namespace PL
open PySem L2
section
variable {X : Cx} {ρ ρ' ρ0 ρ1 ρ2 : Rh} {s : Sl} {a b tg iter elt e : Expr} {pos p spos py : Pos} {n : D} {xs : List Int} {scope : Scope} {own : List (Str × Nat)} {ds : List D} {y : Str} {d1 d2 : D}
/-! ### a dict of new lists -/
def HEN (X : Cx) (e : Expr) (ρ : Rh) (NX : List (Key × List Int)) (ρ' : Rh) : Prop := ∀ (F : Fr) (G H : Hp) (σ : L2.St) (Q : VK), Ok X.K F G H σ ρ →
  (∀ v G' H' L, Ex G G' → Ok X.K F G' H' σ ρ' → L.map (fun t => (t.1, t.2.2)) = NX → Nst X.K F G' H' σ ρ' L → (∀ t ∈ L, v ≠ .ref t.2.1) → Res X.K F G' H' σ ρ' (.od (adD L)) v → Q v H') → WE X e σ H Q
theorem lcF {NX : List (Key × List Int)} {F : Fr} {G H : Hp} {σ : L2.St} {Q : VK} (hi : HI X tg iter ρ ds ρ0) (hN : X.N.Nodup) (ok : BlkOk X.N X.env.scope scope own) (hbig : ds.length < 100000) (hl : NX.length = ds.length)
    (ht : ∀ (i : Nat) (d : D) (kx : Key × List Int), ds[i]? = some d → NX[i]? = some kx → ∃ (is : List Nat) (ρt ρ2 : Rh), (∀ j ∈ is, j ∈ own.map (·.2)) ∧ (∀ s H C cl fp, HB (Bk X scope s H C cl fp) tg is d (wr ρ0 (own.map (·.2))) ρt) ∧ (∀ s H C cl fp, HEF (Bk X scope s H C cl fp) elt ρt (kD kx.1) kx.2 ρ2) ∧ wr ρ2 (own.map (·.2)) = wr ρ0 (own.map (·.2)))
    (hsh : noOwn ρ0 (own.map (·.2)) = true) (hc : X.calm = true) (hs : ∀ x, foldedSetIterable iter X.env x = pure x) (okk : Ok X.K F G H σ ρ)
    (kk : ∀ v G' H' L, Ex G G' → Ok X.K F G' H' σ ρ0 → L.map (fun t => (t.1, t.2.2)) = NX → Nst X.K F G' H' σ ρ0 L → (∀ t ∈ L, v ≠ .ref t.2.1) → Res X.K F G' H' σ ρ0 (.ol (itemsD (adD L))) v → Q v H') : WE X (.ListComp elt [⟨tg, iter, [], 0⟩] scope pos) σ H Q :=
  ⟨_, pe_unl (pe_lc hc hN pi_wi ok (fun s H C cl fp => ⟨fun pins s' σ H' v u Q I r h => (pg_wg (X := Bk X scope s H C cl fp)).run pins s' σ H' v u Q I r (h s H C cl fp)⟩)
    (fun s H C cl fp => ⟨fun pins s' σ H' Q I h => let ⟨t, p, q⟩ := h s H C cl fp; p.run pins s' σ H' Q I q⟩) (fun s H C cl fp => ⟨fun pins s' σ H' Q I h => (pe_we (X := Bk X scope s H C cl fp)).run pins s' σ H' Q I (h s H C cl fp)⟩) hs), lc_fresh hi (noOwn_sh hsh) hbig hl ht okk kk⟩
theorem hen_dict {NX : List (Key × List Int)} (own : List (Str × Nat)) (hi : HI X tg iter ρ ds ρ0) (hN : X.N.Nodup) (ok : BlkOk X.N X.env.scope scope own) (hbig : ds.length < 100000) (hl : NX.length = ds.length) (hnd : (NX.map (·.1)).Nodup)
    (ht : ∀ (i : Nat) (d : D) (kx : Key × List Int), ds[i]? = some d → NX[i]? = some kx → ∃ (is : List Nat) (ρt ρ2 : Rh), (∀ j ∈ is, j ∈ own.map (·.2)) ∧ (∀ s H C cl fp, HB (Bk X scope s H C cl fp) tg is d (wr ρ0 (own.map (·.2))) ρt) ∧ (∀ s H C cl fp, HEF (Bk X scope s H C cl fp) elt ρt (kD kx.1) kx.2 ρ2) ∧ wr ρ2 (own.map (·.2)) = wr ρ0 (own.map (·.2)))
    (hm : X.mg "dict" = none) (hsh : noOwn ρ0 (own.map (·.2)) = true := by rfl) (hc : X.calm = true := by rfl) (hs : ∀ x, foldedSetIterable iter X.env x = pure x := by intro _; rfl) (hg : Gl X "dict" := by rfl)
    (hst : starEach [.ListComp elt [⟨tg, iter, [], 0⟩] scope pos] X.env = (false, eval (.ListComp elt [⟨tg, iter, [], 0⟩] scope pos) X.env) :: starEach [] X.env := by rfl) (hpl : (backTo spos (starEach [] X.env)).any (·.1) = false := by rfl) :
    HEN X (.Call (.Name "dict" p) [.ListComp elt [⟨tg, iter, [], 0⟩] scope pos] [] spos) ρ NX ρ0 := fun F G H σ Q okk kk => by
  refine ⟨_, pe_callTy (call_dictP hc) hg hm PyProof.Rows.boot_dict (pa_cons pe_we pa_nil hst) (by decide) (by decide) hst hpl, ?_⟩
  refine lcF hi hN ok hbig hl ht hsh hc hs okk fun v G1 H1 L e1 ok1 hL nst hv r => ?_
  obtain ⟨a, vs, rfl, _, _, ha, rl⟩ := r.ok
  obtain ⟨ps, kvs, rfl, hp, rk⟩ := items_pairs ok1.sub rl
  refine ⟨a, ps, kvs, rfl, .inl (.inl ha), hp, fun l nl => ?_⟩
  have hn : (kvs.map (·.1)).Nodup := by
    rw [repK_keys rk]
    have : (adD L).map (·.1) = NX.map (·.1) := by rw [← hL]; simp only [adD, List.map_map]; rfl
    rw [this]
    exact hnd
  rw [mergeK_nodup (kvs := []) (by simpa using hn), List.nil_append]
  obtain ⟨o1, o2⟩ := res_od ok1 nl rk
  have hne : ∀ t ∈ L, t.2.1 ≠ l := fun t ht z => by
    have := (nst.ap t ht).h
    rw [z, nl] at this
    cases this
  refine kk _ _ _ L e1 o1 hL ⟨nst.nd, fun t ht => ?_⟩ (fun t ht z => hne t ht (by cases z; rfl)) o2
  have h := nst.ap t ht
  exact ⟨by rw [upd_ne (hne t ht)]; exact h.h, h.ap, h.b, h.g, h.nz⟩
/-- y = dict([..]) of new lists: what follows has them apart -/
theorem ws_nest {NX : List (Key × List Int)} {rest : List Stmt} {F : Fr} {G H : Hp} {σ : L2.St} {D : Ends} (i : Nat) (h : HEN X e ρ NX ρ1) (ok : Ok X.K F G H σ ρ) (hN : X.N.Nodup)
    (k : ∀ G' H' σ' L, Ok X.K F G' H' σ' (ρ1.set i (some (.od (adD L)))) → L.map (fun t => (t.1, t.2.2)) = NX → Nst X.K F G' H' σ' (ρ1.set i (some (.od (adD L)))) L → WSs X rest D σ' H')
    (hi : X.N[i]? = some y := by rfl) (hx : Loc X.env.scope y := by first | exact Or.inl rfl | exact Or.inr rfl) (hs : swapsWith e (some (.Name y py)) pos.line X.env = pure false := by rfl)
    (hf : X.fn y = true ∨ X.env.scope.names.lookup y = some .local := by first | exact .inl rfl | exact .inr rfl) : WSs X (.Assign [.Name y py] e pos :: rest) D σ H :=
  ⟨_, pss_cons ps_ws pss_wss, _, ps_set hN hi hx pe_we hs hf, h F G H σ _ ok fun v G1 H1 L e1 ok1 hL nst hv r => k _ _ _ L (ok1.put r) hL ⟨nst.nd, fun t ht => by
    have h := nst.ap t ht
    exact ⟨h.h, apart_put h.ap ok1.len (hv t ht), h.b, h.g, h.nz⟩⟩⟩
theorem wss_keep {L : Nls} {sts rest : List Stmt} {F : Fr} {G H : Hp} {σ : L2.St} {D : Ends} (hs : HS X sts ρ (.nx ρ1)) (ok : Ok X.K F G H σ ρ) (nst : Nst X.K F G H σ ρ L)
    (k : ∀ G' H' σ', Ok X.K F G' H' σ' ρ1 → Nst X.K F G' H' σ' ρ1 L → D.nx σ' H') : WSs X sts D σ H := by
  obtain ⟨okg, back⟩ := nst_guard nst ok
  exact hs _ G H σ D okg fun σ' G' H' ok' => let ⟨o, n⟩ := back ok'; k G' H' σ' o n
theorem ws1_keep {L : Nls} {st : Stmt} {rest : List Stmt} {F : Fr} {G H : Hp} {σ : L2.St} {D : Ends} (hs : HS1 X st ρ (.nx ρ1)) (ok : Ok X.K F G H σ ρ) (nst : Nst X.K F G H σ ρ L)
    (k : ∀ G' H' σ', Ok X.K F G' H' σ' ρ1 → Nst X.K F G' H' σ' ρ1 L → WSs X rest D σ' H') : WSs X (st :: rest) D σ H := by
  obtain ⟨okg, back⟩ := nst_guard nst ok
  exact ⟨_, pss_cons ps_ws pss_wss, hs _ G H σ { D with nx := WSs X rest D } okg fun σ' G' H' ok' => let ⟨o, n⟩ := back ok'; k G' H' σ' o n⟩
/-! ### d[k][i] += e, the list apart -/
def rGetL : V → V → Hp → VK → Prop := fun o i H Q => ∃ p xs, ∃ (k : Nat) (v : V), o = .ref p ∧ i = .int (k : Int) ∧ H p = some (.lst xs) ∧ xs[k]? = some v ∧ Q v H
theorem get_lst : PGet X rGetL := by
  intro pins s σ H o i ov iv Q I ro ri h
  obtain ⟨p, xs, k, v, rfl, rfl, hp, hv, q⟩ := h
  cases ro
  obtain ⟨t, rfl⟩ := ri
  obtain ⟨its, n, r, ho, hz⟩ := I.lst hp
  obtain ⟨w, ew, rw'⟩ := r.get hv
  have hl := r.length
  have hk := (List.getElem?_eq_some_iff.mp hv).1
  have hn := line63
  exact PySem.wpAny_getItem_list ⟨_, ho, rfl, n, rfl⟩ (by omega) (by omega) (by simpa using ew) ⟨v, H, I, rw', q⟩
/-- the numbers of one of the lists -/
def setN (L : Nls) (q : Addr) (f : List Int → List Int) : Nls := L.map fun t => if t.2.1 = q then (t.1, t.2.1, f t.2.2) else t
theorem setN_ad (L : Nls) (q : Addr) (f : List Int → List Int) : adD (setN L q f) = adD L := by
  unfold adD setN
  rw [List.map_map]
  refine List.map_congr_left fun t _ => ?_
  simp only [Function.comp_apply]
  split <;> rfl
theorem setN_pl (L : Nls) (q : Addr) (f : List Int → List Int) : (setN L q f).map (·.2.1) = L.map (·.2.1) := by
  unfold setN
  rw [List.map_map]
  refine List.map_congr_left fun t _ => ?_
  simp only [Function.comp_apply]
  split <;> rfl
theorem look_ad : ∀ {L : Nls}, (L.map (·.1)).Nodup → ∀ t ∈ L, look (adD L) t.1 = some (.ad t.2.1)
  | u :: L, nd, t, h => by
    rw [List.map_cons, List.nodup_cons] at nd
    simp only [adD, List.map_cons, look]
    rcases List.mem_cons.mp h with z | z
    · rw [z, if_pos rfl]
    · rw [if_neg (fun e => nd.1 (by rw [e]; exact List.mem_map.mpr ⟨t, z, rfl⟩))]
      exact look_ad nd.2 t z
theorem ws_aug {L : Nls} {F : Fr} {G H : Hp} {σ : L2.St} {E : Ends} {t : Key × Addr × List Int} {k ix val : Expr} {l1 p1 p2 tpos : Pos} {j : Nat} {m c : Int} (i : Nat) (hu : X.A.units + 1 < cLine) (ok : Ok X.K F G H σ ρ) (nst : Nst X.K F G H σ ρ L) (hi : ρ[i]? = some (some (.od (adD L))))
    (hnd : (L.map (·.1)).Nodup) (ht : t ∈ L) (hk : HG X k ρ (.sh (kD t.1))) (hx : HE X ix ρ (.sh (.int (j : Int))) ρ1) (hv : HE X val ρ1 (.sh (.int m)) ρ2) (hc : t.2.2[j]? = some c)
    (kk : ∀ G' H', Ok X.K F G' H' σ ρ2 → Nst X.K F G' H' σ ρ2 (setN L t.2.1 fun ns => ns.set j (c + m)) → E.nx σ H')
    (hN : X.N[i]? = some y := by rfl) (hvs : Vis X.env.scope y := by first | exact Or.inl rfl | exact Or.inr (Or.inl rfl) | exact Or.inr (Or.inr rfl)) (hd : (y == ("__debug__" : Str)) = false := by decide) (hcd : (y == ("__classdict__" : Str)) = false := by decide)
    (hns : NoSl k := by exact fun _ _ => rfl)
    (ha : ∀ ov iv new, augStore ix ov iv new = (do holding [new, ov, iv] (setItem ov iv new); release [new, ov, iv] []; pure .next) := by intros; rfl) :
    WS X (.AugAssign (.Subscript (.Subscript (.Name y l1) k p1) ix tpos) .Add val p2) E σ H := by
  refine ⟨_, ps_augS (pe_dget hu (pv i hN hvs hd hcd) pe_we hns) pe_we get_lst pe_we ip_add set_list ha, ?_⟩
  obtain ⟨v, hv2, q, kvs, rfl, qb, qg, qh, ql⟩ := ok.sl i _ hi
  refine ⟨.ref q, hv2, hk F G H σ _ ok fun w rw1 => ?_⟩
  rw [fl_rep (kD_fl t.1) (show Rep X.K G (kD t.1) w from rw1)]
  obtain ⟨z, hz, rz⟩ := (repK_look (j := t.1) ql).1 _ (look_ad hnd t ht)
  simp only [Rep] at rz
  refine ⟨q, z, rfl, .inl ⟨_, t.1, .inl qh, rfl, hz.symm⟩, ?_⟩
  rw [rz]
  obtain ⟨okg, back⟩ := nst_guard nst ok
  refine hx _ G H σ _ okg fun w1 G1 H1 e1 okg1 r1 => ?_
  obtain ⟨ok1, n1⟩ := back okg1
  rw [int_of r1.ok]
  have o1 := n1.ap t ht
  have hj : j < t.2.2.length := (List.getElem?_eq_some_iff.mp hc).1
  refine ⟨t.2.1, _, j, .int c, rfl, rfl, o1.h, by rw [List.getElem?_map, hc]; rfl, ?_⟩
  obtain ⟨okg2, back2⟩ := nst_guard n1 ok1
  refine hv _ G1 H1 σ _ okg2 fun w2 G2 H2 e2 okg3 r2 => ?_
  obtain ⟨ok2, n2⟩ := back2 okg3
  rw [int_of r2.ok]
  refine ⟨c, m, rfl, rfl, ?_⟩
  have o2 := n2.ap t ht
  refine ⟨t.2.1, _, (j : Int), j, rfl, rfl, o2.h, ixN_n (by rw [List.length_map]; exact hj), ?_⟩
  refine kk G2 _ (ok_side ok2 o2.b o2.g o2.ap fun _ _ z => HO.noConfusion z) ⟨by rw [setN_pl]; exact n2.nd, fun u hu' => ?_⟩
  obtain ⟨u0, h0, rfl⟩ := List.mem_map.mp hu'
  have o3 := n2.ap u0 h0
  by_cases z : u0.2.1 = t.2.1
  · rw [if_pos z]
    have e0 : u0 = t := by
      have hp := n2.nd
      obtain ⟨a, ha', ea⟩ := List.mem_iff_getElem.mp h0
      obtain ⟨b, hb', eb⟩ := List.mem_iff_getElem.mp ht
      have : (L.map (·.2.1))[a]'(by rw [List.length_map]; exact ha') = (L.map (·.2.1))[b]'(by rw [List.length_map]; exact hb') := by
        rw [List.getElem_map, List.getElem_map, ea, eb]; exact z
      have := (List.getElem_inj hp).mp this
      subst this
      rw [← ea, ← eb]
    rw [e0]
    exact ⟨by show upd H2 t.2.1 _ t.2.1 = _; rw [upd_same, List.map_set], o2.ap, o2.b, o2.g, fun _ _ z => HO.noConfusion z⟩
  · rw [if_neg z]
    exact ⟨by rw [upd_ne z]; exact o3.h, o3.ap, o3.b, o3.g, o3.nz⟩
/-! ### small operators -/
theorem v_isNot {a b : Bool} : OpV X (compareOp .IsNot) (.bl a) (.bl b) (.bl (!decide (a = b))) := ⟨_, _, op_isnot_bl, rfl, fun H v w Q r1 r2 q => by
  rw [fl_rep (v := .bl a) rfl r1, fl_rep (v := .bl b) rfl r2]
  exact ⟨a, b, rfl, rfl, q⟩⟩
/-- x in xs, data of any depth -/
theorem v_inDp {d : D} {ds : List D} (hu : X.A.units + 65 < cLine) (o1 : okD d = true) (o2 : okL ds = true) (z1 : SeqAt.shaped (pdD d) = true) (z2 : SeqAt.shaped (.list (pdL ds)) = true) : OpV X (compareOp .In) d (.lst ds) (.bl ((pdL ds).any fun z => PyData.eqv z (pdD d))) := ⟨_, _, op_inD hu, rfl, fun H v w Q r1 r2 q => by
  have h2 := rep_dp strip_sub (d := .lst ds) (by simpa only [okD] using o2) r2
  simp only [pdD] at h2
  exact ⟨_, _, rep_dp strip_sub o1 r1, h2, z1, z2, q⟩⟩
/-- xs * n -/
theorem he_rep {k : Int} (ha : HE X a ρ (.ol ds) ρ1) (hb : HG X b ρ1 (.sh (.int k))) (h0 : 0 ≤ k) (h1 : k < 2 ^ 62) (hz : ds.length * k.toNat ≤ 100000) : HE X (.BinOp a .Mult b pos) ρ (.ol (List.replicate k.toNat ds).flatten) ρ1 := fun F G H σ Q ok kk => by
  refine ⟨_, pe_op op_rep pe_we pe_we, ha F G H σ _ ok fun v G1 H1 e1 ok1 r1 => ?_⟩
  obtain ⟨l, vs, rfl, lb, lg, lh, rl⟩ := r1.ok
  refine hb F G1 H1 σ _ ok1 fun w r2 => ?_
  rw [int_of r2]
  refine ⟨l, k, vs, rfl, rfl, lh, by omega, by omega, ln_ok (by rw [repL_len rl]; exact hz), fun t nt => ?_⟩
  have rr : ∀ n : Nat, RepL X.K G1 (List.replicate n ds).flatten (List.replicate n vs).flatten := fun n => by
    induction n with
    | zero => exact repL_mk0
    | succ n ih => rw [List.replicate_succ, List.replicate_succ, List.flatten_cons, List.flatten_cons]; exact repL_append rl ih
  obtain ⟨o1, o2⟩ := res_ol ok1 nt (rr k.toNat)
  exact kk _ _ _ e1 o1 o2
/-! ### sorted(d) != sorted(e) of two dicts with names -/
def leS (a b : Str) : Prop := ¬ (b.cps.toList < a.cps.toList)
theorem leS_trans {a b c : Str} (h1 : leS a b) (h2 : leS b c) : leS a c := by
  unfold leS at *
  rw [List.not_lt] at *
  exact List.le_trans h1 h2
theorem leS_anti {a b : Str} (h1 : leS a b) (h2 : leS b a) : a = b := by
  unfold leS at *
  rw [List.not_lt] at *
  have := List.le_antisymm h1 h2
  obtain ⟨x⟩ := a
  obtain ⟨z⟩ := b
  exact congrArg Str.mk (Array.toList_inj.mp this)
theorem rising_pw : ∀ {l : List Str} {p : Str}, PyProof.Rows.risingS p l = true → (p :: l).Pairwise leS
  | [], p, _ => List.pairwise_singleton _ _
  | x :: r, p, h => by
    have h : (!Spec.ltCps x.cps.toList p.cps.toList && PyProof.Rows.risingS x r) = true := h
    simp only [Bool.and_eq_true, Bool.not_eq_true', PyProof.Rows.ltCps_eq, decide_eq_false_iff_not] at h
    have ih := rising_pw h.2
    refine List.pairwise_cons.mpr ⟨fun y hy => ?_, ih⟩
    rcases List.mem_cons.mp hy with z | z
    · rw [z]; exact h.1
    · exact leS_trans h.1 ((List.pairwise_cons.mp ih).1 y z)
theorem sorted_pw {l : List Str} (h : PyProof.Rows.sortedS l = true) : l.Pairwise leS := by
  cases l with
  | nil => exact List.Pairwise.nil
  | cons x r => exact rising_pw h
theorem sorted_eq {l m : List Str} (hl : PyProof.Rows.sortedS l = true) (hm : PyProof.Rows.sortedS m = true) (h : l.Perm m) : l = m :=
  h.eq_of_pairwise (fun a b _ _ h1 h2 => leS_anti h1 h2) (sorted_pw hl) (sorted_pw hm)
def leB (a b : Str) : Bool := !decide (b.cps.toList < a.cps.toList)
def sortSt (l : List Str) : List Str := l.mergeSort leB
theorem leB_iff {a b : Str} : leB a b = true ↔ leS a b := by unfold leB leS; simp
theorem sortSt_perm (l : List Str) : (sortSt l).Perm l := List.mergeSort_perm ..
theorem sortSt_pw (l : List Str) : (sortSt l).Pairwise leS := by
  have := List.pairwise_mergeSort (le := leB) (fun a b c h1 h2 => leB_iff.mpr (leS_trans (leB_iff.mp h1) (leB_iff.mp h2))) (fun a b => by
    rw [Bool.or_eq_true, leB_iff, leB_iff]
    unfold leS
    rw [List.not_lt, List.not_lt]
    exact List.le_total _ _) l
  exact this.imp fun h => leB_iff.mp h
theorem sortSt_eq {l m : List Str} (h : m.Perm l) (o : PyProof.Rows.sortedS m = true) : m = sortSt l :=
  (h.trans (sortSt_perm l).symm).eq_of_pairwise (fun a b _ _ h1 h2 => leS_anti h1 h2) (sorted_pw o) (sortSt_pw l)
theorem sortSt_iff {l m : List Str} : sortSt l = sortSt m ↔ l.Perm m :=
  ⟨fun h => (sortSt_perm l).symm.trans (h ▸ sortSt_perm m), fun h => (((sortSt_perm l).trans h).trans (sortSt_perm m).symm).eq_of_pairwise (fun a b _ _ h1 h2 => leS_anti h1 h2) (sortSt_pw l) (sortSt_pw m)⟩
/-- sorted(d) of a dict with names -/
theorem he_sortedD {ks : List (Key × D)} {ns : List Str} (ha : HG X e ρ s) (hi : s.pairs = some ks) (hk : ks.map (·.1) = ns.map Sum.inr) (hl : ns.length < 64) (hm : X.mg "sorted" = none) (hc : X.calm = true := by rfl) (hg : Gl X "sorted" := by rfl) (he : starEach [e] X.env = (false, eval e X.env) :: starEach [] X.env := by rfl) (hpl : (backTo pos (starEach [] X.env)).any (·.1) = false := by rfl) :
    HE X (.Call (.Name "sorted" p) [e] [] pos) ρ (.ol ((sortSt ns).map D.str)) ρ := fun F G H σ Q ok k =>
  ⟨_, pe_callB (call_sortedD hc) hg hm PyProof.Rows.boot_sorted (pa_cons pe_we pa_nil he) (by decide) (by decide) he hpl, ha F G H σ _ ok fun v r => by
    obtain ⟨a, kvs, rfl, q, rk⟩ := r.pairs ok.toHk hi
    refine ⟨a, kvs, ns, rfl, q, by rw [repK_keys rk]; exact hk, hl, fun ys p' h1 h2 hp => ?_⟩
    rw [sortSt_eq h1 h2]
    obtain ⟨q1, q2⟩ := res_ol ok hp (repL_strs' (ns := sortSt ns))
    exact k _ _ _ (Ex.refl _) q1 q2⟩
theorem eqv_strs : ∀ l m : List Str, PyData.eqvAll (pdL (l.map D.str)) (pdL (m.map D.str)) = decide (l = m)
  | [], [] => rfl
  | [], _ :: _ => rfl
  | _ :: _, [] => rfl
  | a :: l, b :: m => by
    have ih := eqv_strs l m
    simp only [List.map_cons, pdL, pdD, PyData.eqvAll, ih]
    by_cases z : a = b
    · subst z
      by_cases y : l = m
      · subst y; simp [PyData.eqv]
      · simp [y, PyData.eqv]
    · simp [z, PyData.eqv]
theorem v_neStrs {l m : List Str} (hu : X.A.units + 64 < cLine) (o1 : okD (.lst (l.map D.str)) = true) (o2 : okD (.lst (m.map D.str)) = true) (z1 : SeqAt.shaped (pdD (.lst (l.map D.str))) = true) (z2 : SeqAt.shaped (pdD (.lst (m.map D.str))) = true) :
    OpV X (compareOp .NotEq) (.lst (l.map D.str)) (.lst (m.map D.str)) (.bl (!decide (l = m))) := op_to (v_neDp hu o1 o2 z1 z2) (by simp only [pdD, PyData.eqv, eqv_strs])
end
end PL
set_option Elab.async false
set_option linter.all false
set_option maxRecDepth 100000
set_option maxHeartbeats 1000000
namespace PL
open PySem L2 PySem.Spec PyProof.Rows
/-! ### dicts whose keys are tuples: their data -/
abbrev TKs := List (List Key × D)
def lookT : TKs → List Key → Option D
  | [], _ => none
  | (k, d) :: r, j => if k = j then some d else lookT r j
def putT (ds : TKs) (k : List Key) (d : D) : TKs := if (lookT ds k).isSome = true then ds.map (fun kv => if kv.1 = k then (kv.1, d) else kv) else ds ++ [(k, d)]
section
variable {K : PySem.W.Frag} {G H : Hp} {v : V} {d : D}
theorem repT_cons {k : List Key} {ds : TKs} {vs : List (List Key × V)} (h : RepT K G ((k, d) :: ds) vs) : ∃ v r, vs = (k, v) :: r ∧ Rep K G d v ∧ RepT K G ds r := by simpa only [RepT] using h
theorem repT_nil {vs : List (List Key × V)} (h : RepT K G [] vs) : vs = [] := by simpa only [RepT] using h
theorem repT_mk {k : List Key} {ds : TKs} {vs : List (List Key × V)} (h : Rep K G d v) (r : RepT K G ds vs) : RepT K G ((k, d) :: ds) ((k, v) :: vs) := by
  simp only [RepT]
  exact ⟨v, vs, rfl, h, r⟩
theorem repT_mk0 : RepT K G [] [] := by simp only [RepT]
theorem repT_len : ∀ {ds : TKs} {vs : List (List Key × V)}, RepT K G ds vs → vs.length = ds.length
  | [], vs, h => by rw [repT_nil h]; rfl
  | (k, d) :: ds, vs, h => by
    obtain ⟨v, r, rfl, _, h2⟩ := repT_cons h
    simp only [List.length_cons, repT_len h2]
theorem repT_append : ∀ {ds es : TKs} {vs ws : List (List Key × V)}, RepT K G ds vs → RepT K G es ws → RepT K G (ds ++ es) (vs ++ ws)
  | [], es, vs, ws, h, r => by rw [repT_nil h]; exact r
  | (k, d) :: ds, es, vs, ws, h, r => by
    obtain ⟨v, q, rfl, h1, h2⟩ := repT_cons h
    exact repT_mk h1 (repT_append h2 r)
theorem repT_look {j : List Key} : ∀ {ds : TKs} {vs : List (List Key × V)}, RepT K G ds vs → (∀ d, lookT ds j = some d → ∃ v, valV vs j = some v ∧ Rep K G d v) ∧ (lookT ds j = none → valV vs j = none)
  | [], vs, h => by
    rw [repT_nil h]
    exact ⟨fun d e => by simp [lookT] at e, fun _ => rfl⟩
  | (k, d) :: ds, vs, h => by
    obtain ⟨v, r, rfl, h1, h2⟩ := repT_cons h
    obtain ⟨i1, i2⟩ := repT_look (j := j) h2
    by_cases e : k = j
    · subst e
      simp only [lookT, if_true]
      exact ⟨fun d' e => by cases e; exact ⟨v, valV_pos rfl, h1⟩, fun e => by cases e⟩
    · simp only [lookT, if_neg e]
      rw [valV_neg (p := (k, v)) e]
      exact ⟨i1, i2⟩
theorem repT_isSome {j : List Key} {ds : TKs} {vs : List (List Key × V)} (h : RepT K G ds vs) : (valV vs j).isSome = (lookT ds j).isSome := by
  obtain ⟨a, b⟩ := repT_look (j := j) h
  cases e : lookT ds j with
  | none => rw [b e]; rfl
  | some d => obtain ⟨v, q, _⟩ := a d e; rw [q]; rfl
theorem rep_dtt {ds : TKs} (s : Sub G H) (h : Rep K G (.dtt ds) v) : ∃ a vs, v = .ref a ∧ Rd H a (.dT vs) ∧ RepT K G ds vs := by
  simp only [Rep] at h
  obtain ⟨a, vs, e, q, r⟩ := h
  exact ⟨a, vs, e, s.rd q, r⟩
theorem repL_kD {k : List Key} : ∀ {vs : List V}, RepL K G (k.map kD) vs → vs = k.map kV := by
  induction k with
  | nil => intro vs h; exact repL_nil h
  | cons a k ih =>
    intro vs h
    obtain ⟨v, r, rfl, h1, h2⟩ := repL_cons h
    rw [ih h2, fl_rep (kD_fl a) h1]
    rfl
/-- a tuple that the heap holds as one -/
theorem rep_key {k : List Key} (s : Sub G H) (h : Rep K G (.gtup (k.map kD)) v) : ∃ b, v = .ref b ∧ H b = some (.tup (k.map kV)) := by
  simp only [Rep] at h
  obtain ⟨a, vs, e, q, r⟩ := h
  rw [repL_kD r] at q
  rcases s a _ q with z | ⟨_, _, _, n⟩
  · exact ⟨a, e, z⟩
  · exact absurd rfl (n _)
theorem rep_keyS {k : List Key} (h : Rep K (strip H) (.gtup (k.map kD)) v) : ∃ b, v = .ref b ∧ H b = some (.tup (k.map kV)) := rep_key strip_sub h
end
/-! ### data that says less -/
def DLe (d d' : D) : Prop := ∀ (K : PySem.W.Frag) (G : Hp) (v : V), Rep K G d v → Rep K G d' v
theorem DLe.refl (d : D) : DLe d d := fun _ _ _ h => h
inductive DLs : List D → List D → Prop where
  | nil : DLs [] []
  | cons {d d' : D} {ds es : List D} (a : DLe d d') (b : DLs ds es) : DLs (d :: ds) (d' :: es)
theorem dle_repL : ∀ {ds es : List D}, DLs ds es → ∀ (K : PySem.W.Frag) (G : Hp) (vs : List V), RepL K G ds vs → RepL K G es vs
  | _, _, .nil, K, G, vs, h => h
  | _, _, .cons a b, K, G, vs, h => by
    obtain ⟨v, r, rfl, h1, h2⟩ := repL_cons h
    exact repL_mk (a K G v h1) (dle_repL b K G r h2)
theorem dle_gtup {ds es : List D} (h : DLs ds es) : DLe (.gtup ds) (.tup es) := fun K G v r => by
  simp only [Rep] at r ⊢
  obtain ⟨a, vs, e, q, l⟩ := r
  exact ⟨a, vs, e, .inl (.inl q), dle_repL h K G vs l⟩
theorem dle_same : ∀ ds : List D, DLs ds ds
  | [] => .nil
  | a :: r => .cons (DLe.refl a) (dle_same r)
theorem dle_lst {ds es : List D} (h : DLs ds es) : DLe (.lst ds) (.lst es) := fun K G v r => by
  simp only [Rep] at r ⊢
  obtain ⟨a, vs, e, q, l⟩ := r
  exact ⟨a, vs, e, q, dle_repL h K G vs l⟩
theorem dle_tup {ds es : List D} (h : DLs ds es) : DLe (.tup ds) (.tup es) := fun K G v r => by
  simp only [Rep] at r ⊢
  obtain ⟨a, vs, e, q, l⟩ := r
  exact ⟨a, vs, e, q, dle_repL h K G vs l⟩
theorem dle_map {α : Type} {f g : α → D} (h : ∀ x, DLe (f x) (g x)) : ∀ l : List α, DLs (l.map f) (l.map g)
  | [] => .nil
  | a :: r => .cons (h a) (dle_map h r)
section
variable {X : Cx} {ρ ρ' ρ1 ρ2 : Rh} {s s1 s2 : Sl} {d d' d1 d2 : D} {e a b : Expr} {es : List Expr} {pos : Pos} {ds : List D}
theorem he_weak (h : HE X e ρ (.sh d) ρ') (w : DLe d d') : HE X e ρ (.sh d') ρ' := fun F G H σ Q ok k => h F G H σ Q ok fun v G' H' e1 ok' r => k v G' H' e1 ok' ⟨w _ _ _ r.ok, fun z => by cases z⟩
theorem hg_weak (h : HG X e ρ (.sh d)) (w : DLe d d') : HG X e ρ (.sh d') := fun F G H σ Q ok k => h F G H σ Q ok fun v r => k v (w _ _ _ r)
theorem res_gtup {K : PySem.W.Frag} {F : Fr} {G H : Hp} {σ : L2.St} {p : Addr} {vs : List V} (ok : Ok K F G H σ ρ) (n : H p = none) (r : RepL K G ds vs) : Ok K F (upd G p (.tup vs)) (upd H p (.tup vs)) σ ρ ∧ Res K F (upd G p (.tup vs)) (upd H p (.tup vs)) σ ρ (.sh (.gtup ds)) (.ref p) ∧ Ex G (upd G p (.tup vs)) := by
  obtain ⟨fb, fg, fa⟩ := ok.free n
  have ok1 := ok.new (o := .tup vs) n fun _ _ z => HO.noConfusion z
  have ok2 := ok1.freeze fb fg upd_same (fun _ _ z => HO.noConfusion z) fa
  refine ⟨ok2, ⟨?_, fun z => by cases z⟩, Ex.new fg⟩
  simp only [SlOk, Rep]
  exact ⟨p, vs, rfl, upd_same, RepL.mono (Ex.new fg) r⟩
/-- a tuple that can be a key -/
theorem he_gtup {x1} (h : HEA X es ρ ds ρ') (hl : ds.length ≤ 100000 := by decide) : HE X (.Tuple es x1 pos) ρ (.sh (.gtup ds)) ρ' := fun F G H σ Q ok k =>
  ⟨_, pe_tup pa_wa, h F G H σ _ ok fun vs G1 H1 e1 ok1 r => ⟨ln_ok (by rw [repL_len r]; exact hl), fun p n => by
    obtain ⟨a, b, c⟩ := res_gtup ok1 n r
    exact k _ _ _ (e1.trans c) a b⟩⟩
theorem v_inTk {k : List Key} {ks : TKs} (hu : X.A.units + 1 < cLine) (h1 : d1 = .gtup (k.map kD)) : OpV X (compareOp .In) d1 (.dtt ks) (.bl (lookT ks k).isSome) := ⟨_, _, op_inDict hu, rfl, fun H a b Q ra rb q => by
  subst h1
  obtain ⟨p, vs, rfl, hp, r⟩ := rep_dtt strip_sub rb
  obtain ⟨y, rfl, hy⟩ := rep_keyS ra
  exact ⟨p, valV vs k, rfl, .inr ⟨vs, k, y, hp, rfl, hy, rfl⟩, by rw [repT_isSome r]; exact q⟩⟩
theorem v_ninTk {k : List Key} {ks : TKs} (hu : X.A.units + 1 < cLine) (h1 : d1 = .gtup (k.map kD)) : OpV X (compareOp .NotIn) d1 (.dtt ks) (.bl (!(lookT ks k).isSome)) := ⟨_, _, op_notInDict hu, rfl, fun H a b Q ra rb q => by
  subst h1
  obtain ⟨p, vs, rfl, hp, r⟩ := rep_dtt strip_sub rb
  obtain ⟨y, rfl, hy⟩ := rep_keyS ra
  exact ⟨p, valV vs k, rfl, .inr ⟨vs, k, y, hp, rfl, hy, rfl⟩, by rw [repT_isSome r]; exact q⟩⟩
end
end PL
set_option Elab.async false
set_option linter.all false
set_option maxRecDepth 100000
set_option maxHeartbeats 1000000
namespace PL
open PySem L2 PySem.Spec PyProof.Rows
/-! ### {e: f for x in ..} whose keys are tuples -/
theorem putInT {X : Cx} {pins : List (Addr × Obj)} {σ : L2.St} {H : Hp} {s : Shared} {a b : Addr} {kvs : List (List Key × V)} {k : List Key} {v : V} {r : Value} {E : Value → Shared → Prop} {Q : Unit → Shared → Prop} (hu : X.A.units + 1 < cLine) (I : Inv X pins σ H s)
    (ea : H a = some (.dT kvs)) (eb : H b = some (.tup (k.map kV))) (few : kvs.length < sizeLine) (rv : RelV v r) (go : ∀ s', Inv X pins σ (upd H a (.dT (putK kvs k v))) s' → Q () s') : wpAny (model X.prog X.w) X.A (dictSet a (.ref b) r) Q E s := by
  obtain ⟨le, ns, xs, rel, dd⟩ := dt_of I.hok ea
  have few' := length_putK kvs k v
  refine wpAny_dictSet_heap (knd := tupleKind (mixKind X.prog X.w)) (show (tupleKind (mixKind X.prog X.w)).room X.A from Nat.lt_of_succ_lt hu) (key_of I.hok eb) dd (fun hp dd2 same => go _ ?_) (by rw [← Paired.length rel]; exact le)
  obtain ⟨ob, en, np, hob, c1, c2, c3, _, c4⟩ := dd2
  refine d_write I (by rw [ea]; exact True.intro) same ⟨ob, hob⟩ ⟨by omega, ns, _, KT.keeps (rel.put k eb rv) fun c ys ec => ?_, ob, en, np, hob, c1, c2, c3, c4⟩
  exact (upd_ne (ne_of ec ea fun z => nomatch z)).trans ec
/-- {k: v for target in iter}, D the new dict -/
def tDcT (wi : TI) (g : TG) (tk tv : TE) (vs : List Nat) : TE := fun σ H Q => wi σ H fun J H1 => ∀ D, H1 D = none → ∃ W : Nat → Nat → Hp → Prop, (∃ m, W 0 m (upd H1 D (.dT []))) ∧ ∀ i m H, W i m H →
  (J.stop i H ∧ Q (.ref D) H) ∨ (J.go i H ∧ ∃ Nx : Hp → Prop, (∀ H', Nx H' → ∃ m', m' < m ∧ W (i + 1) m' H') ∧ ∀ x H', J.yld i H x H' → g x (wipe σ vs) H' fun σ2 H2 => wipe σ2 vs = wipe σ vs ∧
    tk σ2 H2 fun y H4 => tv σ2 H4 fun z H5 => ∃ kvs k b, y = .ref b ∧ H5 b = some (.tup (k.map kV)) ∧ H5 D = some (.dT kvs) ∧ kvs.length < sizeLine ∧ Nx (upd H5 D (.dT (putK kvs k z))))
section
variable {X : Cx}
theorem coreT {kx vx tg iter : Expr} {scope : Scope} {own : List (Str × Nat)} {pos pos' : Pos} {wi : TI} {g : TG} {tk tv : TE} {pins : List (Addr × Obj)} {s : Shared} {σ : L2.St} {H : Hp} {Q : VK} {us : Option (Value → Sem Unit)} {Qf : Value → Shared → Prop}
    (I : Inv X pins σ H s) (cal : X.calm = true) (nd : X.N.Nodup) (room : ∀ (s : Shared) (H : Hp) (ce : Env) (fp : List Addr), (X.blk s H scope ce fp).A.units + 1 < cLine) (pit : PI X tg iter wi) (bo : BlkOk X.N X.env.scope scope own) (nf : ∀ x, foldedSetIterable iter X.env x = pure x)
    (rg : ∀ (s : Shared) (H : Hp) (C : Addr) (cl : List (Str × Addr)) (fp : List Addr), PG (X.blk s H scope (compEnvC scope cl C X.env) fp) tg g)
    (rk : ∀ (s : Shared) (H : Hp) (C : Addr) (cl : List (Str × Addr)) (fp : List Addr), PE (X.blk s H scope (compEnvC scope cl C X.env) fp) kx tk)
    (rv : ∀ (s : Shared) (H : Hp) (C : Addr) (cl : List (Str × Addr)) (fp : List Addr), PE (X.blk s H scope (compEnvC scope cl C X.env) fp) vx tv)
    (h : tDcT wi g tk tv (own.map (·.2)) σ H Q)
    (out : ∀ D C s' m H', Inv X pins σ H' s' → Q (.ref D) H' → s'.heap.Ns C m → FpOk X pins H' C → compPost (model X.prog X.w) X.A X.xe us Qf (.ref D) C (.ok .next) s') :
    wpAny (model X.prog X.w) X.A (comprehension (.DictComp kx vx [⟨tg, iter, [], 0⟩] scope pos) scope X.env pos' newDict false (eval iter X.env) us) Qf X.xe s := by
  have known : ∀ y ∈ scope.names, y.2 = .free → ∃ c, X.env.cells.lookup y.1 = some c := fun y hy e => (bo.free y hy e).elim (fun z => I.ok.has _ (.inl z)) fun z => I.ok.has _ (.inr z)
  refine wpAny_comprehension_free (use := us) rfl nf (closure_ok known) bo.kind (fun y hy e => by rw [bo.uniq y hy, e]) (thn (pit.run pins s σ H _ I h) fun _ sA kA => thn kA fun _ sB kB => ?_)
  obtain ⟨itr, fp, tn, J, HB', rfl, IB, T, stB, fB, kont⟩ := kB
  refine wpAny_newObj_type (newEnv_comp ?_)
  obtain ⟨dA, hdA⟩ : ∃ dA, sB.heap.objs.size = dA := ⟨_, rfl⟩
  rw [hdA]
  have fresh : HB' dA = none := IB.hok.fresh (Nat.le_of_eq hdA)
  obtain ⟨W, ⟨m0, w0⟩, each⟩ := kont dA fresh
  obtain ⟨sC, hsC⟩ : ∃ sC : Shared, ({ sB with heap := sB.heap.push { cls := .type "dict", data := .dict #[] } } : Shared) = sC := ⟨_, rfl⟩
  have hpC : sC.heap = sB.heap.push { cls := .type "dict", data := .dict #[] } := congrArg Shared.heap hsC.symm
  have IC : Inv X pins σ (upd HB' dA (.dT [])) sC := hsC ▸ IB.laid (t' := sB.toks) (fun _ _ e => Heap.get?_push_of_some _ e) (Nat.le_of_eq hdA) (hdA ▸ dt_empty sB.heap IB.big)
  have below : ∀ b ∈ fp, b < dA := fun b hb => let ⟨_, e, _⟩ := T.obj _ _ stB b hb; hdA ▸ Heap.lt_size e
  have fC : ∀ b ∈ fp, FpOk X pins (upd HB' dA (.dT [])) b ∧ b < sC.heap.objs.size := fun b hb => ⟨⟨(upd_ne (Nat.ne_of_lt (below b hb))).trans (fB b hb).1, (fB b hb).2⟩, by rw [hpC, Heap.size_push, hdA]; exact Nat.lt_succ_of_lt (below b hb)⟩
  have stC : tn 0 sC.heap := T.keep _ _ _ stB fun b _ o e => hpC ▸ Heap.get?_push_of_some _ e
  have ID := block_start IC bo nd fC
  obtain ⟨ce, hce⟩ : ∃ ce, compEnvC scope (cellsFrom (sC.heap.objs.size + 1) scope.names (cloFrom X.env.cells scope.names [])) sC.heap.objs.size X.env = ce := ⟨_, rfl⟩
  have pg := rg sC (upd HB' dA (.dT [])) sC.heap.objs.size (cellsFrom (sC.heap.objs.size + 1) scope.names (cloFrom X.env.cells scope.names [])) fp
  have pk := rk sC (upd HB' dA (.dT [])) sC.heap.objs.size (cellsFrom (sC.heap.objs.size + 1) scope.names (cloFrom X.env.cells scope.names [])) fp
  have pv := rv sC (upd HB' dA (.dT [])) sC.heap.objs.size (cellsFrom (sC.heap.objs.size + 1) scope.names (cloFrom X.env.cells scope.names [])) fp
  have loc : ce.locals = sC.heap.objs.size := hce ▸ rfl
  obtain ⟨HC, hHC⟩ : ∃ HC, upd HB' dA (.dT []) = HC := ⟨_, rfl⟩
  rw [hce, hHC] at ID pg pk pv
  rw [hHC] at IC w0 fC
  obtain ⟨sD, hsD⟩ : ∃ sD : Shared, ({ sC with heap := pushCells (sC.heap.push { cls := .type "dict", data := .dict #[] }) scope.names } : Shared) = sD := ⟨_, rfl⟩
  rw [hsD] at ID
  have stD : tn 0 sD.heap := T.keep _ _ _ stC fun b _ o e => by rw [← hsD]; exact pushCells_keeps _ _ _ _ (Heap.get?_push_of_some _ e)
  have foot : ∀ {σ' : L2.St} {H' : Hp} {s' : Shared}, Inv (X.blk sC HC scope ce fp) [] σ' H' s' → (∀ b ∈ fp, H' b = none) → ∀ b ∈ fp, FpOk (X.blk sC HC scope ce fp) [] H' b := fun {σ' H' s'} J' no b hb =>
    ⟨no b hb, (J'.ok.exf b hb).1, J'.ok.exfs b hb, .inl hb, fun x c e => (J'.ok.exf b hb).2 x c e, fun p hp => by cases hp⟩
  have body : codeAny (model X.prog X.w) X.A (.compLoop (.DictComp kx vx [⟨tg, iter, [], 0⟩] scope pos) 0 (.ref itr) (.ref dA) ce) (compPost (model X.prog X.w) X.A X.xe us Qf (.ref dA) sC.heap.objs.size) sD := by
    refine compLoop_anyD (fun n t => ∃ i Ht, W i n Ht ∧ tn i t.heap ∧ (∀ b ∈ fp, Ht b = none) ∧ Inv (X.blk sC HC scope ce fp) [] (wipe σ (own.map (·.2))) Ht t) ?_ m0 ⟨0, HC, w0, stD, fun b hb => (fC b hb).1.1, ID⟩
    rintro n t ⟨i, Ht, wt, stt, nt, It⟩
    rcases each i n Ht wt with ⟨stop, fin⟩ | ⟨go, Nx, down, step⟩
    · refine thnF (T.done (X.blk sC HC scope ce fp) rfl rfl rfl cal i [] t _ Ht (fun _ _ => False) It (foot It nt) stt stop) fun r t2 ⟨hr, I2⟩ => ?_
      subst hr
      have free : Ht sC.heap.objs.size = none := loc ▸ (show Ht ce.locals = none from I2.free)
      obtain ⟨m, ns, _⟩ := I2.loc
      have I3 : Inv X pins σ Ht t2 := IC.call' (ch := fp) I2.os I2.base I2.hok I2.bare fun b hb => let q := (fC b hb).1.2; ⟨q.2.2.1, q.1, q.2.2.2.1, q.2.2.2.2⟩
      exact out dA _ t2 m Ht I3 fin (loc ▸ (show t2.heap.Ns ce.locals m from ns)) (IC.fpOk (Nat.le_refl _) free)
    · refine thnF (T.item (X.blk sC HC scope ce fp) rfl rfl rfl cal i [] t _ Ht (fun _ _ => False) It (foot It nt) stt go) fun r t2 ⟨u, hr, k2⟩ => ?_
      subst hr
      refine thnF k2 fun _ t3 ⟨x, H3, I3, r3, y3, st3, n3⟩ => ?_
      refine thnF (pg.run _ t3 _ H3 x u _ (I3.pinned (foot I3 n3) (T.obj _ _ st3)) r3 (step x H3 y3)) fun _ t4 ⟨σ4, H4, I4, hw, q4⟩ => ?_
      refine wpAny_pure ?_
      simp only [if_true]
      refine thnF (pk.run _ t4 σ4 H4 _ I4 q4) fun _ t5 ⟨_, H5, I5, r5, q5⟩ => thnF (pv.run _ t5 σ4 H5 _ I5 q5) fun _ t6 ⟨_, H6, I6, r6, kvs, k, b, eb, hb, hD, few, nx⟩ => ?_
      subst eb
      cases r5
      refine putInT (X := X.blk sC HC scope ce fp) (room _ _ _ _) I6 hD hb few r6 fun t7 I7 => ?_
      obtain ⟨m', lt, w'⟩ := down _ nx
      have kept : ∀ b ∈ fp, ∀ o, t3.heap.get? b = some o → t7.heap.get? b = some o ∧ _ := fun b hb o e => let z := I7.pin (b, o) (List.mem_append_right _ (List.mem_append_right _ (mem_pinsAt hb e))); ⟨z.1, z.2.1⟩
      refine ⟨m', lt, i + 1, _, w', T.keep _ _ _ st3 fun b hb o e => (kept b hb o e).1, fun b hb => ?_, (I7.unpinned (pins := [])).weak (by rw [← hw, wipe_length]) fun j v e => ?_⟩
      · obtain ⟨o, e, _⟩ := T.obj _ _ st3 b hb
        exact (kept b hb o e).2
      · rw [← hw] at e
        exact (wipe_some e).1
  have fin := codeAny_compStart_dict body (T.self X.A 0 _ _ _ stD body)
  subst hsD hce hsC
  exact fin
/-- as a value -/
theorem pe_dcT {kx vx tg iter : Expr} {scope : Scope} {own : List (Str × Nat)} {pos : Pos} {wi : TI} {g : TG} {tk tv : TE} (cal : X.calm = true) (nd : X.N.Nodup) (room : ∀ (s : Shared) (H : Hp) (ce : Env) (fp : List Addr), (X.blk s H scope ce fp).A.units + 1 < cLine) (pit : PI X tg iter wi) (bo : BlkOk X.N X.env.scope scope own)
    (rg : ∀ (s : Shared) (H : Hp) (C : Addr) (cl : List (Str × Addr)) (fp : List Addr), PG (X.blk s H scope (compEnvC scope cl C X.env) fp) tg g)
    (rk : ∀ (s : Shared) (H : Hp) (C : Addr) (cl : List (Str × Addr)) (fp : List Addr), PE (X.blk s H scope (compEnvC scope cl C X.env) fp) kx tk)
    (rv : ∀ (s : Shared) (H : Hp) (C : Addr) (cl : List (Str × Addr)) (fp : List Addr), PE (X.blk s H scope (compEnvC scope cl C X.env) fp) vx tv) (nf : ∀ x, foldedSetIterable iter X.env x = pure x := by intro _; rfl) :
    PE X (.DictComp kx vx [⟨tg, iter, [], 0⟩] scope pos) (tDcT wi g tk tv (own.map (·.2))) := by
  refine ⟨fun pins s σ H Q I h => ?_⟩
  rw [arm_eval_DictComp]
  exact coreT I cal nd room pit bo nf rg rk rv h fun D C s' m H' I' q ns f => ⟨m, ns, fun _ sb => ⟨.ref D, H', I'.turned (t' := s'.toks) (fun b _ hb e => (sb.2 b hb).trans e) f.1 f.2.1 f.2.2.2.1 f.2.2.2.2.1 f.2.2.2.2.2, rfl, q⟩⟩
end
end PL
set_option Elab.async false
set_option linter.all false
set_option maxRecDepth 100000
set_option maxHeartbeats 1000000
namespace PL
open PySem L2
section
variable {X : Cx} {ρ ρ' ρ0 ρ1 ρ2 ρ3 : Rh} {s s1 s2 : Sl} {d d1 d2 : D} {tg iter elt kx vx : Expr} {scope : Scope} {own : List (Str × Nat)} {pos spos py : Pos} {ds : List D} {y : Str}
/-- a dict's comprehension that changes no slot: key kk d (a tuple), value f d -/
theorem dcT_read {kk : D → List Key} {f : D → D} {F : Fr} {G H : Hp} {σ : L2.St} {Q : VK} (is : List Nat) (hi : HI X tg iter ρ ds ρ0) (hbig : ds.length < 100000) (hsh : noOwn ρ0 (own.map (·.2)) = true) (his : ∀ j ∈ is, j ∈ own.map (·.2)) (hnd : (ds.map kk).Nodup)
    (ht : ∀ (i : Nat) (d : D), ds[i]? = some d → ∃ ρt, (∀ s H C cl fp, HB (Bk X scope s H C cl fp) tg is d (wr ρ0 (own.map (·.2))) ρt) ∧ (∀ s H C cl fp, HE (Bk X scope s H C cl fp) kx ρt (.sh (.gtup ((kk d).map kD))) ρt) ∧ ∃ ρ2, (∀ s H C cl fp, HE (Bk X scope s H C cl fp) vx ρt (.sh (f d)) ρ2) ∧ wr ρ2 (own.map (·.2)) = wr ρ0 (own.map (·.2)))
    (ok : Ok X.K F G H σ ρ) (kn : ∀ v G' H', Ex G G' → Ok X.K F G' H' σ ρ0 → Res X.K F G' H' σ ρ0 (.ot (ds.map fun d => (kk d, f d))) v → Q v H') :
    tDcT (WI X tg iter) (fun v σ H Q => ∀ s H0 C cl fp, WG (Bk X scope s H0 C cl fp) tg v σ H Q) (fun σ H Q => ∀ s H0 C cl fp, WE (Bk X scope s H0 C cl fp) kx σ H Q) (fun σ H Q => ∀ s H0 C cl fp, WE (Bk X scope s H0 C cl fp) vx σ H Q) (own.map (·.2)) σ H (fun v H' => Unl X H' (Q v)) := by
  refine hi F G H σ _ ok fun J F' G1 H1 e1 ok1 hG0 wk ex => fun Dl hD => ?_
  obtain ⟨exio, ex⟩ := ex
  obtain ⟨fb, fg, fa⟩ := ok1.free hD
  refine ⟨fun i m H2 => m = ds.length + 1 - i ∧ i ≤ ds.length ∧ ∃ G2 av, RepT X.K G2 ((ds.take i).map fun d => (kk d, f d)) av ∧ H2 Dl = some (.dT av) ∧ G2 Dl = none ∧ Apart (wipe σ (own.map (·.2))) (wr ρ0 (own.map (·.2))) (.ref Dl) ∧ Ok X.K F' G2 H2 (wipe σ (own.map (·.2))) (wr ρ0 (own.map (·.2))),
    ⟨ds.length + 1, by simp, Nat.zero_le _, G1, [], by simp only [List.take_zero, List.map_nil]; exact repT_mk0, upd_same, fg, apart_wipe fa, ok_wipe (ok1.new hD fun _ _ z => HO.noConfusion z)⟩, ?_⟩
  rintro i m H2 ⟨rfl, hle, G2, av, rav, hDl, gDl, apD, ok2⟩
  by_cases hlt : i < ds.length
  · refine .inr ⟨wk.go i F' G2 H2 _ _ (FrLe.refl _) hlt ok2, fun H3 => ∃ G3 av, RepT X.K G3 ((ds.take (i + 1)).map fun d => (kk d, f d)) av ∧ H3 Dl = some (.dT av) ∧ G3 Dl = none ∧ Apart (wipe σ (own.map (·.2))) (wr ρ0 (own.map (·.2))) (.ref Dl) ∧ Ok X.K F' G3 H3 (wipe σ (own.map (·.2))) (wr ρ0 (own.map (·.2))),
      fun H3 h => ⟨ds.length + 1 - (i + 1), by omega, rfl, hlt, h⟩, fun x H3 y => ?_⟩
    have okg := ok_guard ok2 hDl apD
    have le : FrLe F' ⟨upd F'.B Dl (.dT av), G2, F'.io⟩ := ⟨Ex.new fb, ok2.g0⟩
    obtain ⟨d, G3, hd, e3, ok3, rd⟩ := wk.yl i _ G2 H2 _ _ x H3 le hlt okg y
    obtain ⟨ρt, hb, hkx, ρ2, hvx, hr⟩ := ht i d hd
    intro s0 H0 C0 cl0 fp0
    refine hb s0 H0 C0 cl0 fp0 _ G3 H3 _ x _ ok3 rd fun σ4 ok4 se sl => ?_
    have hw : wipe σ4 (own.map (·.2)) = wipe σ (own.map (·.2)) := wipe_eq se sl his
    refine ⟨hw, ?_⟩
    intro s1 H01 C1 cl1 fp1
    refine hkx s1 H01 C1 cl1 fp1 _ G3 H3 σ4 _ ok4 fun yk G5 H5 e5 ok5 rk => ?_
    intro s2 H02 C2 cl2 fp2
    refine hvx s2 H02 C2 cl2 fp2 _ G5 H5 σ4 _ ok5 fun z G6 H6 e6 ok6 rz => ?_
    obtain ⟨bk, ebk, hbk⟩ := rep_key ok6.sub (Rep.mono e6 (show Rep X.K G5 (.gtup ((kk d).map kD)) yk from rk.ok))
    have ok7 := ok_wipe (vs := own.map (·.2)) ok6
    rw [hw, hr] at ok7
    obtain ⟨ok8, h8, g8, a8⟩ := ok_unguard ok7 ok2.toHk fb gDl fun _ _ z => HO.noConfusion z
    have g6 : Ex G2 G6 := (e3.trans e5).trans e6
    have rav6 := RepT.mono g6 rav
    have hnew : valV av (kk d) = none := by
      refine (repT_look rav6).2 ?_
      have : ∀ (l : List D), (l ++ [d]).map kk |>.Nodup → lookT (l.map fun d => (kk d, f d)) (kk d) = none := by
        intro l
        induction l with
        | nil => intro _; rfl
        | cons a l ih =>
          intro hn
          simp only [List.cons_append, List.map_cons, List.nodup_cons] at hn
          simp only [List.map_cons, lookT]
          rw [if_neg (fun e => hn.1 (by rw [e]; simp)), ih hn.2]
      refine this _ ?_
      have : (ds.take i ++ [d]) = ds.take (i + 1) := by rw [List.take_add_one, hd]; rfl
      rw [this, List.map_take]
      exact hnd.sublist (List.take_sublist _ _)
    refine ⟨av, kk d, bk, ebk, hbk, h8, ln_lt (by rw [repT_len rav, List.length_map, List.length_take]; omega), G6, _, ?_, upd_same, g8, a8, ok_side ok8 fb g8 a8 fun _ _ z => HO.noConfusion z⟩
    rw [putK_new z hnew, List.take_add_one, hd, List.map_append]
    exact repT_append rav6 (repT_mk rz.ok repT_mk0)
  · have e : i = ds.length := by omega
    subst e
    have ok9 : Ok X.K F' G2 H2 σ ρ0 := ok_unwipe ok2 ok1 (by rw [← hG0]; exact ok2.g0) rfl (fun _ _ => rfl) (noOwn_sh hsh)
    have ap9 : Apart σ ρ0 (.ref Dl) := fun j t hj oj ej => by
      by_cases z : j ∈ own.map (·.2)
      · rw [noOwn_sh hsh j z t hj] at oj
        cases oj
      · exact apD j t (by rw [wr_out z]; exact hj) oj (by rw [wipe_out z]; exact ej)
    rw [List.take_length] at rav
    refine .inl ⟨wk.st F' G2 H2 _ _ (FrLe.refl _) ok2, ex G2 H2 σ _ (Q (.ref Dl)) ok9 fun H3 ok3 rr => ?_⟩
    exact kn _ G2 H3 (e1.trans (by rw [← hG0]; exact ok2.g0)) ok3 (rr (.ot _) (.ref Dl) ⟨⟨Dl, av, rfl, fb, gDl, hDl, rav⟩, fun _ => ap9⟩)
theorem he_dmapT {kk : D → List Key} {f : D → D} (own : List (Str × Nat)) (is : List Nat) (hu : X.A.units + 1 < cLine) (hi : HI X tg iter ρ ds ρ0) (hN : X.N.Nodup) (ok : BlkOk X.N X.env.scope scope own) (hbig : ds.length < 100000) (hnd : (ds.map kk).Nodup)
    (ht : ∀ (i : Nat) (d : D), ds[i]? = some d → ∃ ρt, (∀ s H C cl fp, HB (Bk X scope s H C cl fp) tg is d (wr ρ0 (own.map (·.2))) ρt) ∧ (∀ s H C cl fp, HE (Bk X scope s H C cl fp) kx ρt (.sh (.gtup ((kk d).map kD))) ρt) ∧ ∃ ρ2, (∀ s H C cl fp, HE (Bk X scope s H C cl fp) vx ρt (.sh (f d)) ρ2) ∧ wr ρ2 (own.map (·.2)) = wr ρ0 (own.map (·.2)))
    (hsh : noOwn ρ0 (own.map (·.2)) = true := by rfl) (his : ∀ j ∈ is, j ∈ own.map (·.2) := by decide) (hc : X.calm = true := by rfl) (hs : ∀ x, foldedSetIterable iter X.env x = pure x := by intro _; rfl) :
    HE X (.DictComp kx vx [⟨tg, iter, [], 0⟩] scope pos) ρ (.ot (ds.map fun d => (kk d, f d))) ρ0 := fun F G H σ Q okk kn =>
  ⟨_, pe_unl (pe_dcT hc hN (fun _ _ _ _ => hu) pi_wi ok (fun s H C cl fp => ⟨fun pins s' σ H' v u Q I r h => (pg_wg (X := Bk X scope s H C cl fp)).run pins s' σ H' v u Q I r (h s H C cl fp)⟩)
    (fun s H C cl fp => ⟨fun pins s' σ H' Q I h => (pe_we (X := Bk X scope s H C cl fp)).run pins s' σ H' Q I (h s H C cl fp)⟩) (fun s H C cl fp => ⟨fun pins s' σ H' Q I h => (pe_we (X := Bk X scope s H C cl fp)).run pins s' σ H' Q I (h s H C cl fp)⟩) hs), dcT_read is hi hbig hsh his hnd ht okk kn⟩
end
end PL
set_option Elab.async false
set_option linter.all false
set_option maxRecDepth 100000
namespace PL
open PySem L2
section
variable {X : Cx} {ρ ρ' : Rh} {c : Expr} {pos : Pos} {body : List Stmt}
/-- a while loop of n turns: R i ahead of the i-th test -/
theorem hs_while (R : Nat → Rh) (n : Nat) (h0 : R 0 = ρ) (go : ∀ i, i < n → ∃ ρ1, HT X c (R i) true ρ1 ∧ (HS X body ρ1 (.nx (R (i + 1))) ∨ HS X body ρ1 (.ct (R (i + 1))))) (stop : HT X c (R n) false ρ')
    (hp : PassesOwn (model X.prog X.w) X.A X.env X.xe := by exact PassesOwn.never) : HS1 X (.While c body [] pos) ρ (.nx ρ') := fun F G H σ D ok post => by
  refine ⟨_, ps_while hp pt_wt pss_wss, fun m σ2 H2 => ∃ i G2, m = n - i ∧ i ≤ n ∧ Ok X.K F G2 H2 σ2 (R i), ⟨n, 0, G, by omega, Nat.zero_le _, by rw [h0]; exact ok⟩, ?_⟩
  rintro m σ2 H2 ⟨i, G2, rfl, hi, ok2⟩
  by_cases hlt : i < n
  · obtain ⟨ρ1, ht, hb⟩ := go i hlt
    refine ht F G2 H2 σ2 _ ok2 fun G3 H3 e3 ok3 => ?_
    rw [if_pos rfl]
    refine ⟨fun σ4 H4 => ∃ G4, Ok X.K F G4 H4 σ4 (R (i + 1)), fun σ4 H4 ⟨G4, ok4⟩ => ⟨n - (i + 1), by omega, i + 1, G4, rfl, hlt, ok4⟩, ?_⟩
    rcases hb with hb | hb
    · exact hb F G3 H3 σ2 _ ok3 fun σ4 G4 H4 ok4 => ⟨G4, ok4⟩
    · exact hb F G3 H3 σ2 _ ok3 fun σ4 G4 H4 ok4 => ⟨G4, ok4⟩
  · have e : i = n := by omega
    subst e
    refine stop F G2 H2 σ2 _ ok2 fun G3 H3 e3 ok3 => ?_
    rw [if_neg Bool.false_ne_true]
    exact post σ2 G3 H3 ok3
/-- x += e, x -= e of whole numbers -/
theorem hs_subI (i : Nat) {x : Str} {e : Expr} {pos' : Pos} {n m : Int} (hi1 : ρ[i]? = some (some (.sh (.int n)))) (h : HG X e ρ (.sh (.int m))) (hN : X.N.Nodup) (hi : X.N[i]? = some x := by rfl) (hx : Loc X.env.scope x := by first | exact Or.inl rfl | exact Or.inr rfl)
    (hf : X.fn x = true ∨ X.env.scope.names.lookup x = some .local := by first | exact .inl rfl | exact .inr rfl) : HS1 X (.AugAssign (.Name x pos') .Sub e pos) ρ (.nx (ρ.set i (some (.sh (.int (n - m)))))) := fun F G H σ D ok post => by
  obtain ⟨v, hv, hs⟩ := ok.sl i _ hi1
  refine ⟨_, ps_aug hN hi hx pe_we ip_sub hf, v, hv, h F G H σ _ ok fun w rw1 => ⟨n, m, int_of hs, int_of rw1, ?_⟩⟩
  exact post _ G H (ok.put ⟨rep_fl rfl, fun z => by cases z⟩)
end
end PL
set_option Elab.async false
set_option linter.all false
set_option maxRecDepth 100000
set_option maxHeartbeats 1000000
namespace PL
open PySem L2
section
variable {X : Cx} {ρ ρ' ρ0 ρ1 ρ2 ρ3 : Rh} {s s1 s2 : Sl} {d d1 d2 : D} {tg iter elt kx vx : Expr} {ifs : List Expr} {scope : Scope} {own : List (Str × Nat)} {pos spos py : Pos} {ds : List D} {y : Str}
/-- a dict's comprehension with a test g d that changes no slot -/
theorem dcF_read {kk : D → Key} {f : D → D} {g : D → Bool} {F : Fr} {G H : Hp} {σ : L2.St} {Q : VK} (is : List Nat) (hi : HI X tg iter ρ ds ρ0) (hbig : ds.length < 100000) (hsh : noOwn ρ0 (own.map (·.2)) = true) (his : ∀ j ∈ is, j ∈ own.map (·.2)) (hnd : (ds.map kk).Nodup)
    (ht : ∀ (i : Nat) (d : D), ds[i]? = some d → ∃ ρt, (∀ s H C cl fp, HB (Bk X scope s H C cl fp) tg is d (wr ρ0 (own.map (·.2))) ρt) ∧ wr ρt (own.map (·.2)) = wr ρ0 (own.map (·.2)) ∧ (∀ s H C cl fp, HTs (Bk X scope s H C cl fp) ifs ρt (g d) ρt) ∧ (g d = true → (∀ s H C cl fp, HE (Bk X scope s H C cl fp) kx ρt (.sh (kD (kk d))) ρt) ∧ ∀ s H C cl fp, HE (Bk X scope s H C cl fp) vx ρt (.sh (f d)) ρt))
    (ok : Ok X.K F G H σ ρ) (kn : ∀ v G' H', Ex G G' → Ok X.K F G' H' σ ρ0 → Res X.K F G' H' σ ρ0 (.od ((ds.filter g).map fun d => (kk d, f d))) v → Q v H') :
    tDc (WI X tg iter) (fun v σ H Q => ∀ s H0 C cl fp, WG (Bk X scope s H0 C cl fp) tg v σ H Q) (fun σ H Q => ∀ s H0 C cl fp, ∃ t, PTs (Bk X scope s H0 C cl fp) ifs t ∧ t σ H Q) (fun σ H Q => ∀ s H0 C cl fp, WE (Bk X scope s H0 C cl fp) kx σ H Q) (fun σ H Q => ∀ s H0 C cl fp, WE (Bk X scope s H0 C cl fp) vx σ H Q) (own.map (·.2)) σ H (fun v H' => Unl X H' (Q v)) := by
  refine hi F G H σ _ ok fun J F' G1 H1 e1 ok1 hG0 wk ex => fun Dl hD => ?_
  obtain ⟨exio, ex⟩ := ex
  obtain ⟨fb, fg, fa⟩ := ok1.free hD
  refine ⟨fun i m H2 => m = ds.length + 1 - i ∧ i ≤ ds.length ∧ ∃ G2 av, RepK X.K G2 (((ds.take i).filter g).map fun d => (kk d, f d)) av ∧ H2 Dl = some (.dK av) ∧ G2 Dl = none ∧ Apart (wipe σ (own.map (·.2))) (wr ρ0 (own.map (·.2))) (.ref Dl) ∧ Ok X.K F' G2 H2 (wipe σ (own.map (·.2))) (wr ρ0 (own.map (·.2))),
    ⟨ds.length + 1, by simp, Nat.zero_le _, G1, [], by simp only [List.take_zero, List.filter_nil, List.map_nil]; exact repK_mk0, upd_same, fg, apart_wipe fa, ok_wipe (ok1.new hD fun _ _ z => HO.noConfusion z)⟩, ?_⟩
  rintro i m H2 ⟨rfl, hle, G2, av, rav, hDl, gDl, apD, ok2⟩
  by_cases hlt : i < ds.length
  · refine .inr ⟨wk.go i F' G2 H2 _ _ (FrLe.refl _) hlt ok2, fun H3 => ∃ G3 av, RepK X.K G3 (((ds.take (i + 1)).filter g).map fun d => (kk d, f d)) av ∧ H3 Dl = some (.dK av) ∧ G3 Dl = none ∧ Apart (wipe σ (own.map (·.2))) (wr ρ0 (own.map (·.2))) (.ref Dl) ∧ Ok X.K F' G3 H3 (wipe σ (own.map (·.2))) (wr ρ0 (own.map (·.2))),
      fun H3 h => ⟨ds.length + 1 - (i + 1), by omega, rfl, hlt, h⟩, fun x H3 y => ?_⟩
    have okg := ok_guard ok2 hDl apD
    have le : FrLe F' ⟨upd F'.B Dl (.dK av), G2, F'.io⟩ := ⟨Ex.new fb, ok2.g0⟩
    obtain ⟨d, G3, hd, e3, ok3, rd⟩ := wk.yl i _ G2 H2 _ _ x H3 le hlt okg y
    obtain ⟨ρt, hb, hr, hif, hyes⟩ := ht i d hd
    intro s0 H0 C0 cl0 fp0
    refine hb s0 H0 C0 cl0 fp0 _ G3 H3 _ x _ ok3 rd fun σ4 ok4 se sl => ?_
    have hw : wipe σ4 (own.map (·.2)) = wipe σ (own.map (·.2)) := wipe_eq se sl his
    refine ⟨hw, ?_⟩
    have htk : ds.take (i + 1) = ds.take i ++ [d] := by rw [List.take_add_one, hd]; rfl
    intro s1 H01 C1 cl1 fp1
    refine hif s1 H01 C1 cl1 fp1 _ G3 H3 σ4 _ ok4 fun G4 H4 e4 ok4' => ?_
    cases hg : g d with
    | false =>
      rw [if_neg Bool.false_ne_true]
      have ok7 := ok_wipe (vs := own.map (·.2)) ok4'
      rw [hw, hr] at ok7
      obtain ⟨ok8, h8, g8, a8⟩ := ok_unguard ok7 ok2.toHk fb gDl fun _ _ z => HO.noConfusion z
      refine ⟨G4, av, ?_, h8, g8, a8, ok8⟩
      rw [htk, List.filter_append, List.filter_cons_of_neg (by rw [hg]; exact Bool.false_ne_true), List.filter_nil, List.append_nil]
      exact RepK.mono (e3.trans e4) rav
    | true =>
      rw [if_pos rfl]
      obtain ⟨hkx, hvx⟩ := hyes hg
      intro s1 H01 C1 cl1 fp1
      refine hkx s1 H01 C1 cl1 fp1 _ G4 H4 σ4 _ ok4' fun yk G5 H5 e5 ok5 rk => ?_
      intro s2 H02 C2 cl2 fp2
      refine hvx s2 H02 C2 cl2 fp2 _ G5 H5 σ4 _ ok5 fun z G6 H6 e6 ok6 rz => ?_
      have ok7 := ok_wipe (vs := own.map (·.2)) ok6
      rw [hw, hr] at ok7
      obtain ⟨ok8, h8, g8, a8⟩ := ok_unguard ok7 ok2.toHk fb gDl fun _ _ z => HO.noConfusion z
      have g6 : Ex G2 G6 := ((e3.trans e4).trans e5).trans e6
      have hyk : yk = kV (kk d) := fl_rep (kD_fl _) (show Rep X.K G5 (kD (kk d)) yk from rk.ok)
      have rav6 := RepK.mono g6 rav
      have hnew : valV av (kk d) = none := by
        refine (repK_look rav6).2 ?_
        have aux : ∀ (l : List D), kk d ∉ l.map kk → look (l.map fun d => (kk d, f d)) (kk d) = none := by
          intro l
          induction l with
          | nil => intro _; rfl
          | cons a l ih =>
            intro hn
            rw [List.map_cons, List.mem_cons, not_or] at hn
            simp only [List.map_cons, look]
            rw [if_neg fun e => hn.1 e.symm]
            exact ih hn.2
        refine aux _ fun hm => ?_
        obtain ⟨u, hu, eu⟩ := List.mem_map.mp hm
        have nd2 := hnd.sublist ((List.take_sublist (i + 1) ds).map kk)
        rw [htk, List.map_append, List.map_singleton] at nd2
        exact (List.nodup_append.mp nd2).2.2 _ (List.mem_map.mpr ⟨u, (List.mem_filter.mp hu).1, rfl⟩) _ List.mem_cons_self eu
      refine ⟨av, kk d, hyk, h8, ln_lt (by have := List.length_filter_le g (ds.take i); rw [repK_len rav, List.length_map]; rw [List.length_take] at this; omega), G6, _, ?_, upd_same, g8, a8, ok_side ok8 fb g8 a8 fun _ _ z => HO.noConfusion z⟩
      rw [putK_new z hnew, htk, List.filter_append, List.filter_cons_of_pos hg, List.filter_nil, List.map_append]
      exact repK_append rav6 (repK_mk rz.ok repK_mk0)
  · have e : i = ds.length := by omega
    subst e
    have ok9 : Ok X.K F' G2 H2 σ ρ0 := ok_unwipe ok2 ok1 (by rw [← hG0]; exact ok2.g0) rfl (fun _ _ => rfl) (noOwn_sh hsh)
    have ap9 : Apart σ ρ0 (.ref Dl) := fun j t hj oj ej => by
      by_cases z : j ∈ own.map (·.2)
      · rw [noOwn_sh hsh j z t hj] at oj
        cases oj
      · exact apD j t (by rw [wr_out z]; exact hj) oj (by rw [wipe_out z]; exact ej)
    rw [List.take_length] at rav
    refine .inl ⟨wk.st F' G2 H2 _ _ (FrLe.refl _) ok2, ex G2 H2 σ _ (Q (.ref Dl)) ok9 fun H3 ok3 rr => ?_⟩
    exact kn _ G2 H3 (e1.trans (by rw [← hG0]; exact ok2.g0)) ok3 (rr (.od _) (.ref Dl) ⟨⟨Dl, av, rfl, fb, gDl, hDl, rav⟩, fun _ => ap9⟩)
theorem he_dmapF {kk : D → Key} {f : D → D} {g : D → Bool} (own : List (Str × Nat)) (is : List Nat) (hi : HI X tg iter ρ ds ρ0) (hN : X.N.Nodup) (ok : BlkOk X.N X.env.scope scope own) (hbig : ds.length < 100000) (hnd : (ds.map kk).Nodup)
    (ht : ∀ (i : Nat) (d : D), ds[i]? = some d → ∃ ρt, (∀ s H C cl fp, HB (Bk X scope s H C cl fp) tg is d (wr ρ0 (own.map (·.2))) ρt) ∧ wr ρt (own.map (·.2)) = wr ρ0 (own.map (·.2)) ∧ (∀ s H C cl fp, HTs (Bk X scope s H C cl fp) ifs ρt (g d) ρt) ∧ (g d = true → (∀ s H C cl fp, HE (Bk X scope s H C cl fp) kx ρt (.sh (kD (kk d))) ρt) ∧ ∀ s H C cl fp, HE (Bk X scope s H C cl fp) vx ρt (.sh (f d)) ρt))
    (hsh : noOwn ρ0 (own.map (·.2)) = true := by rfl) (his : ∀ j ∈ is, j ∈ own.map (·.2) := by decide) (hc : X.calm = true := by rfl) (hs : ∀ x, foldedSetIterable iter X.env x = pure x := by intro _; rfl) :
    HE X (.DictComp kx vx [⟨tg, iter, ifs, 0⟩] scope pos) ρ (.od ((ds.filter g).map fun d => (kk d, f d))) ρ0 := fun F G H σ Q okk kn =>
  ⟨_, pe_unl (pe_dc hc hN pi_wi ok (fun s H C cl fp => ⟨fun pins s' σ H' v u Q I r h => (pg_wg (X := Bk X scope s H C cl fp)).run pins s' σ H' v u Q I r (h s H C cl fp)⟩)
    (fun s H C cl fp => ⟨fun pins s' σ H' Q I h => let ⟨t, p, q⟩ := h s H C cl fp; p.run pins s' σ H' Q I q⟩) (fun s H C cl fp => ⟨fun pins s' σ H' Q I h => (pe_we (X := Bk X scope s H C cl fp)).run pins s' σ H' Q I (h s H C cl fp)⟩) (fun s H C cl fp => ⟨fun pins s' σ H' Q I h => (pe_we (X := Bk X scope s H C cl fp)).run pins s' σ H' Q I (h s H C cl fp)⟩) hs), dcF_read is hi hbig hsh his hnd ht okk kn⟩
end
end PL
set_option Elab.async false
set_option linter.all false
set_option maxRecDepth 100000
namespace PL
open PySem L2
section
variable {X : Cx} {ρ ρ' : Rh} {ds : List D} {tg : Expr} {pos : Pos}
/-! ### reversed(a list) -/
theorem wk_revL {K : PySem.W.Frag} {F : Fr} {p : Addr} {vs : List V} (hg : ∀ F' G H σ ρ, FrLe F F' → Ok K F' G H σ ρ → SqL K H p vs) (hr : RepL K F.G0 ds vs) : Wk K F (Itv K p vs.length) ds.reverse where
  go := fun i F' G H σ ρ le hi ok => by
    have hl := repL_len hr
    rw [List.length_reverse] at hi
    exact ⟨by omega, vs, vs[vs.length - 1 - i]'(by omega), hg _ _ _ _ _ le ok, List.getElem?_eq_getElem (by omega)⟩
  st := fun F' G H σ ρ le ok => by
    have hl := repL_len hr
    show vs.length ≤ ds.reverse.length
    rw [List.length_reverse]; omega
  yl := fun i F' G H σ ρ x H' le hi ok y => by
    have hl := repL_len hr
    rw [List.length_reverse] at hi
    obtain ⟨rfl, y⟩ := y
    obtain ⟨d, h1, h2⟩ := repL_get' hr (y vs (hg _ _ _ _ _ le ok))
    refine ⟨d, G, ?_, Ex.refl _, ok, h2.mono (le.2.trans ok.g0)⟩
    rw [List.getElem?_reverse hi, ← hl]
    exact h1
theorem hi_revL {e : Expr} {p : Pos} (h : HE X e ρ (.sh (.lst ds)) ρ') (hm : X.mg "reversed" = none) (hg : Gl X "reversed" := by rfl) (hs : starEach [e] X.env = (false, eval e X.env) :: starEach [] X.env := by rfl) : HI X tg (.Call (.Name "reversed" p) [e] [] pos) ρ ds.reverse ρ' := fun F G H σ R ok k =>
  ⟨_, RT.pi_revA hg hm pe_we hs, h F G H σ _ ok fun v G1 H1 e1 ok1 r => by
    have rr := r.ok
    simp only [SlOk, Rep] at rr
    obtain ⟨a, vs, rfl, q, rl⟩ := rr
    exact ⟨a, vs, rfl, .inl ⟨q.sq ok1.sub, k _ _ G1 H1 e1 ok1.into rfl (wk_revL (fun F' G H σ ρ le ok => (q.mono (le.2.trans ok.g0)).sq ok.sub) rl) (exit_into ok1)⟩⟩⟩
end
end PL
set_option Elab.async false
set_option linter.all false
set_option maxRecDepth 100000
namespace PL
open PySem L2
section
variable {X : Cx} {ρ ρ1 ρ2 ρ3 : Rh} {a : Expr} {pos p2 : Pos} {ds : List D} {lo hi : Option Expr} {l u : Option Int}
/-- t[lo:hi] of a tuple, not the whole of it -/
theorem he_sliceT (ha : HE X a ρ (.sh (.tup ds)) ρ1) (hl : HPo X lo ρ1 l ρ2) (hh : HPo X hi ρ2 u ρ3) (nw : ¬ (HT.sIx ds.length 0 l = 0 ∧ HT.sIx ds.length ds.length u = ds.length)) : HE X (.Subscript a (.Slice lo hi none p2) pos) ρ (.sh (.tup (cutD ds l u))) ρ3 := fun F G H σ Q ok k =>
  ⟨_, pe_slice sl_tup pe_we po_wo po_wo, ha F G H σ _ ok fun v G1 H1 e1 ok1 r => hl F G1 H1 σ _ ok1 fun G2 H2 e2 ok2 => hh F G2 H2 σ _ ok2 fun G3 H3 e3 ok3 => by
    have rr := r.ok
    simp only [SlOk, Rep] at rr
    obtain ⟨p', vs, rfl, q, rl⟩ := rr
    refine ⟨p', vs, rfl, ((q.mono e2).mono e3).sq ok3.sub, by rw [repL_len rl]; exact nw, fun n hn => ?_⟩
    obtain ⟨h1, h2, h3⟩ := res_tup ok3 hn (repL_cut (lo := l) (hi := u) (RepL.mono e3 (RepL.mono e2 rl)))
    exact k _ _ _ (e1.trans (e2.trans (e3.trans h3))) h1 h2⟩
end
end PL
set_option Elab.async false
set_option linter.all false
set_option maxRecDepth 100000
namespace PL
open PySem L2
section
variable {X : Cx} {ρ ρ1 : Rh} {d : D} {pos : Pos}
/-- {k: v}, v made here -/
theorem he_dict1E {ky : Key} {kx vx : Expr} (hk : HG X kx ρ (.sh (kD ky))) (hv : HE X vx ρ (.sh d) ρ1) : HE X (.Dict [some kx] [vx] pos) ρ (.od [(ky, d)]) ρ1 := fun F G H σ Q ok kk =>
  ⟨_, pe_disp (pps_cons pe_we pe_we pps_nil) rfl rfl (by simp) (Nat.le_of_ble_eq_true rfl), fun q n => by
    obtain ⟨fb, fg, fa⟩ := ok.free n
    have ok1 := ok.new (o := .dK []) n fun _ _ z => HO.noConfusion z
    have okg := ok_guard ok1 upd_same fa
    refine hk _ G _ σ _ okg fun u ru => hv _ G _ σ _ okg fun w G2 H2 e2 ok2 rw2 => ?_
    obtain ⟨ok3, hq, gq, aq⟩ := ok_unguard ok2 ok1.toHk fb fg fun _ _ z => HO.noConfusion z
    refine ⟨hq, [(ky, w)], ?_, Nat.le_of_ble_eq_true rfl, ?_⟩
    · rw [fl_rep (kD_fl ky) (show Rep X.K G (kD ky) u from ru)]
      rfl
    · exact kk _ G2 _ e2 (ok_side ok3 fb gq aq fun _ _ z => HO.noConfusion z) ⟨⟨q, _, rfl, fb, gq, upd_same, repK_mk rw2.ok repK_mk0⟩, fun _ => aq⟩⟩
end
end PL
set_option Elab.async false
set_option linter.all false
set_option maxRecDepth 100000
namespace PL
open PySem L2
section
variable {X : Cx} {ρ ρ1 : Rh} {d : D} {o a b : Expr} {apos cpos : Pos}
/-- d.get(k, x), x made here -/
theorem he_get2E {ky : Key} {ks : List (Key × D)} (hu : X.A.units + 1 < cLine) (ho : HG X o ρ (.sh (.dct ks))) (ha : HG X a ρ (.sh (kD ky))) (hb : HE X b ρ (.sh d) ρ1) (m : M2 X o "get" apos a b cpos) :
    HE X (.Call (.Attribute o "get" apos) [a, b] [] cpos) ρ (.sh ((look ks ky).getD d)) ρ1 := fun F G H σ Q ok k =>
  ⟨_, pe_dget2 hu pe_we pe_we pe_we m, ho F G H σ _ ok fun v rv => by
    have rv : Rep X.K G (.dct ks) v := rv
    simp only [Rep] at rv
    obtain ⟨p, vs, rfl, q, r⟩ := rv
    refine ⟨p, rfl, .inl ⟨vs, ok.sub.rd q⟩, ha F G H σ _ ok fun w rw1 => hb F G H σ _ ok fun y G2 H2 e2 ok2 ry => ?_⟩
    rw [fl_rep (kD_fl ky) (show Rep X.K G (kD ky) w from rw1)]
    refine ⟨_, .inl ⟨vs, ky, ok2.sub.rd (e2 _ _ q), rfl, rfl⟩, k _ G2 H2 e2 ok2 ⟨?_, fun z => by cases z⟩⟩
    obtain ⟨r1, r2⟩ := repK_look (j := ky) (RepK.mono e2 r)
    cases z : look ks ky with
    | none => rw [r2 z]; exact ry.ok
    | some d' =>
      obtain ⟨u, h1, h2⟩ := r1 d' z
      rw [h1]
      exact h2⟩
end
end PL
set_option Elab.async false
set_option linter.all false
set_option maxRecDepth 100000
namespace PL
open PySem L2
section
variable {X : Cx} {ρ ρ1 : Rh} {e : Expr} {p pos : Pos} {ns : List Str}
theorem he_sortedS (ha : HE X e ρ (.sh (.lst (ns.map D.str))) ρ1) (hl : ns.length < 64) (hm : X.mg "sorted" = none) (hg : Gl X "sorted" := by rfl) (he : starEach [e] X.env = (false, eval e X.env) :: starEach [] X.env := by rfl) (hpl : (backTo pos (starEach [] X.env)).any (·.1) = false := by rfl) :
    HE X (.Call (.Name "sorted" p) [e] [] pos) ρ (.ol ((sortSt ns).map D.str)) ρ1 := fun F G H σ Q ok k =>
  ⟨_, pe_callB cr_sortedS hg hm PyProof.Rows.boot_sorted (pa_cons pe_we pa_nil he) (by decide) (by decide) he hpl, ha F G H σ _ ok fun v G1 H1 e1 ok1 r => by
    have rr := r.ok
    simp only [SlOk, Rep] at rr
    obtain ⟨a, vs, rfl, q, rl⟩ := rr
    rw [repL_strs rl] at q
    refine ⟨a, ns, rfl, q.sq ok1.sub, hl, fun ns' p' h1 h2 hp => ?_⟩
    rw [sortSt_eq h1 h2]
    obtain ⟨q1, q2⟩ := res_ol ok1 hp (repL_strs' (ns := sortSt ns))
    exact k _ _ _ e1 q1 q2⟩
end
end PL
set_option Elab.async false
set_option linter.all false
set_option maxRecDepth 100000
namespace PL
open PySem L2
section
variable {X : Cx} {ρ ρ' ρ0 ρ1 ρ2 : Rh} {ks : List (Key × D)} {a e e2 : Expr} {p pos pos' tpos p2 apos cpos lpos : Pos} {d : D} {x : Str} {ky : Key}
/-- d[k] = e, where k is a call that changes a state -/
theorem hs_dputK (i : Nat) {lpos : Pos} {ky : Key} {ks : List (Key × D)} (hu : X.A.units + 1 < cLine) (h : HE X e ρ (.sh d) ρ1) (hi1 : ρ1[i]? = some (some (.od ks))) (hk : HE X a ρ1 (.sh (kD ky)) ρ2) (hi2 : ρ2[i]? = some (some (.od ks))) (hz : ks.length < 100000) (hN : X.N[i]? = some x := by rfl)
    (hv : Vis X.env.scope x := by first | exact Or.inl rfl | exact Or.inr (Or.inl rfl) | exact Or.inr (Or.inr rfl)) (hd : (x == ("__debug__" : Str)) = false := by decide) (hcd : (x == ("__classdict__" : Str)) = false := by decide)
    (hs : swapsWith e (some (.Subscript (.Name x lpos) a pos')) pos.line X.env = pure false := by rfl) :
    HS1 X (.Assign [.Subscript (.Name x lpos) a pos'] e pos) ρ (.nx (ρ2.set i (some (.od (putD ks ky d))))) := fun F G H σ D ok post =>
  ⟨_, ps_dput hu (pv i hN hv hd hcd) pe_we pe_we hs, h F G H σ _ ok fun w G1 H1 e1 ok1 rw => by
    obtain ⟨v1, hv2, q, vs, rfl, hb, hg, hh, rl⟩ := ok1.sl i (.od ks) hi1
    refine ⟨.ref q, hv2, hk F G1 H1 σ _ ok1 fun y G2 H2 e2 ok2 ry => ?_⟩
    rw [fl_rep (kD_fl ky) (show Rep X.K G2 (kD ky) y from ry.ok)]
    obtain ⟨v3, hv3, q', vs', eq, hb', hg', hh', rl'⟩ := ok2.sl i (.od ks) hi2
    rw [hv2] at hv3
    cases hv3
    cases eq
    exact ⟨q, _, rfl, DPut.k hh' (ln_lt (by rw [repK_len rl']; exact hz)), post σ G2 _ (ok_chg ok2 hi2 rfl hv2 (fun _ _ z => HO.noConfusion z) ⟨q, _, rfl, hb', hg', upd_same, repK_put rl' (Rep.mono e2 rw.ok)⟩)⟩⟩
theorem hs_dpopE (i : Nat) (h : HE X e ρ (.sh (kD ky)) ρ1) (hi : ρ[i]? = some (some (.od ks))) (hi1 : ρ1[i]? = some (some (.od ks))) (hl : look ks ky = some d) (hN : X.N[i]? = some x := by rfl)
    (hv : Vis X.env.scope x := by first | exact Or.inl rfl | exact Or.inr (Or.inl rfl) | exact Or.inr (Or.inr rfl)) (hst : ∀ {ta te : TE}, PE X (.Name x lpos) ta → PA X [e] (tCons te tNil) → PE X (.Call (.Attribute (.Name x lpos) "pop" apos) [e] [] cpos) (tBM X.K "dict" rDPop ta (tCons te tNil)) := by
      intro ta te h1 h2; exact pe_bm PySem.F.plainAttrs_dict PySem.F.slot_dict_pop PySem.F.type_dict_pop mt_dpop h1 h2)
    (hpa : ∀ {te : TE}, PE X e te → PA X [e] (tCons te tNil) := by intro te h; exact pa_cons h pa_nil) (hd : (x == ("__debug__" : Str)) = false := by decide) (hcd : (x == ("__classdict__" : Str)) = false := by decide)
    (hs : swapsWith (.Call (.Attribute (.Name x lpos) "pop" apos) [e] [] cpos) none pos.line X.env = pure false := by rfl) :
    HS1 X (.Expr (.Call (.Attribute (.Name x lpos) "pop" apos) [e] [] cpos) pos) ρ (.nx (ρ1.set i (some (.od (dropD ks ky))))) := fun F G H σ D ok post => by
  obtain ⟨v, hv1, q0, vs0, rfl, hb0, hg0, hh0, _⟩ := ok.sl i (.od ks) hi
  refine ⟨_, ps_expr (hst (pv i hN hv hd hcd) (hpa pe_we)) hs, .ref q0, hv1, .inr (.inr (.inl ⟨rfl, .inl ⟨_, hh0⟩⟩)), h F G H σ _ ok fun w G1 H1 e1 ok1 rw => ?_⟩
  obtain ⟨v1, hv2, q, vs, eq, hb, hg, hh, rl⟩ := ok1.sl i (.od ks) hi1
  rw [hv1] at hv2
  cases hv2
  cases eq
  have hw := fl_rep (kD_fl ky) (show Rep X.K G1 (kD ky) w from rw.ok)
  subst hw
  obtain ⟨z, hz, rz⟩ := (repK_look (j := ky) rl).1 d hl
  exact ⟨q0, vs, ky, z, rfl, rfl, hh, hz, post σ G1 _ (ok_chg ok1 hi1 rfl hv1 (fun _ _ z => HO.noConfusion z) ⟨q0, _, rfl, hb, hg, upd_same, repK_drop rl⟩)⟩
end
end PL
set_option Elab.async false
set_option linter.all false
set_option maxRecDepth 100000
namespace PL
open PySem L2
section
variable {K : PySem.W.Frag} {F : Fr} {G H : Hp} {σ : L2.St} {ρ : Rh} {q : Addr} {u : HO}
/-- an object that no slot holds, in the frame -/
def Fr.keep (F : Fr) (q : Addr) (u : HO) : Fr := ⟨upd F.B q u, F.G0, F.io⟩
theorem ok_keep (ok : Ok K F G H σ ρ) (hb : F.B q = none) (hg : G q = none) (hh : H q = some u) (hm : ∀ o w, u ≠ .frz o w) (ap : Apart σ ρ (.ref q)) : Ok K (F.keep q u) G H σ ρ := by
  refine ⟨⟨ok.sub, fun p o h => ?_, ok.g0, fun p o h => ?_, ok.nf, fun p o w h => ?_⟩, ok.len, fun i s h => ?_, ok.ow⟩
  · by_cases z : p = q
    · subst z
      simp only [Fr.keep, upd_same] at h
      cases h
      exact hh
    · simp only [Fr.keep, upd_ne z] at h
      exact ok.bh p o h
  · have hpq : p ≠ q := fun z => by rw [z, hg] at h; cases h
    rcases ok.gn p o h with k | k
    · exact .inl k
    · exact .inr (by simp only [Fr.keep, upd_ne hpq]; exact k)
  · have hpq : p ≠ q := fun z => by rw [z, hh] at h; cases h; exact hm _ _ rfl
    simp only [Fr.keep, upd_ne hpq]
    exact ok.fz p o w h
  · obtain ⟨v, hv, r⟩ := ok.sl i s h
    refine ⟨v, hv, ?_⟩
    have hne : ∀ p, v = .ref p → s.own = true → p ≠ q := fun p e o z => by
      subst z
      subst e
      exact ap i s h o hv
    cases s with
    | sh d => exact r
    | ol ds =>
      obtain ⟨p, vs, e, a, b, c, d⟩ := r
      exact ⟨p, vs, e, by simp only [Fr.keep, upd_ne (hne p e rfl)]; exact a, b, c, d⟩
    | od ds =>
      obtain ⟨p, vs, e, a, b, c, d⟩ := r
      exact ⟨p, vs, e, by simp only [Fr.keep, upd_ne (hne p e rfl)]; exact a, b, c, d⟩
    | ot ds =>
      obtain ⟨p, vs, e, a, b, c, d⟩ := r
      exact ⟨p, vs, e, by simp only [Fr.keep, upd_ne (hne p e rfl)]; exact a, b, c, d⟩
    | io ds =>
      obtain ⟨vs, e, a, b, c, d⟩ := r
      exact ⟨vs, e, by simp only [Fr.keep, upd_ne (hne _ e rfl)]; exact a, b, c, d⟩
theorem ok_unkeep (ok : Ok K (F.keep q u) G H σ ρ) (hb : F.B q = none) (h0 : F.G0 q = none) (hm : ∀ o w, u ≠ .frz o w) : Ok K F G H σ ρ ∧ G q = none ∧ H q = some u ∧ Apart σ ρ (.ref q) := by
  have back : ∀ p, (F.keep q u).B p = none → F.B p = none ∧ p ≠ q := fun p h => by
    by_cases z : p = q
    · rw [z] at h; simp only [Fr.keep, upd_same] at h; cases h
    · simp only [Fr.keep, upd_ne z] at h
      exact ⟨h, z⟩
  refine ⟨⟨⟨ok.sub, fun p o h => ?_, ok.g0, fun p o h => ?_, ok.nf, fun p o w h => ?_⟩, ok.len, fun i s h => ?_, ok.ow⟩, ?_, ok.bh q u (by simp only [Fr.keep, upd_same]), fun i t hi ho e => ?_⟩
  · have hpq : p ≠ q := fun z => by rw [z, hb] at h; cases h
    exact ok.bh p o (by simp only [Fr.keep, upd_ne hpq]; exact h)
  · rcases ok.gn p o h with k | k
    · exact .inl k
    · exact .inr (back p k).1
  · have h2 := ok.fz p o w h
    have hpq : p ≠ q := fun z => by
      rw [z] at h2
      simp only [Fr.keep, upd_same] at h2
      cases h2
      exact hm _ _ rfl
    simp only [Fr.keep, upd_ne hpq] at h2
    exact h2
  · obtain ⟨v, hv, r⟩ := ok.sl i s h
    refine ⟨v, hv, ?_⟩
    cases s with
    | sh d => exact r
    | ol ds =>
      obtain ⟨p, vs, e, a, b, c, d⟩ := r
      exact ⟨p, vs, e, (back p a).1, b, c, d⟩
    | od ds =>
      obtain ⟨p, vs, e, a, b, c, d⟩ := r
      exact ⟨p, vs, e, (back p a).1, b, c, d⟩
    | ot ds =>
      obtain ⟨p, vs, e, a, b, c, d⟩ := r
      exact ⟨p, vs, e, (back p a).1, b, c, d⟩
    | io ds =>
      obtain ⟨vs, e, a, b, c, d⟩ := r
      exact ⟨vs, e, (back _ a).1, b, c, d⟩
  · cases r : G q with
    | none => rfl
    | some o =>
      rcases ok.gn q o r with k | k
      · have k : F.G0 q = some o := k
        rw [h0] at k; cases k
      · exact absurd rfl (back q k).2
  · obtain ⟨v, hv, r⟩ := ok.sl i t hi
    obtain ⟨p, w, e2, a, _, _, _⟩ := own_ref r ho
    rw [hv, e2] at e
    cases e
    exact (back q a).2 rfl
end
section
variable {X : Cx} {ρ ρ1 ρ2 : Rh} {a b : Expr} {x y : Str} {px py pt pos : Pos} {ks : List (Key × D)} {d : D}
/-- x, y = a new dict, e -/
theorem hs_parD {i j : Nat} {kt k2 pt2 : _} (h : HE X a ρ (.od ks) ρ1) (hb : HE X b ρ1 (.sh d) ρ2) (hps : ∀ {ta : TA}, PA X [a, b] ta → PS X (.Assign [.Tuple [.Name x px, .Name y py] kt pt] (.Tuple [a, b] k2 pt2) pos) (tPar i j ta))
    (h1 : starEach [a, b] X.env = (false, eval a X.env) :: starEach [b] X.env := by rfl) (h2 : starEach [b] X.env = (false, eval b X.env) :: starEach [] X.env := by rfl) :
    HS1 X (.Assign [.Tuple [.Name x px, .Name y py] kt pt] (.Tuple [a, b] k2 pt2) pos) ρ (.nx ((ρ2.set i (some (.od ks))).set j (some (.sh d)))) := fun F G H σ D ok post =>
  ⟨_, hps (pa_cons pe_we (pa_cons pe_we pa_nil h2) h1), h F G H σ _ ok fun v G1 H1 e1 ok1 rv => by
    have ap := rv.ap rfl
    obtain ⟨q, vs, rfl, fb, fg, fh, rl⟩ := rv.ok
    have h0 : F.G0 q = none := none_of_ex ok1.g0 fg
    have hm : ∀ o w, HO.dK vs ≠ .frz o w := fun _ _ z => HO.noConfusion z
    refine hb (F.keep q (.dK vs)) G1 H1 σ _ (ok_keep ok1 fb fg fh hm ap) fun w G2 H2 e2 ok2' rw => ?_
    obtain ⟨ok2, g2, hh2, ap2⟩ := ok_unkeep ok2' fb h0 hm
    have o1 := ok2.put (i := i) (s := .od ks) (v := .ref q) ⟨⟨q, vs, rfl, fb, g2, hh2, rl.mono e2⟩, fun _ => ap2⟩
    exact ⟨.ref q, w, rfl, post _ G2 H2 (o1.put (i := j) (s := .sh d) (v := w) ⟨rw.ok, fun z => by cases z⟩)⟩⟩
end
end PL
set_option Elab.async false
set_option linter.all false
set_option maxRecDepth 100000
namespace PL
open PySem L2
section
variable {X : Cx} {ρ ρ0 : Rh} {ds : List D} {c : Expr} {py pos spos : Pos} {y : Str}
theorem hs_setFilter {f : D → D} {g : D → Bool} {tg iter elt : Expr} {scope : Scope} (i : Nat) (own : List (Str × Nat)) (is : List Nat) (hi : HI X tg iter ρ ds ρ0) (hN : X.N.Nodup) (ok : BlkOk X.N X.env.scope scope own)
    (hsw : swapsWith (.ListComp elt [⟨tg, iter, [c], 0⟩] scope pos) (some (.Name y py)) spos.line X.env = pure true) (hbig : ds.length < 100000)
    (ht : ∀ (i : Nat) (d : D), ds[i]? = some d → ∃ ρt, (∀ s H C cl fp, HB (Bk X scope s H C cl fp) tg is d (wr ρ0 (own.map (·.2))) ρt) ∧ wr ρt (own.map (·.2)) = wr ρ0 (own.map (·.2)) ∧ (∀ s H C cl fp, HT (Bk X scope s H C cl fp) c ρt (g d) ρt) ∧ (g d = true → ∀ s H C cl fp, HE (Bk X scope s H C cl fp) elt ρt (.sh (f d)) ρt))
    (hsh : noOwn ρ0 (own.map (·.2)) = true := by rfl) (his : ∀ j ∈ is, j ∈ own.map (·.2) := by decide) (hy : X.N[i]? = some y := by rfl) (hyl : X.env.scope.names.lookup y = some .local := by rfl) (hc : X.calm = true := by rfl) (hs : ∀ x, foldedSetIterable iter X.env x = pure x := by intro _; rfl) :
    HS1 X (.Assign [.Name y py] (.ListComp elt [⟨tg, iter, [c], 0⟩] scope pos) spos) ρ (.nx (ρ0.set i (some (.ol ((ds.filter g).map f))))) := by
  have h := hs_setLc (pos := pos) (py := py) (spos := spos) i own hi (cmp_filter (f := f) (g := g) (noOwn_sh hsh) hbig is his ht) hN ok hsw hy hyl hc hs
  simp only [List.take_length] at h
  exact h
end
end PL
set_option Elab.async false
set_option linter.all false
set_option maxRecDepth 100000
namespace PL
open PySem L2
section
variable {prog : Program} {w : World} {K : Type} [DecidableEq K] {knd : KeyKind prog w K} {A : Around} {E : Value → Shared → Prop} {s : Shared}
/-- a key put into a dict, without a rule's mark -/
theorem wp_dput {d : Addr} {kvs : List (K × Value)} {k : K} {y v : Value} {Q : Unit → Shared → Prop} (hy : knd.is k y = true) (hm : s.heap.DictOf knd d kvs) (hz : kvs.length ≤ sizeLine)
    (hQ : ∀ g, g.DictOf knd d (stored kvs k v) → Heap.SameBut d s.heap g → Q () { s with heap := g }) : wpAny (model prog w) A (dictPut d (knd.hash k) y v) Q E s := by
  obtain ⟨ob, es, ep, e1, e2, e3, e4, e5, e6⟩ := hm
  have hl := e5.length
  have hf : (es.findIdx? fun e => knd.is k e.key) = kvs.findIdx? fun kv => decide (kv.1 = k) := by
    rw [← e5.findIdx k]
    obtain ⟨l⟩ := es
    simp
  unfold dictPut
  refine wpAny_bind (wpAny_dictFind_of hy e1 e3 e4 ?_)
  rw [hf]
  cases hi : kvs.findIdx? fun kv => decide (kv.1 = k) with
  | some i =>
    refine wpAny_updateDict e1 e3 (hQ _ ⟨_, _, ep, Heap.get?_update_self _ e1 (Obj.isFreed_of_dict (Obj.data_mapDict e3 _)), e2.mapDict _, Obj.data_mapDict e3 _, e4.modify _ _, ?_, ?_⟩ (Heap.SameBut.update ..))
    · rw [stored, if_pos (any_of_findIdx_some hi)]
      have h1 : (es.toList.findIdx? fun e => knd.is k e.key) = some i := by
        rw [← hi, ← hf]
        obtain ⟨l⟩ := es
        simp
      have h2 := e5.modify e6 h1 v
      obtain ⟨l⟩ := es
      simpa using h2
    · rw [stored, if_pos (any_of_findIdx_some hi), keys_map_store]
      exact e6
  | none =>
    have hno : k ∉ kvs.map (·.1) := not_mem_of_findIdx_none hi
    have hany : ¬ (kvs.any fun kv => decide (kv.1 = k)) = true := fun h => by
      obtain ⟨p, hp, q⟩ := List.any_eq_true.mp h
      exact hno (List.mem_map.mpr ⟨p, hp, of_decide_eq_true q⟩)
    refine wpAny_updateDictKeys (hz := by rw [← Array.length_toList, hl]; exact hz) e1 e3 (hQ _ ⟨_, _, ep + 1, Heap.get?_update_self _ e1 (Obj.isFreed_of_dict (Obj.data_mapDictKeys e3 _)), e2.mapDictKeys _, Obj.data_mapDictKeys e3 _, e4.push hy _, ?_, ?_⟩ (Heap.SameBut.update ..))
    · rw [stored, if_neg hany]
      have h2 := e5.append hy (knd.hash k) v
      obtain ⟨l⟩ := es
      simpa using h2
    · rw [stored, if_neg hany, List.map_append]
      exact List.nodup_append.mpr ⟨e6, List.nodup_cons.mpr ⟨List.not_mem_nil, List.nodup_nil⟩, fun a ha b hb e => by
        rw [List.map_cons, List.map_nil, List.mem_singleton] at hb
        exact hno (by rw [e, hb] at ha; exact ha)⟩
/-- the entries of a plain dict put into another -/
theorem wp_mergeM {d o : Addr} {kvs more : List (K × Value)} {Q : Unit → Shared → Prop} (hdo : d ≠ o) (hoS : (o == sysModules) = false) (hd : s.heap.DictOf knd d kvs) (ho : s.heap.DictOf knd o more) (hz : kvs.length + more.length ≤ sizeLine)
    (hQ : ∀ g, g.DictOf knd d (merged kvs more) → Heap.SameBut d s.heap g → Q () { s with heap := g }) : wpAny (model prog w) A (mergeMapping d (.ref o) false) Q E s := by
  obtain ⟨oo, es, ep, o1, o2, o3, o4, o5, o6⟩ := id ho
  obtain ⟨od, ed, epd, d1, d2, d3, d4, d5, d6⟩ := id hd
  have hl : es.size = more.length := by rw [← o5.length, Array.length_toList]
  unfold mergeMapping
  refine wpAny_bind (wpAny_isInstance ho.typeIs isSubtype_dict_dict ?_)
  rw [if_pos rfl]
  refine wpAny_bind (wpAny_specialOf ho.typeIs PySem.F.slot_dict_iter.lookup ?_)
  simp only [beq_self_eq_true, Bool.false_eq_true, if_false]
  refine wpAny_bind (wpAny_pure ?_)
  simp only [hoS, Bool.false_eq_true, if_false]
  have loop : wpAny (model prog w) A (do
      let l ← dictEntries o
      let e ← dictEpoch o
      forIn (List.range l.size) PUnit.unit fun i (_ : PUnit) => (do
        let l ← dictEntries o
        match l[i]? with
          | some x => do
            holding [x.key, x.val] (dictPut d x.hash x.key x.val)
            let e' ← dictEpoch o
            if (e' != e) = true then do
                (unsupported "dict.changed-during-merge" : Sem PUnit)
                pure (ForInStep.yield PUnit.unit)
              else pure (ForInStep.yield PUnit.unit)
          | _ => do
            (unsupported "dict.changed-during-merge" : Sem PUnit)
            pure (ForInStep.yield PUnit.unit) : Sem (ForInStep PUnit))
      pure ()) Q E s := by
    refine wpAny_bind (wpAny_dictEntries o1 o3 ?_)
    refine wpAny_bind (wpAny_dictEpoch o1 o3 ?_)
    refine wpAny_bind ?_
    rw [List.range_eq_range']
    refine wpAny_forIn_list _ (fun l _ t => ∃ g i, t = { s with heap := g } ∧ l = List.range' i (es.size - i) ∧ i ≤ es.size ∧ g.DictOf knd d (merged kvs (more.take i)) ∧ g.get? o = some oo ∧ Heap.SameBut d s.heap g) _ ?_ ?_ _ _ ⟨s.heap, 0, rfl, rfl, Nat.zero_le _, hd, o1, Heap.SameBut.refl _ _⟩
    · rintro x l b t ⟨g, i, rfl, hr, hi, gd, go, gs⟩
      have hlt : i < es.size := by
        rcases Nat.lt_or_ge i es.size with q | q
        · exact q
        · rw [Nat.sub_eq_zero_of_le q] at hr; cases hr
      rw [show es.size - i = (es.size - (i + 1)) + 1 by omega, List.range'_succ] at hr
      obtain ⟨rfl, hr⟩ := List.cons.inj hr
      refine wpAny_bind (wpAny_dictEntries go o3 ?_)
      rw [Array.getElem?_eq_getElem hlt]
      have hlt' : x < more.length := by omega
      obtain ⟨k, v⟩ : K × Value := more[x]
      have hkv : more[x]? = some more[x] := List.getElem?_eq_getElem hlt'
      obtain ⟨hkey, hval⟩ := o5.get? (e := es[x]) (by simp [hlt]) hkv
      obtain ⟨k', hk1, hh⟩ := o4 es[x] (Array.getElem_mem hlt)
      have hkk : k' = more[x].1 := knd.inj _ _ _ hk1 hkey
      show wpAny _ _ (holding [es[x].key, es[x].val] (dictPut d es[x].hash es[x].key es[x].val) >>= _) _ _ _
      rw [hh, hkk, hval]
      have hm := merged_length_le kvs (more.take x)
      rw [List.length_take] at hm
      refine wpAny_bind (wpAny_holding (wp_dput hkey gd (by omega) fun g2 gd2 gs2 => ?_))
      have go2 : g2.get? o = some oo := (gs2.2 o (Ne.symm hdo)).trans go
      refine wpAny_bind (wpAny_dictEpoch go2 o3 ?_)
      rw [if_neg (by simp)]
      exact wpAny_pure ⟨g2, x + 1, rfl, hr, hlt, by rw [merged_take_succ kvs more x _ hkv]; exact gd2, go2, gs.trans gs2⟩
    · rintro b t ⟨g, i, rfl, hr, hi, gd, go, gs⟩
      have hie : i = es.size := by
        rcases Nat.lt_or_ge i es.size with q | q
        · rw [show es.size - i = (es.size - (i + 1)) + 1 by omega, List.range'_succ] at hr
          cases hr
        · exact Nat.le_antisymm hi q
      rw [hie, hl, List.take_length] at gd
      exact wpAny_pure (hQ g gd gs)
  refine wpAny_bind (wpAny_dictEntries d1 d3 ?_)
  split
  · refine wpAny_bind (wpAny_dictEntries o1 o3 ?_)
    refine wpAny_bind ?_
    rw [← Array.forIn_toList]
    refine wpAny_forIn_list _ (fun l _ t => t = s ∧ ∀ x ∈ l, x ∈ es.toList) _ ?_ ?_ _ _ ⟨rfl, fun x hx => hx⟩
    · rintro x l b t ⟨rfl, hx⟩
      obtain ⟨k', hk1, _⟩ := o4 x (Array.mem_toList_iff.mp (hx x List.mem_cons_self))
      have hb := knd.byValue k' _ hk1
      split
      · rename_i a e
        rw [e] at hb
        cases hb
      · exact wpAny_pure ⟨rfl, fun y hy => hx y (List.mem_cons_of_mem _ hy)⟩
    · rintro b t ⟨rfl, _⟩
      exact loop
  · exact loop
end
end PL
set_option Elab.async false
set_option linter.all false
set_option maxRecDepth 100000
namespace PL
open PySem L2
section
variable {prog : Program} {w : World} {K : Type} [DecidableEq K] {knd : KeyKind prog w K} {A : Around} {E : Value → Shared → Prop} {s : Shared}
/-- {**m, k: v}, as it runs -/
theorem wp_spread {t1 k t2 : Sem Value} {Q : Value → Shared → Prop}
    (h : wpAny (model prog w) A t1 (fun m s1 => ∃ o more, m = .ref o ∧ s.heap.objs.size ≠ o ∧ (o == sysModules) = false ∧ s1.heap.DictOf knd s.heap.objs.size [] ∧ s1.heap.DictOf knd o more ∧ more.length ≤ sizeLine ∧
      ∀ g, g.DictOf knd s.heap.objs.size (merged [] more) → Heap.SameBut s.heap.objs.size s1.heap g →
        wpAny (model prog w) A (subDict [(k, t2)]) (fun d2 s2 => ∃ kvs acc, s.heap.objs.size ≠ d2 ∧ (d2 == sysModules) = false ∧ s2.heap.DictOf knd s.heap.objs.size acc ∧ s2.heap.DictOf knd d2 kvs ∧ acc.length + kvs.length ≤ sizeLine ∧
          ∀ g2, g2.DictOf knd s.heap.objs.size (merged acc kvs) → Heap.SameBut s.heap.objs.size s2.heap g2 → Q (.ref s.heap.objs.size) { s2 with heap := g2 }) E { s1 with heap := g }) E { s with heap := s.heap.push { cls := .type "dict", data := .dict #[] } }) :
    wpAny (model prog w) A (dictDisplay [(none, t1), (some k, t2)]) Q E s := by
  unfold dictDisplay
  dsimp only
  simp only [List.forIn_cons, List.forIn_nil, List.isEmpty_nil, if_true, pure_bind, bind_assoc, List.nil_append, List.length_cons, List.length_nil]
  refine wpAny_bind (wpAny_alloc ?_)
  refine wpAny_bind (wpAny_holding (wpAny_mono h (fun m s1 hh => ?_) fun _ _ e => e))
  obtain ⟨o, more, rfl, hdo, hoS, hd, ho, hz, hq⟩ := hh
  refine wpAny_bind (wpAny_onRaise (wpAny_tryCatch (wpAny_onRaise (wpAny_holding (wp_mergeM hdo hoS hd ho (by simpa using hz) fun g gd gs => ?_)))))
  rw [if_neg (by decide)]
  refine wpAny_bind (wpAny_pure ?_)
  refine wpAny_bind (wpAny_pure ?_)
  dsimp only
  rw [if_neg (by simp)]
  refine wpAny_bind ?_
  refine wpAny_bind (wpAny_holding (wpAny_mono (hq g gd gs) (fun d2 s2 h2 => ?_) fun _ _ e => e))
  obtain ⟨kvs, acc, hdd, hS, hacc, hsub, hz2, hf⟩ := h2
  refine wpAny_bind (wpAny_onRaise (wpAny_holding (wp_mergeM hdd hS hacc hsub hz2 fun g2 gd2 gs2 => ?_)))
  exact wpAny_pure (wpAny_pure (hf g2 gd2 gs2))
end
/-- {**a, k: v} with keys ints and texts -/
def tSpread (ta tk tv : TE) : TE := fun σ H Q => ∀ p, H p = none → ta σ (upd H p (.dK [])) fun x H1 => H1 p = some (.dK []) ∧ ∃ o more, x = .ref o ∧ Rd H1 o (.dK more) ∧ p ≠ o ∧ more.length ≤ 1000 ∧
  ∀ p2, upd H1 p (.dK (mergeK [] more)) p2 = none → tPairs [(tk, tv)] σ (upd (upd H1 p (.dK (mergeK [] more))) p2 (.dK [])) fun ps H2 => H2 p2 = some (.dK []) ∧ H2 p = some (.dK (mergeK [] more)) ∧ ∃ kvs : List (L2.Key × V), ps = kvs.map (fun kv => (kV kv.1, kv.2)) ∧ kvs.length ≤ 15 ∧
    Q (.ref p) (upd (upd H2 p2 (.dK (mergeK [] kvs))) p (.dK (mergeK (mergeK [] more) (mergeK [] kvs))))
theorem pe_spread {X : Cx} {a k v : Expr} {pos : Pos} {ta tk tv : TE} (ha : PE X a ta) (hk : PE X k tk) (hv : PE X v tv) : PE X (.Dict [none, some k] [a, v] pos) (tSpread ta tk tv) := by
  refine ⟨fun pins s σ H Q I q => ?_⟩
  have hn := I.hok.fresh (Nat.le_refl s.heap.objs.size)
  have I1 := I.laid (a := s.heap.objs.size) (o := .dK []) (h' := s.heap.push { cls := .type "dict", data := .dict #[] }) (t' := s.toks) (fun _ _ q => Heap.get?_push_of_some _ q) (Nat.le_refl _) (dk_empty s.heap I.big)
  have q1 := q _ hn
  rw [arm_eval_Dict]
  refine wpAny_bind (wpAny_standAt ?_)
  refine wp_spread (knd := mixKind X.prog X.w) (t1 := do let x ← eval a X.env; standAt pos; pure x) (k := eval k X.env) (t2 := do let x ← eval v X.env; standAt pos; pure x) ?_
  refine wpAny_bind (thn (ha.run pins _ σ _ _ I1 q1) fun u s1 hu => ?_)
  obtain ⟨x, H1, I2, rx, e, o, more, rfl, rd, hpo, hlen, q2⟩ := hu
  cases rx
  refine wpAny_bind (wpAny_standAt (wpAny_pure ?_))
  obtain ⟨z0, hd0, vs0, r0, dd0⟩ := dk_of I2.hok e
  cases r0
  obtain ⟨z1, hd1, vs1, r1, dd1⟩ := dk_rd I2.hok rd
  have l1 := r1.length
  have m1 := length_mergeK more []
  rw [List.length_nil] at m1
  refine ⟨o, vs1, rfl, hpo, hd1, dd0, dd1, by omega, fun g gd gs => ?_⟩
  have lp : s.heap.objs.size < g.objs.size := let ⟨_, _, _, z, _⟩ := gd; Heap.lt_size z
  have I3 := d_write (t' := s1.toks) I2 (by rw [e]; exact True.intro) gs (let ⟨ob, _, _, z, _⟩ := gd; ⟨ob, z⟩) (dk_new (by omega) hd0 (KV.merge r1 .nil) gd)
  have hn2 := I3.hok.fresh (Nat.le_refl g.objs.size)
  have I4 := I3.laid (a := g.objs.size) (o := .dK []) (h' := g.push { cls := .type "dict", data := .dict #[] }) (t' := s1.toks) (fun _ _ q => Heap.get?_push_of_some _ q) (Nat.le_refl _) (dk_empty g (Nat.lt_of_lt_of_le I.big (Nat.le_of_lt lp)))
  refine wpAny_subDict (knd := mixKind X.prog X.w) (Nat.le_of_ble_eq_true rfl) (thn ((pps_cons hk hv pps_nil : PPs X pos [some k] [v] [(tk, tv)]).run pins _ σ _ _ I4 (q2 _ hn2)) fun ws s2 ⟨ps, H2, I5, rel, e2, ep, kvs, eps, lk, q3⟩ => ?_)
  subst eps
  obtain ⟨rs, c, rk⟩ := carries_of (P := X.prog) (w := X.w) rel
  obtain ⟨_, hd2, vs2, r2, dd2⟩ := dk_of I5.hok e2
  cases r2
  have m2 := length_mergeK kvs []
  rw [List.length_nil] at m2
  have hsl : 1000 + 15 ≤ sizeLine := by rw [sizeLine_eq]; decide
  refine ⟨rs, c, dd2, fun g2 gd2 gs2 => ?_⟩
  have I6 := d_write (t' := s2.toks + ws.length) I5 (by rw [e2]; exact True.intro) gs2 (let ⟨ob, _, _, z, _⟩ := gd2; ⟨ob, z⟩) (dk_new (by omega) hd2 (rk.merge .nil) gd2)
  have hpp : s.heap.objs.size ≠ g.objs.size := Nat.ne_of_lt lp
  have ep' : upd H2 g.objs.size (.dK (mergeK [] kvs)) s.heap.objs.size = some (.dK (mergeK [] more)) := by rw [upd_ne hpp]; exact ep
  obtain ⟨_, hd3, vs3, r3, dd3⟩ := dk_of I6.hok ep'
  obtain ⟨_, hd4, vs4, r4, dd4⟩ := dk_of I6.hok (a := g.objs.size) (kvs := mergeK [] kvs) upd_same
  have l3 := r3.length
  have l4 := r4.length
  refine ⟨vs4, vs3, hpp, hd4, dd3, dd4, by omega, fun g3 gd3 gs3 => ?_⟩
  have m3 := length_mergeK (mergeK [] kvs) (mergeK [] more)
  exact ⟨.ref s.heap.objs.size, _, d_write I6 (by rw [ep']; exact True.intro) gs3 (let ⟨ob, _, _, z, _⟩ := gd3; ⟨ob, z⟩) (dk_new (by omega) hd3 (r4.merge r3) gd3), rfl, q3⟩
end PL
set_option Elab.async false
set_option linter.all false
set_option maxRecDepth 100000
namespace PL
open PySem L2
section
variable {X : Cx} {ρ : Rh} {pos : Pos} {ks : List (Key × D)} {d : D}
theorem upd_swap {H : Hp} {a b : Addr} {x y : HO} (h : a ≠ b) : upd (upd H a x) b y = upd (upd H b y) a x := by
  funext c
  by_cases ha : c = a
  · subst ha
    rw [upd_ne h, upd_same, upd_same]
  · by_cases hb : c = b
    · subst hb
      rw [upd_same, upd_ne ha, upd_same]
    · rw [upd_ne hb, upd_ne ha, upd_ne ha, upd_ne hb]
/-- {**a, k: v} -/
theorem he_spread1 {ky : Key} {kx vx a : Expr} (ha : HG X a ρ (.sh (.dct ks))) (hk : HG X kx ρ (.sh (kD ky))) (hv : HG X vx ρ (.sh d)) (hz : ks.length ≤ 1000) : HE X (.Dict [none, some kx] [a, vx] pos) ρ (.od (putD (mergeD [] ks) ky d)) ρ := fun F G H σ Q ok kk =>
  ⟨_, pe_spread pe_we pe_we pe_we, fun p n => by
    obtain ⟨_, gp, _⟩ := ok.free n
    have nz : ∀ (u : List (L2.Key × V)) q (z : List (L2.Key × V)), HO.dK u ≠ .frz q (.dK z) := fun _ _ _ z => HO.noConfusion z
    have ok1 := ok.new (o := .dK []) n (nz _)
    refine ha F G _ σ _ ok1 fun u ru => ⟨upd_same, ?_⟩
    have ru : Rep X.K G (.dct ks) u := ru
    obtain ⟨t, ms, rfl, hq, rm⟩ := rep_dct ok1.sub ru
    have hne : p ≠ t := fun z => by
      subst z
      simp only [Rep] at ru
      obtain ⟨b, _, e, q, _⟩ := ru
      cases e
      rw [gp] at q
      cases q
    refine ⟨t, ms, rfl, hq, hne, by rw [repK_len rm]; exact hz, fun p2 n2 => ?_⟩
    rw [upd_upd] at n2 ⊢
    have hp2 : p2 ≠ p := fun z => by rw [z, upd_same] at n2; cases n2
    have n3 : H p2 = none := by rw [upd_ne hp2] at n2; exact n2
    have ok3 := (ok.new (o := .dK (mergeK [] ms)) n (nz _)).new (o := .dK []) n2 (nz _)
    refine hk F G _ σ _ ok3 fun u2 ru2 => hv F G _ σ _ ok3 fun w rw2 => ⟨upd_same, by rw [upd_ne (Ne.symm hp2), upd_same], [(ky, w)], ?_, Nat.le_of_ble_eq_true rfl, ?_⟩
    · rw [fl_rep (kD_fl ky) (show Rep X.K G (kD ky) u2 from ru2)]
      rfl
    · rw [upd_upd, upd_swap (Ne.symm hp2), upd_upd]
      have okg := ok.new (o := .dK [(ky, w)]) n3 (nz _)
      have ng : upd H p2 (.dK [(ky, w)]) p = none := by rw [upd_ne (Ne.symm hp2)]; exact n
      obtain ⟨h1, h2⟩ := res_od okg ng (ks := putD (mergeD [] ks) ky d) (vs := putK (mergeK [] ms) ky w) (repK_put (repK_merge repK_mk0 rm) (show Rep X.K G d w from rw2))
      exact kk _ G _ (Ex.refl _) h1 h2⟩
end
end PL
set_option Elab.async false
set_option linter.all false
set_option maxRecDepth 100000
namespace PL
open PySem L2
section
variable {X : Cx} {ρ : Rh} {pos : Pos}
theorem hs_addI (i : Nat) {x : Str} {e : Expr} {pos' : Pos} {n m : Int} (hi1 : ρ[i]? = some (some (.sh (.int n)))) (h : HG X e ρ (.sh (.int m))) (hN : X.N.Nodup) (hi : X.N[i]? = some x := by rfl) (hx : Loc X.env.scope x := by first | exact Or.inl rfl | exact Or.inr rfl)
    (hf : X.fn x = true ∨ X.env.scope.names.lookup x = some .local := by first | exact .inl rfl | exact .inr rfl) : HS1 X (.AugAssign (.Name x pos') .Add e pos) ρ (.nx (ρ.set i (some (.sh (.int (n + m)))))) := fun F G H σ D ok post => by
  obtain ⟨v, hv, hs⟩ := ok.sl i _ hi1
  refine ⟨_, ps_aug hN hi hx pe_we ip_add hf, v, hv, h F G H σ _ ok fun w rw1 => ?_⟩
  have ha := int_of hs
  have hb := int_of rw1
  subst ha hb
  first
    | exact .inl ⟨n, m, rfl, rfl, post _ G H (ok.put ⟨rep_fl rfl, fun z => by cases z⟩)⟩
    | exact ⟨n, m, rfl, rfl, post _ G H (ok.put ⟨rep_fl rfl, fun z => by cases z⟩)⟩
end
/-- a number or None -/
def optD : Option Int → D
  | some i => .int i
  | none => .non
section
variable {X : Cx}
theorem v_neOpt {o : Option Int} : OpV X (compareOp .NotEq) (optD o) (optD o) (.bl false) := by
  cases o with
  | none => exact op_to (v_ne (v := .non) (w := .non) rfl rfl rfl) (by simp)
  | some i => exact op_to v_neI (by simp)
end
end PL
set_option Elab.async false
set_option linter.all false
set_option maxRecDepth 100000
namespace KX
open PySem L2 PL
local macro_rules | `(tactic| walk_at "v") => `(tactic| first | exact v_add | exact v_sub | exact v_lt | exact v_le | exact v_gt | exact v_ge | exact v_eqI | exact v_neI | exact v_eqS | exact v_neS | exact v_eqB | exact v_neB | exact v_inTS | exact v_inLS | exact v_ninTS | exact v_ninLS | exact v_isN rfl)
local macro_rules | `(tactic| walk_at "c") => `(tactic| first | exact c_abs | exact c_lenL | exact c_lenT | exact c_lenD)
def top (i : Nat) : Stmt := PySem.Challenge.pw_fewrefresh_k13_whole_expiry.main.body.getD i (.Pass ⟨0, 0, 0, 0⟩)
abbrev sIsWhole : Stmt := top 3
abbrev sIsNumber : Stmt := top 4
abbrev sIsName : Stmt := top 5
abbrev sIsTupleOf : Stmt := top 6
theorem scIsWhole : FnScope ["thing"] ["thing"] (defScope sIsWhole) := ⟨rfl, rfl, rfl, by decide +kernel, rfl, by decide +kernel, by decide +kernel⟩
theorem scIsNumber : FnScope ["thing", "low", "high"] ["thing", "low", "high"] (defScope sIsNumber) := ⟨rfl, rfl, rfl, by decide +kernel, rfl, by decide +kernel, by decide +kernel⟩
theorem scIsName : FnScope ["thing", "letter"] ["thing"] (defScope sIsName) := ⟨rfl, rfl, rfl, by decide +kernel, rfl, by decide +kernel, by decide +kernel⟩
theorem scIsTupleOf : FnScope ["thing", "many"] ["thing", "many"] (defScope sIsTupleOf) := ⟨rfl, rfl, rfl, by decide +kernel, rfl, by decide +kernel, by decide +kernel⟩
section
variable {P : Program} {w : World} {K : PySem.W.Frag} {mg : Str → Option Value} {base : Heap}
def FIsNumber : List D → Sl → Prop := fun ds r => ∃ n lo hi, ds = [.int n, .int lo, .int hi] ∧ r = .sh (.bl (decide (lo ≤ n) && decide (n ≤ hi)))
def FIsWhole : List D → Sl → Prop := fun ds r => ∃ n, ds = [.int n] ∧ r = .sh (.bl true)
def FIsTupleOf : List D → Sl → Prop := fun ds r => ∃ l n, ds = [.tup l, .int n] ∧ r = .sh (.bl (decide ((l.length : Int) = n)))
/-- what a name is -/
def Letters : Str := "abcdefghijklmnopqrstuvwxyz"
structure NameOk (x : Str) : Prop where
  lo : 1 ≤ x.length
  hi : x.length ≤ 8
  all : ∀ c ∈ x.cps.toList, c ∈ Letters.cps.toList
def FIsName : List D → Sl → Prop := fun ds r => ∃ x, NameOk x ∧ ds = [.str x] ∧ r = .sh (.bl true)
theorem ok_is_whole {f : Addr} {fd : FuncData} (F : Fun K "is_whole" "is_whole" sIsWhole f fd) (B : Bl mg) : FnOk P w K mg base CX0 1 f fd ["thing"] (spR K FIsWhole) := by
  refine fn_ok F scIsWhole (fun ds r h => ?_) fun cdv A outer s H E hr ds r h => ?_
  · obtain ⟨n, rfl, _⟩ := h
    rfl
  · obtain ⟨n, rfl, rfl⟩ := h
    refine hf_r (hr_retg (hg_and (t := true) (u := true) ?_ (fun _ => hg_one ?_)))
    · exact hg_isi (T := "int") (hg_var 0 rfl) rfl (by decide +kernel) PyProof.Rows.boot_int B.isinstance B.int
    · exact hg_not (t := false) (hg_isi (T := "bool") (hg_var 0 rfl) rfl (by decide +kernel) PyProof.Rows.boot_bool B.isinstance B.bool)
theorem ok_is_number {f : Addr} {fd : FuncData} (F : Fun K "is_number" "is_number" sIsNumber f fd) (c1 : Fd P w K mg base 1 "is_whole" FIsWhole) : FnOk P w K mg base CX0 2 f fd ["thing", "low", "high"] (spR K FIsNumber) := by
  refine fn_ok F scIsNumber (fun ds r h => ?_) fun cdv A outer s H E hr ds r h => ?_
  · obtain ⟨n, lo, hi, rfl, _⟩ := h
    rfl
  · obtain ⟨n, lo, hi, rfl, rfl⟩ := h
    refine hf_r (hr_ret (hp_and (t := true) (u := decide (lo ≤ n) && decide (n ≤ hi)) ?_ (fun _ => ?_)))
    · exact he_call c1 hr (hea_cons (he_hg (hg_var 0 rfl)) hea_nil) ⟨n, rfl, rfl⟩
    · exact hp_one (he_hg (hg_chain (hg_var 1 rfl) (hg_var 0 rfl) (hg_var 2 rfl) v_le v_le))
theorem ok_is_tuple_of {f : Addr} {fd : FuncData} (F : Fun K "is_tuple_of" "is_tuple_of" sIsTupleOf f fd) (B : Bl mg) : FnOk P w K mg base CX0 1 f fd ["thing", "many"] (spR K FIsTupleOf) := by
  refine fn_ok F scIsTupleOf (fun ds r h => ?_) fun cdv A outer s H E hr ds r h => ?_
  · obtain ⟨l, n, rfl, _⟩ := h
    rfl
  · obtain ⟨l, n, rfl, rfl⟩ := h
    refine hf_r (hr_retg (hg_and (t := true) (u := decide ((l.length : Int) = n)) ?_ (fun _ => hg_one ?_)))
    · exact hg_isi (T := "tuple") (hg_var 0 rfl) rfl (by decide +kernel) PyProof.Rows.boot_tuple B.isinstance B.tuple
    · exact hg_cmp (hg_callB (hga_cons (hg_var 0 rfl) hga_nil) c_lenT (by rfl) B.len PySem.boot_len) (hg_var 1 rfl) v_eqI
theorem ok_is_name {f : Addr} {fd : FuncData} (F : Fun K "is_name" "is_name" sIsName f fd) (B : Bl mg) (hL : ∃ t, mg "LETTERS" = some (.str Letters t)) (hM : ∃ t, mg "MOST_LETTERS" = some (.int 8 t)) : FnOk P w K mg base CX0 1 f fd ["thing"] (spR K FIsName) := by
  refine fn_ok F scIsName (fun ds r h => ?_) fun cdv A outer s H E hr ds r h => ?_
  · obtain ⟨x, _, rfl, _⟩ := h
    rfl
  · obtain ⟨x, hx, rfl, rfl⟩ := h
    obtain ⟨tM, hM⟩ := hM
    obtain ⟨tL, hL⟩ := hL
    refine hf_r (hr_when (t := false) (ht_hw ?_) (fun z => by cases z) fun _ => ?_)
    · refine ht_or (t := false) (u := false) (ht_not (t := true) ?_) fun _ => hw_or1 (ht_not (t := true) ?_)
      · exact ht_he (he_hg (hg_isi (T := "str") (hg_var 0 rfl) rfl (by decide +kernel) PyProof.Rows.boot_str B.isinstance B.str))
      · refine ht_eq (ht_chain hg_int (hg_callB (hga_cons (hg_var 0 rfl) hga_nil) (c_lenS ?_) (by rfl) B.len PySem.boot_len) (hg_glob (v := .int 8) hM ⟨_, rfl⟩ fun _ => rep_fl rfl) v_le v_le) ?_
        · have := hx.hi; show x.length ≤ 100000; omega
        · have h1 := hx.lo
          have h2 := hx.hi
          simp only [Bool.and_eq_true, decide_eq_true_eq]
          omega
    · -- return all([letter in LETTERS for letter in thing])
      have h8 : (lettersD x).length < 100000 := by
        have : x.cps.toList.length ≤ 8 := hx.hi
        simp only [lettersD, List.length_map]; omega
      refine hr_ret (he_eq (he_callB (hea_cons (he_sh (he_eq (he_map (f := fun _ => .bl true) [("letter", 1)] [1] (hi_str (he_hg (hg_var 0 rfl))) scIsName.nd (blkOk_by (N := ["thing", "letter"]) (sc := defScope sIsName) (by decide +kernel)) h8 (fun i d hd => ?_)) (?_ : _ = Sl.ol ((List.replicate (lettersD x).length true).map D.bl)))) hea_nil) (c_all rfl) (by rfl) B.all PyProof.Rows.boot_all) ?_)
      · obtain ⟨ch, hc, rfl⟩ : ∃ ch, ch ∈ x.cps.toList ∧ d = .str ⟨#[ch]⟩ := by
          obtain ⟨ch, h1, h2⟩ := List.mem_map.mp (List.mem_of_getElem? hd)
          exact ⟨ch, h1, h2.symm⟩
        refine ⟨_, fun s H C cl fp => hb_name 1 scIsName.nd, _, fun s H C cl fp => he_hg (hg_cmp (hg_var 1 rfl) (hg_glob (v := .str Letters) (d := .str Letters) hL ⟨_, rfl⟩ fun _ => rep_fl rfl) (op_to v_inS ?_)), rfl⟩
        rw [decide_eq_true (hx.all ch hc)]
      · rw [List.map_const', List.map_replicate]
      · simp
end
end KX
set_option Elab.async false
set_option linter.all false
set_option maxRecDepth 100000
namespace KX
open PySem L2 PL
/-! ### the data of networks -/
abbrev Srcs := List (Str × Int × Int)
def srcD (s : Srcs) : List (Key × D) := s.map fun x => (Sum.inr x.1, .tup [.int x.2.1, .int x.2.2])
inductive Fm where
  | sum (ts : List (Int × Str)) | mn (xs : List Str) | mx (xs : List Str)
def termD (t : Int × Str) : D := .tup [.int t.1, .str t.2]
def Fm.kind : Fm → Str
  | .sum _ => "sum"
  | .mn _ => "min"
  | .mx _ => "max"
def Fm.parts : Fm → D
  | .sum ts => .tup (ts.map termD)
  | .mn xs => .tup (xs.map .str)
  | .mx xs => .tup (xs.map .str)
def Fm.d (f : Fm) : D := .tup [.str f.kind, f.parts]
def Fm.ins : Fm → List Str
  | .sum ts => ts.map (·.2)
  | .mn xs => xs
  | .mx xs => xs
def Fm.val (f : Fm) (env : Str → Int) : Int := match f with
  | .sum ts => (ts.map fun t => t.1 * env t.2).sum
  | .mn xs => minI (xs.map env)
  | .mx xs => maxI (xs.map env)
abbrev Vws := List (Str × Fm × Int)
def vwD (v : Vws) : List (Key × D) := v.map fun x => (Sum.inr x.1, .tup [x.2.1.d, .int x.2.2])
structure FmOk (f : Fm) : Prop where
  one : 1 ≤ f.ins.length
  four : f.ins.length ≤ 4
  names : ∀ x ∈ f.ins, NameOk x
  fac : ∀ ts, f = .sum ts → ∀ t ∈ ts, -5 ≤ t.1 ∧ t.1 ≤ 5 ∧ t.1 ≠ 0
structure SrcOk (x : Str × Int × Int) : Prop where
  name : NameOk x.1
  drift : 0 ≤ x.2.1 ∧ x.2.1 ≤ 20
  cost : 1 ≤ x.2.2 ∧ x.2.2 ≤ 9
structure VwOk (x : Str × Fm × Int) : Prop where
  name : NameOk x.1
  fm : FmOk x.2.1
  cost : 1 ≤ x.2.2 ∧ x.2.2 ≤ 9
/-- numbers by names -/
abbrev Nums := List (Str × Int)
def numD (kn : Nums) : List (Key × D) := kn.map fun x => (Sum.inr x.1, .int x.2)
def Nums.get? : Nums → Str → Option Int
  | [], _ => none
  | (y, n) :: r, x => if y = x then some n else Nums.get? r x
theorem look_num : ∀ (kn : Nums) (x : Str), look (numD kn) (Sum.inr x) = (kn.get? x).map D.int
  | [], x => rfl
  | (y, n) :: r, x => by
    simp only [numD, List.map_cons, look, Nums.get?]
    by_cases h : y = x
    · rw [if_pos (by rw [h]), if_pos h]; rfl
    · rw [if_neg (fun e => h (Sum.inr.inj e)), if_neg h]; exact look_num r x
def Nums.put (kn : Nums) (x : Str) (n : Int) : Nums := if (kn.get? x).isSome = true then kn.map (fun y => if y.1 = x then (y.1, n) else y) else kn ++ [(x, n)]
theorem put_num (kn : Nums) (x : Str) (n : Int) : putD (numD kn) (Sum.inr x) (.int n) = numD (kn.put x n) := by
  unfold putD Nums.put
  rw [look_num]
  by_cases h : (kn.get? x).isSome = true
  · rw [if_pos (by simpa using h), if_pos h]
    simp only [numD, List.map_map]
    refine List.map_congr_left fun y _ => ?_
    simp only [Function.comp]
    by_cases z : y.1 = x
    · rw [if_pos (by rw [z]), if_pos z]
    · rw [if_neg (fun e => z (Sum.inr.inj e)), if_neg z]
  · rw [if_neg (by simpa using h), if_neg h]
    simp [numD]
theorem get_put (kn : Nums) (x y : Str) (n : Int) : (kn.put x n).get? y = if y = x then some n else kn.get? y := by
  unfold Nums.put
  by_cases h : (kn.get? x).isSome = true
  · rw [if_pos h]
    induction kn with
    | nil => simp [Nums.get?] at h
    | cons z r ih =>
      obtain ⟨a, m⟩ := z
      simp only [List.map_cons]
      by_cases e : a = x
      · subst e
        simp only [if_true, Nums.get?]
        by_cases q : a = y
        · subst q; simp
        · rw [if_neg q, if_neg q, if_neg (fun z => q z.symm)]
          by_cases hr : (Nums.get? r a).isSome = true
          · rw [ih hr, if_neg (fun z => q z.symm)]
          · have key : ∀ (l : Nums), (Nums.get? l a).isSome ≠ true → l.map (fun y => if y.1 = a then (y.1, n) else y) = l := by
              intro l
              induction l with
              | nil => intro _; rfl
              | cons w l ih2 =>
                intro hw
                obtain ⟨b, k⟩ := w
                by_cases e2 : b = a
                · subst e2; simp [Nums.get?] at hw
                · simp only [Nums.get?, if_neg e2] at hw
                  simp only [List.map_cons, if_neg e2, ih2 hw]
            rw [key r hr]
      · rw [if_neg e]
        simp only [Nums.get?, if_neg e] at h ⊢
        by_cases q : a = y
        · subst q; rw [if_pos rfl, if_pos rfl, if_neg e]
        · rw [if_neg q, if_neg q, ih h]
  · rw [if_neg h]
    induction kn with
    | nil =>
      simp only [List.nil_append, Nums.get?]
      by_cases q : x = y
      · subst q; simp
      · rw [if_neg q, if_neg fun z => q z.symm]
    | cons z r ih =>
      obtain ⟨a, m⟩ := z
      have hax : a ≠ x := fun e => h (by subst e; simp [Nums.get?])
      simp only [Nums.get?, if_neg hax] at h
      simp only [List.cons_append, Nums.get?]
      by_cases q : a = y
      · subst q; rw [if_pos rfl, if_pos rfl, if_neg hax]
      · rw [if_neg q, if_neg q, ih h]
end KX
set_option Elab.async false
set_option linter.all false
set_option maxRecDepth 100000
set_option maxHeartbeats 1000000
namespace KX
open PySem L2 PL
local macro_rules | `(tactic| walk_at "v") => `(tactic| first | exact v_add | exact v_sub | exact v_lt | exact v_le | exact v_gt | exact v_ge | exact v_eqI | exact v_neI | exact v_eqS | exact v_neS | exact v_eqB | exact v_neB | exact v_inTS | exact v_inLS | exact v_ninTS | exact v_ninLS | exact v_isN rfl)
local macro_rules | `(tactic| walk_at "c") => `(tactic| first | exact c_abs | exact c_lenL | exact c_lenT | exact c_lenD)
/-! ### what the top's names hold -/
structure Cs (K : PySem.W.Frag) (mg : Str → Option Value) : Prop where
  LETTERS : ∃ t, mg "LETTERS" = some (.str Letters t)
  MOST_LETTERS : ∃ t, mg "MOST_LETTERS" = some (.int 8 t)
  KINDS : ∃ a, mg "KINDS" = some (.ref a) ∧ SqT K E0' a [.str "sum", .str "min", .str "max"]
  LEAST_FACTOR : ∃ t, mg "LEAST_FACTOR" = some (.int (-5) t)
  MOST_FACTOR : ∃ t, mg "MOST_FACTOR" = some (.int 5 t)
  MOST_INPUTS : ∃ t, mg "MOST_INPUTS" = some (.int 4 t)
  MOST_NODES : ∃ t, mg "MOST_NODES" = some (.int 8 t)
  MOST_DRIFT : ∃ t, mg "MOST_DRIFT" = some (.int 20 t)
  LEAST_COST : ∃ t, mg "LEAST_COST" = some (.int 1 t)
  MOST_COST : ∃ t, mg "MOST_COST" = some (.int 9 t)
  MOST_HORIZON : ∃ t, mg "MOST_HORIZON" = some (.int 12 t)
  MOST_TOLERANCE : ∃ t, mg "MOST_TOLERANCE" = some (.int 999 t)
theorem hg_ci {X : Cx} {x : Str} {n : Int} {ρ : Rh} {pos : Pos} (h : ∃ t, X.mg x = some (.int n t)) (hg : Gl X x := by rfl) (hd : (x == ("__debug__" : Str)) = false := by decide) : HG X (.Name x pos) ρ (.sh (.int n)) := by
  obtain ⟨t, h⟩ := h
  exact hg_glob (v := .int n) h ⟨_, rfl⟩ (fun _ => rep_fl rfl) hg hd
def kindsD : D := .tup ([Str.ofString "sum", Str.ofString "min", Str.ofString "max"].map D.str)
theorem hg_kinds {X : Cx} {x : Str} {ρ : Rh} {pos : Pos} (h : ∃ a, X.mg x = some (.ref a) ∧ SqT X.K E0' a [.str "sum", .str "min", .str "max"]) (hg : Gl X x := by rfl) (hd : (x == ("__debug__" : Str)) = false := by decide) : HG X (.Name x pos) ρ (.sh kindsD) := by
  obtain ⟨a, h, q⟩ := h
  refine hg_glob (v := .ref a) h rfl (fun G => ?_) hg hd
  simp only [kindsD, Rep]
  exact ⟨a, _, rfl, .inr q, repL_strs'⟩
abbrev sIsTerm : Stmt := top 18
theorem scIsTerm : FnScope ["thing"] ["thing"] (defScope sIsTerm) := ⟨rfl, rfl, rfl, by decide +kernel, rfl, by decide +kernel, by decide +kernel⟩
abbrev sIsFormula : Stmt := top 19
theorem scIsFormula : FnScope ["thing", "kind", "parts", "part"] ["thing"] (defScope sIsFormula) := ⟨rfl, rfl, rfl, by decide +kernel, rfl, by decide +kernel, by decide +kernel⟩
abbrev sFormulaInputs : Stmt := top 20
theorem scFormulaInputs : FnScope ["formula", "kind", "parts", "factor", "name"] ["formula"] (defScope sFormulaInputs) := ⟨rfl, rfl, rfl, by decide +kernel, rfl, by decide +kernel, by decide +kernel⟩
abbrev sIsCost : Stmt := top 27
theorem scIsCost : FnScope ["thing"] ["thing"] (defScope sIsCost) := ⟨rfl, rfl, rfl, by decide +kernel, rfl, by decide +kernel, by decide +kernel⟩
abbrev sIsSource : Stmt := top 28
theorem scIsSource : FnScope ["name", "pair"] ["name", "pair"] (defScope sIsSource) := ⟨rfl, rfl, rfl, by decide +kernel, rfl, by decide +kernel, by decide +kernel⟩
abbrev sIsView : Stmt := top 29
theorem scIsView : FnScope ["name", "pair"] ["name", "pair"] (defScope sIsView) := ⟨rfl, rfl, rfl, by decide +kernel, rfl, by decide +kernel, by decide +kernel⟩
def yes : Sl := .sh (.bl true)
structure TermOk (t : Int × Str) : Prop where
  f : -5 ≤ t.1 ∧ t.1 ≤ 5 ∧ t.1 ≠ 0
  n : NameOk t.2
def FIsTerm : List D → Sl → Prop := fun ds r => ∃ t, TermOk t ∧ ds = [termD t] ∧ r = yes
def FIsFormula : List D → Sl → Prop := fun ds r => ∃ f, FmOk f ∧ ds = [f.d] ∧ r = yes
def FFormulaInputs : List D → Sl → Prop := fun ds r => ∃ f, FmOk f ∧ ds = [f.d] ∧ r = .ol (f.ins.map D.str)
def FComputed : List D → Sl → Prop := fun ds r => ∃ (f : Fm) (kn : Nums), FmOk f ∧ (∀ x ∈ f.ins, (kn.get? x).isSome = true) ∧ ds = [f.d, .dct (numD kn)] ∧ r = .sh (.int (f.val fun x => (kn.get? x).getD 0))
def FIsCost : List D → Sl → Prop := fun ds r => ∃ n, 1 ≤ n ∧ n ≤ 9 ∧ ds = [.int n] ∧ r = yes
def FIsSource : List D → Sl → Prop := fun ds r => ∃ x, SrcOk x ∧ ds = [.str x.1, .tup [.int x.2.1, .int x.2.2]] ∧ r = yes
def FIsView : List D → Sl → Prop := fun ds r => ∃ x, VwOk x ∧ ds = [.str x.1, .tup [x.2.1.d, .int x.2.2]] ∧ r = yes
section
variable {P : Program} {w : World} {K : PySem.W.Frag} {mg : Str → Option Value} {base : Heap}
theorem ok_is_term {f : Addr} {fd : FuncData} (F : Fun K "is_term" "is_term" sIsTerm f fd) (B : Bl mg) (C : Cs K mg) (c1 : Fd P w K mg base 1 "is_tuple_of" FIsTupleOf) (c2 : Fd P w K mg base 1 "is_name" FIsName) (c3 : Fd P w K mg base 2 "is_number" FIsNumber) : FnOk P w K mg base CX0 3 f fd ["thing"] (spR K FIsTerm) := by
  refine fn_ok F scIsTerm (fun ds r h => ?_) fun cdv A outer s H E hr ds r h => ?_
  · obtain ⟨t, _, rfl, _⟩ := h
    rfl
  · obtain ⟨t, ht, rfl, rfl⟩ := h
    refine hf_r ?_
    refine hr_when (t := false) (ht_hw (ht_or (t := false) (u := false) (ht_not (t := true) (ht_he (he_call (r := yes) c1 (hr.mono (by decide)) (hea_cons (he_hg (hg_var 0 rfl)) (hea_cons (he_hg hg_int) hea_nil)) ⟨_, _, rfl, rfl⟩))) fun _ => (hw_or1 (ht_not (t := true) (ht_he (he_call (r := yes) c2 (hr.mono (by decide)) (hea_cons (he_hg (hg_ix (hg_var 0 rfl) hg_int rfl rfl)) hea_nil) ⟨_, ht.n, rfl, rfl⟩)))))) (fun z => by cases z) fun _ => ?_
    refine hr_ret (he_eq (hp_and (he_call c3 (hr.mono (by decide)) (hea_cons (he_hg (hg_ix (hg_var 0 rfl) hg_int rfl rfl)) (hea_cons (he_hg (hg_ci C.LEAST_FACTOR)) (hea_cons (he_hg (hg_ci C.MOST_FACTOR)) hea_nil))) ⟨_, _, _, rfl, rfl⟩) fun _ => (hp_one (he_hg (hg_cmp (hg_ix (hg_var 0 rfl) hg_int rfl rfl) hg_int v_neI)))) ?_)
    obtain ⟨h1, h2, h3⟩ := ht.f
    simp [h1, h2, h3, yes]
theorem nms : ¬ ((Str.ofString "min") = Str.ofString "sum") := by decide +kernel
theorem nxs : ¬ ((Str.ofString "max") = Str.ofString "sum") := by decide +kernel
theorem nxm : ¬ ((Str.ofString "max") = Str.ofString "min") := by decide +kernel
theorem kind_in (f : Fm) : (!decide (f.kind ∈ [Str.ofString "sum", Str.ofString "min", Str.ofString "max"])) = false := by cases f <;> simp [Fm.kind]
theorem terms_bound {f : Fm} (h : FmOk f) {n : Nat} {l : List D} (e : f.parts = .tup l) : l.length = f.ins.length := by
  cases f <;> (simp only [Fm.parts, D.tup.injEq] at e; subst e; simp [Fm.ins])
theorem ok_is_formula {f : Addr} {fd : FuncData} (F : Fun K "is_formula" "is_formula" sIsFormula f fd) (B : Bl mg) (C : Cs K mg) (c1 : Fd P w K mg base 1 "is_tuple_of" FIsTupleOf) (c2 : Fd P w K mg base 1 "is_name" FIsName) (c3 : Fd P w K mg base 3 "is_term" FIsTerm) : FnOk P w K mg base CX0 4 f fd ["thing"] (spR K FIsFormula) := by
  refine fn_ok F scIsFormula (fun ds r h => ?_) fun cdv A outer s H E hr ds r h => ?_
  · obtain ⟨t, _, rfl, _⟩ := h
    rfl
  · obtain ⟨fm, ht, rfl, rfl⟩ := h
    refine hf_r ?_
    obtain ⟨l, hl⟩ : ∃ l, fm.parts = .tup l := by cases fm <;> exact ⟨_, rfl⟩
    have hlen := terms_bound ht (n := 0) hl
    refine hr_when (t := false) (ht_hw (ht_or (t := false) (u := false) (ht_not (t := true) (ht_he (he_call (r := yes) c1 (hr.mono (by decide)) (hea_cons (he_hg (hg_var 0 rfl)) (hea_cons (he_hg hg_int) hea_nil)) ⟨_, _, rfl, rfl⟩))) fun _ =>
      (ht_or (t := false) (u := false) (ht_not (t := true) (ht_he (he_hg (hg_isi (T := "str") (hg_ix (hg_var 0 rfl) hg_int rfl rfl) rfl (by decide +kernel) PyProof.Rows.boot_str B.isinstance B.str)))) fun _ => (hw_or1 (ht_eq (ht_cmpG (hg_ix (hg_var 0 rfl) hg_int rfl rfl) (hg_kinds C.KINDS) v_ninTS) ?_))))) (fun z => by cases z) fun _ => ?_
    · exact kind_in fm
    refine hr_cons (hs_asg (he_hg (hg_var 0 rfl)) (hb_tup (hbs_cons (hb_name 1 scIsFormula.nd) (hbs_cons (hb_name 2 scIsFormula.nd) hbs_nil)))) ?_
    refine hr_when (t := false) (ht_hw (ht_or (t := false) (u := false) (ht_not (t := true) (ht_he (he_hg (hg_isi (T := "tuple") (hg_var 2 rfl) (by rw [hl]; rfl) (by decide +kernel) PyProof.Rows.boot_tuple B.isinstance B.tuple)))) fun _ => (hw_or1 (ht_not (t := true) (ht_eq (ht_chain hg_int (hg_callB (hga_cons (hg_var 2 rfl) hga_nil) (by rw [show (List.map Sl.data [Sl.sh fm.parts]) = [.tup l] by rw [← hl]; rfl]; exact c_lenT) (by rfl) B.len PySem.boot_len) (hg_ci C.MOST_INPUTS) v_le v_le) ?_))))) (fun z => by cases z) fun _ => ?_
    · have h1 := ht.one
      have h2 := ht.four
      rw [← hlen] at h1 h2
      simp only [Bool.and_eq_true, decide_eq_true_eq]
      omega
    cases fm with
    | sum ts =>
      refine hr_when (t := true) (ht_eq (ht_cmpG (hg_var 1 rfl) hg_str v_eqS) (by simp [Fm.kind])) (fun _ => ?_) fun z => by cases z
      refine hr_ret (he_eq (he_callB (hea_cons (he_sh (he_eq (he_map (f := fun _ => .bl true) [("part", 3)] [3] (hi_seq (he_hg (hg_var 2 rfl)) (.inr rfl)) scIsFormula.nd (blkOk_by (N := ["thing", "kind", "parts", "part"]) (sc := defScope sIsFormula) (by decide +kernel)) ?_ (fun i d hd => ?_)) (?_ : _ = Sl.ol ((List.replicate ts.length true).map D.bl)))) hea_nil) (c_all rfl) (by rfl) B.all PyProof.Rows.boot_all) ?_)
      · have := ht.four; simp only [Fm.ins, List.length_map] at this ⊢; omega
      · obtain ⟨t, h1, rfl⟩ := List.mem_map.mp (List.mem_of_getElem? hd)
        exact ⟨_, fun s H C cl fp => hb_name 3 scIsFormula.nd, _, fun s H C cl fp => he_call (r := yes) c3 (hr.mono (by decide)) (hea_cons (he_hg (hg_var 3 rfl)) hea_nil) ⟨t, ⟨ht.fac ts rfl t h1, ht.names _ (List.mem_map.mpr ⟨t, h1, rfl⟩)⟩, rfl, rfl⟩, rfl⟩
      · rw [List.map_const', List.map_replicate, List.length_map]
      · simp [yes]
    | mn xs =>
      refine hr_when (t := false) (ht_eq (ht_cmpG (hg_var 1 rfl) hg_str v_eqS) (by simp [Fm.kind, nms, nxs])) (fun z => by cases z) fun _ => ?_
      refine hr_ret (he_eq (he_callB (hea_cons (he_sh (he_eq (he_map (f := fun _ => .bl true) [("part", 3)] [3] (hi_seq (he_hg (hg_var 2 rfl)) (.inr rfl)) scIsFormula.nd (blkOk_by (N := ["thing", "kind", "parts", "part"]) (sc := defScope sIsFormula) (by decide +kernel)) ?_ (fun i d hd => ?_)) (?_ : _ = Sl.ol ((List.replicate xs.length true).map D.bl)))) hea_nil) (c_all rfl) (by rfl) B.all PyProof.Rows.boot_all) ?_)
      · have := ht.four; simp only [Fm.ins, List.length_map] at this ⊢; omega
      · obtain ⟨t, h1, rfl⟩ := List.mem_map.mp (List.mem_of_getElem? hd)
        exact ⟨_, fun s H C cl fp => hb_name 3 scIsFormula.nd, _, fun s H C cl fp => he_call (r := yes) c2 (hr.mono (by decide)) (hea_cons (he_hg (hg_var 3 rfl)) hea_nil) ⟨t, ht.names _ h1, rfl, rfl⟩, rfl⟩
      · rw [List.map_const', List.map_replicate, List.length_map]
      · simp [yes]
    | mx xs =>
      refine hr_when (t := false) (ht_eq (ht_cmpG (hg_var 1 rfl) hg_str v_eqS) (by simp [Fm.kind, nms, nxs])) (fun z => by cases z) fun _ => ?_
      refine hr_ret (he_eq (he_callB (hea_cons (he_sh (he_eq (he_map (f := fun _ => .bl true) [("part", 3)] [3] (hi_seq (he_hg (hg_var 2 rfl)) (.inr rfl)) scIsFormula.nd (blkOk_by (N := ["thing", "kind", "parts", "part"]) (sc := defScope sIsFormula) (by decide +kernel)) ?_ (fun i d hd => ?_)) (?_ : _ = Sl.ol ((List.replicate xs.length true).map D.bl)))) hea_nil) (c_all rfl) (by rfl) B.all PyProof.Rows.boot_all) ?_)
      · have := ht.four; simp only [Fm.ins, List.length_map] at this ⊢; omega
      · obtain ⟨t, h1, rfl⟩ := List.mem_map.mp (List.mem_of_getElem? hd)
        exact ⟨_, fun s H C cl fp => hb_name 3 scIsFormula.nd, _, fun s H C cl fp => he_call (r := yes) c2 (hr.mono (by decide)) (hea_cons (he_hg (hg_var 3 rfl)) hea_nil) ⟨t, ht.names _ h1, rfl, rfl⟩, rfl⟩
      · rw [List.map_const', List.map_replicate, List.length_map]
      · simp [yes]
theorem ok_formula_inputs {f : Addr} {fd : FuncData} (F : Fun K "formula_inputs" "formula_inputs" sFormulaInputs f fd) (B : Bl mg) : FnOk P w K mg base CX0 1 f fd ["formula"] (spR K FFormulaInputs) := by
  refine fn_ok F scFormulaInputs (fun ds r h => ?_) fun cdv A outer s H E hr ds r h => ?_
  · obtain ⟨t, _, rfl, _⟩ := h
    rfl
  · obtain ⟨fm, ht, rfl, rfl⟩ := h
    refine hf_r ?_
    refine hr_cons (hs_asg (he_hg (hg_var 0 rfl)) (hb_tup (hbs_cons (hb_name 1 scFormulaInputs.nd) (hbs_cons (hb_name 2 scFormulaInputs.nd) hbs_nil)))) ?_
    cases fm with
    | sum ts =>
      refine hr_when (t := true) (ht_eq (ht_cmpG (hg_var 1 rfl) hg_str v_eqS) (by simp [Fm.kind])) (fun _ => ?_) fun z => by cases z
      refine hr_ret (he_eq (he_map (f := fun d => match d with | .tup [_, x] => x | _ => .non) [("factor", 3), ("name", 4)] [3, 4] (hi_seq (he_hg (hg_var 2 rfl)) (.inr rfl)) scFormulaInputs.nd (blkOk_by (N := ["formula", "kind", "parts", "factor", "name"]) (sc := defScope sFormulaInputs) (by decide +kernel)) ?_ (fun i d hd => ?_)) ?_)
      · have := ht.four; simp only [Fm.ins, List.length_map] at this ⊢; omega
      · obtain ⟨t, h1, rfl⟩ := List.mem_map.mp (List.mem_of_getElem? hd)
        exact ⟨_, fun s H C cl fp => hb_tup (hbs_cons (hb_name 3 scFormulaInputs.nd) (hbs_cons (hb_name 4 scFormulaInputs.nd) hbs_nil)), _, fun s H C cl fp => he_hg (hg_var 4 rfl), rfl⟩
      · simp [Fm.ins, termD, Function.comp_def]
    | mn xs =>
      refine hr_when (t := false) (ht_eq (ht_cmpG (hg_var 1 rfl) hg_str v_eqS) (by simp [Fm.kind, nms, nxs])) (fun z => by cases z) fun _ => ?_
      exact hr_ret (he_list (hg_var 2 rfl) rfl B.list)
    | mx xs =>
      refine hr_when (t := false) (ht_eq (ht_cmpG (hg_var 1 rfl) hg_str v_eqS) (by simp [Fm.kind, nms, nxs])) (fun z => by cases z) fun _ => ?_
      exact hr_ret (he_list (hg_var 2 rfl) rfl B.list)
theorem ok_is_cost {f : Addr} {fd : FuncData} (F : Fun K "is_cost" "is_cost" sIsCost f fd) (C : Cs K mg) (c3 : Fd P w K mg base 2 "is_number" FIsNumber) : FnOk P w K mg base CX0 3 f fd ["thing"] (spR K FIsCost) := by
  refine fn_ok F scIsCost (fun ds r h => ?_) fun cdv A outer s H E hr ds r h => ?_
  · obtain ⟨n, _, _, rfl, _⟩ := h
    rfl
  · obtain ⟨n, h1, h9, rfl, rfl⟩ := h
    refine hf_r (hr_ret (he_eq (he_call c3 (hr.mono (by decide)) (hea_cons (he_hg (hg_var 0 rfl)) (hea_cons (he_hg (hg_ci C.LEAST_COST)) (hea_cons (he_hg (hg_ci C.MOST_COST)) hea_nil))) ⟨_, _, _, rfl, rfl⟩) ?_))
    simp [h1, h9, yes]
theorem ok_is_source {f : Addr} {fd : FuncData} (F : Fun K "is_source" "is_source" sIsSource f fd) (C : Cs K mg) (c1 : Fd P w K mg base 1 "is_tuple_of" FIsTupleOf) (c2 : Fd P w K mg base 1 "is_name" FIsName) (c3 : Fd P w K mg base 2 "is_number" FIsNumber) (c4 : Fd P w K mg base 3 "is_cost" FIsCost) : FnOk P w K mg base CX0 4 f fd ["name", "pair"] (spR K FIsSource) := by
  refine fn_ok F scIsSource (fun ds r h => ?_) fun cdv A outer s H E hr ds r h => ?_
  · obtain ⟨n, _, rfl, _⟩ := h
    rfl
  · obtain ⟨x, hx, rfl, rfl⟩ := h
    refine hf_r (hr_ret (he_eq (hp_and (t := true) (he_call c2 (hr.mono (by decide)) (hea_cons (he_hg (hg_var 0 rfl)) hea_nil) ⟨_, hx.name, rfl, rfl⟩) fun _ => (hp_and (he_call c1 (hr.mono (by decide)) (hea_cons (he_hg (hg_var 1 rfl)) (hea_cons (he_hg hg_int) hea_nil)) ⟨_, _, rfl, rfl⟩) fun _ =>
      (hp_and (he_call c3 (hr.mono (by decide)) (hea_cons (he_hg (hg_ix (hg_var 1 rfl) hg_int rfl rfl)) (hea_cons (he_hg hg_int) (hea_cons (he_hg (hg_ci C.MOST_DRIFT)) hea_nil))) ⟨_, _, _, rfl, rfl⟩) fun _ => (hp_one (he_call (r := yes) c4 (hr.mono (by decide)) (hea_cons (he_hg (hg_ix (hg_var 1 rfl) hg_int rfl rfl)) hea_nil) ⟨_, hx.cost.1, hx.cost.2, rfl, rfl⟩))))) ?_))
    simp [hx.drift.1, hx.drift.2, yes]
theorem ok_is_view {f : Addr} {fd : FuncData} (F : Fun K "is_view" "is_view" sIsView f fd) (C : Cs K mg) (c1 : Fd P w K mg base 1 "is_tuple_of" FIsTupleOf) (c2 : Fd P w K mg base 1 "is_name" FIsName) (c3 : Fd P w K mg base 4 "is_formula" FIsFormula) (c4 : Fd P w K mg base 3 "is_cost" FIsCost) : FnOk P w K mg base CX0 5 f fd ["name", "pair"] (spR K FIsView) := by
  refine fn_ok F scIsView (fun ds r h => ?_) fun cdv A outer s H E hr ds r h => ?_
  · obtain ⟨n, _, rfl, _⟩ := h
    rfl
  · obtain ⟨x, hx, rfl, rfl⟩ := h
    refine hf_r (hr_ret (he_eq (hp_and (t := true) (he_call c2 (hr.mono (by decide)) (hea_cons (he_hg (hg_var 0 rfl)) hea_nil) ⟨_, hx.name, rfl, rfl⟩) fun _ => (hp_and (he_call c1 (hr.mono (by decide)) (hea_cons (he_hg (hg_var 1 rfl)) (hea_cons (he_hg hg_int) hea_nil)) ⟨_, _, rfl, rfl⟩) fun _ =>
      (hp_and (t := true) (he_call (r := yes) c3 (hr.mono (by decide)) (hea_cons (he_hg (hg_ix (hg_var 1 rfl) hg_int rfl rfl)) hea_nil) ⟨_, hx.fm, rfl, rfl⟩) fun _ => (hp_one (he_call (r := yes) c4 (hr.mono (by decide)) (hea_cons (he_hg (hg_ix (hg_var 1 rfl) hg_int rfl rfl)) hea_nil) ⟨_, hx.cost.1, hx.cost.2, rfl, rfl⟩))))) ?_))
    simp [yes]
end
end KX
set_option Elab.async false
set_option linter.all false
set_option maxRecDepth 100000
set_option maxHeartbeats 1000000
namespace KX
open PySem L2 PL
abbrev sCheckSources : Stmt := top 30
theorem scCheckSources : FnScope ["sources", "name", "pair"] ["sources"] (defScope sCheckSources) := ⟨rfl, rfl, rfl, by decide +kernel, rfl, by decide +kernel, by decide +kernel⟩
abbrev sCheckViews : Stmt := top 31
theorem scCheckViews : FnScope ["sources", "views", "free", "name", "pair", "lower"] ["sources", "views"] (defScope sCheckViews) := ⟨rfl, rfl, rfl, by decide +kernel, rfl, by decide +kernel, by decide +kernel⟩
structure SrcsOk (s : Srcs) : Prop where
  one : 1 ≤ s.length
  eight : s.length ≤ 8
  ok : ∀ x ∈ s, SrcOk x
  nd : (s.map (·.1)).Nodup
def none' : Sl := .sh .non
def FCheckSources : List D → Sl → Prop := fun ds r => ∃ s, SrcsOk s ∧ ds = [.dct (srcD s)] ∧ r = none'
theorem look_put (ks : List (Key × D)) (k j : Key) (d : D) : look (putD ks k d) j = if j = k then some d else look ks j := by
  have map_off : ∀ l : List (Key × D), j ≠ k → look (l.map fun kv => if kv.1 = k then (kv.1, d) else kv) j = look l j := by
    intro l h
    induction l with
    | nil => rfl
    | cons p l ih =>
      obtain ⟨a, e⟩ := p
      simp only [List.map_cons]
      by_cases z : a = k
      · rw [if_pos z]
        subst z
        simp only [look]
        rw [if_neg (fun y => h y.symm), if_neg (fun y => h y.symm), ih]
      · rw [if_neg z]
        simp only [look]
        by_cases y : a = j
        · rw [if_pos y, if_pos y]
        · rw [if_neg y, if_neg y, ih]
  have map_on : ∀ l : List (Key × D), (look l k).isSome = true → look (l.map fun kv => if kv.1 = k then (kv.1, d) else kv) k = some d := by
    intro l
    induction l with
    | nil => intro h; simp [look] at h
    | cons p l ih =>
      obtain ⟨a, e⟩ := p
      intro h
      simp only [List.map_cons]
      by_cases z : a = k
      · rw [if_pos z]; simp only [look]; rw [if_pos z]
      · rw [if_neg z]
        simp only [look, if_neg z] at h ⊢
        exact ih h
  have app : ∀ l : List (Key × D), look l k = none → look (l ++ [(k, d)]) j = if j = k then some d else look l j := by
    intro l
    induction l with
    | nil =>
      intro _
      simp only [List.nil_append, look]
      by_cases y : k = j
      · rw [if_pos y, if_pos y.symm]
      · rw [if_neg y, if_neg fun z => y z.symm]
    | cons p l ih =>
      obtain ⟨a, e⟩ := p
      intro h
      simp only [look] at h
      by_cases z : a = k
      · rw [if_pos z] at h; cases h
      · rw [if_neg z] at h
        simp only [List.cons_append, look]
        by_cases y : a = j
        · rw [if_pos y, if_pos y, if_neg (fun q => z (y.trans q))]
        · rw [if_neg y, if_neg y, ih h]
  unfold putD
  by_cases h : (look ks k).isSome = true
  · rw [if_pos h]
    by_cases y : j = k
    · subst y; rw [if_pos rfl]; exact map_on ks h
    · rw [if_neg y]; exact map_off ks y
  · rw [if_neg h]
    exact app ks (by simpa using h)
/-- the views' names are new, each input stands before and is taken but once -/
def okV (seen free : List Str) : Vws → Prop
  | [] => True
  | (n, f, _) :: r => n ∉ seen ∧ f.ins.Nodup ∧ (∀ x ∈ f.ins, x ∈ free) ∧ okV (seen ++ [n]) (free.filter (fun x => decide (x ∉ f.ins)) ++ [n]) r
structure NetOk (s : Srcs) (v : Vws) : Prop where
  src : SrcsOk s
  len : s.length + v.length ≤ 8
  vw : ∀ x ∈ v, VwOk x
  ord : okV (s.map (·.1)) (s.map (·.1)) v
def FCheckViews : List D → Sl → Prop := fun ds r => ∃ s v, NetOk s v ∧ ds = [.dct (srcD s), .dct (vwD v)] ∧ r = none'
/-- the dict of what is free -/
def takeIns (ks : List (Key × D)) (l : List Str) : List (Key × D) := l.foldl (fun ks x => putD ks (Sum.inr x) (.bl false)) ks
def fre (ks : List (Key × D)) (v : Vws) : List (Key × D) := v.foldl (fun ks x => putD (takeIns ks x.2.1.ins) (Sum.inr x.1) (.bl true)) ks
def Fre (ks : List (Key × D)) (seen free : List Str) : Prop := (∀ x, x ∈ free → x ∈ seen) ∧ ∀ x, look ks (Sum.inr x) = if x ∈ seen then some (.bl (decide (x ∈ free))) else none
theorem fre_take : ∀ {l : List Str} {ks : List (Key × D)} {seen free : List Str}, Fre ks seen free → (∀ x ∈ l, x ∈ seen) → Fre (takeIns ks l) seen (free.filter fun x => decide (x ∉ l))
  | [], ks, seen, free, h, _ => by
    have : free.filter (fun x => decide (x ∉ ([] : List Str))) = free := List.filter_eq_self.mpr (by simp)
    rw [this]
    exact h
  | a :: l, ks, seen, free, h, hs => by
    have h1 : Fre (putD ks (Sum.inr a) (.bl false)) seen (free.filter fun x => decide (x ≠ a)) := by
      refine ⟨fun x hx => h.1 x (List.mem_filter.mp hx).1, fun x => ?_⟩
      rw [look_put]
      by_cases e : x = a
      · subst e
        rw [if_pos rfl, if_pos (hs x List.mem_cons_self)]
        simp
      · rw [if_neg (fun z => e (Sum.inr.inj z)), h.2 x]
        by_cases z : x ∈ seen
        · rw [if_pos z, if_pos z]
          simp [e]
        · rw [if_neg z, if_neg z]
    have h2 := fre_take (l := l) h1 (fun x hx => hs x (List.mem_cons_of_mem _ hx))
    rw [List.filter_filter] at h2
    have e : free.filter (fun x => decide (x ∉ l) && decide (x ≠ a)) = free.filter (fun x => decide (x ∉ a :: l)) := by
      refine List.filter_congr fun x _ => ?_
      by_cases z : x = a <;> simp [z]
    rw [e] at h2
    exact h2
theorem fre_put {ks : List (Key × D)} {seen free : List Str} {a : Str} (h : Fre ks seen free) : Fre (putD ks (Sum.inr a) (.bl true)) (seen ++ [a]) (free ++ [a]) := by
  refine ⟨fun x hx => ?_, fun x => ?_⟩
  · rcases List.mem_append.mp hx with z | z
    · exact List.mem_append_left _ (h.1 x z)
    · exact List.mem_append_right _ z
  · rw [look_put]
    by_cases e : x = a
    · subst e
      rw [if_pos rfl, if_pos (List.mem_append_right _ List.mem_cons_self)]
      simp
    · rw [if_neg (fun z => e (Sum.inr.inj z)), h.2 x]
      by_cases z : x ∈ seen
      · rw [if_pos z, if_pos (List.mem_append_left _ z)]
        simp [e]
      · rw [if_neg z, if_neg (by simp [z, e])]
theorem fre_at : ∀ {v : Vws} {ks : List (Key × D)} {seen free : List Str}, Fre ks seen free → okV seen free v → ∀ (n : Nat) (x : Str × Fm × Int), v[n]? = some x → ∃ seen free, Fre (fre ks (v.take n)) seen free ∧ x.1 ∉ seen ∧ x.2.1.ins.Nodup ∧ ∀ y ∈ x.2.1.ins, y ∈ free
  | [], ks, seen, free, h, o, n, x, e => by simp at e
  | (nm, f, c) :: r, ks, seen, free, h, o, 0, x, e => by
    simp only [List.getElem?_cons_zero, Option.some.injEq] at e
    subst e
    simp only [okV] at o
    exact ⟨seen, free, h, o.1, o.2.1, o.2.2.1⟩
  | (nm, f, c) :: r, ks, seen, free, h, o, n + 1, x, e => by
    simp only [List.getElem?_cons_succ] at e
    simp only [okV] at o
    have h1 := fre_put (a := nm) (fre_take (l := f.ins) h fun y hy => h.1 y (o.2.2.1 y hy))
    obtain ⟨s', f', g⟩ := fre_at h1 o.2.2.2 n x e
    exact ⟨s', f', by simpa only [List.take_succ_cons, fre, List.foldl_cons] using g⟩
def kS : D → Key
  | .str x => Sum.inr x
  | _ => Sum.inr ""
def free0 (s : Srcs) : List (Key × D) := s.map fun x => (Sum.inr x.1, .bl true)
theorem free0_eq (s : Srcs) : (keysD (srcD s)).map (fun d => (kS d, D.bl true)) = free0 s := by
  simp only [keysD, srcD, free0, List.map_map]
  exact List.map_congr_left fun x _ => rfl
theorem fre_src (s : Srcs) : Fre (free0 s) (s.map (·.1)) (s.map (·.1)) := by
  refine ⟨fun x hx => hx, fun x => ?_⟩
  induction s with
  | nil => rfl
  | cons a r ih =>
    simp only [free0, List.map_cons, look] at ih ⊢
    by_cases e : a.1 = x
    · subst e
      simp
    · rw [if_neg (fun z => e (Sum.inr.inj z)), ih]
      simp only [List.mem_cons, show ¬ x = a.1 from fun z => e z.symm, false_or]
theorem ln_free0 (s : Srcs) : (free0 s).length = s.length := by simp [free0]
theorem fre_succ (ks : List (Key × D)) (v : Vws) (n : Nat) (x : Str × Fm × Int) (h : v[n]? = some x) : fre ks (v.take (n + 1)) = putD (takeIns (fre ks (v.take n)) x.2.1.ins) (Sum.inr x.1) (.bl true) := by
  unfold fre
  rw [List.take_add_one, h, List.foldl_append]
  rfl
theorem take_succ (ks : List (Key × D)) (l : List Str) (n : Nat) (x : Str) (h : l[n]? = some x) : takeIns ks (l.take (n + 1)) = putD (takeIns ks (l.take n)) (Sum.inr x) (.bl false) := by
  unfold takeIns
  rw [List.take_add_one, h, List.foldl_append]
  rfl
theorem len_put (ks : List (Key × D)) (k : Key) (d : D) : (putD ks k d).length ≤ ks.length + 1 := by
  unfold putD
  split <;> simp
theorem len_take : ∀ (l : List Str) (ks : List (Key × D)), (takeIns ks l).length ≤ ks.length + l.length
  | [], ks => Nat.le_refl _
  | a :: l, ks => by
    have h1 := len_take l (putD ks (Sum.inr a) (.bl false))
    have h2 := len_put ks (Sum.inr a) (.bl false)
    simp only [takeIns, List.foldl_cons, List.length_cons] at h1 ⊢
    omega
theorem len_fre : ∀ (v : Vws) (ks : List (Key × D)), (∀ x ∈ v, x.2.1.ins.length ≤ 4) → (fre ks v).length ≤ ks.length + 5 * v.length
  | [], ks, _ => Nat.le_refl _
  | a :: v, ks, h => by
    have h1 := len_fre v (putD (takeIns ks a.2.1.ins) (Sum.inr a.1) (.bl true)) fun x hx => h x (List.mem_cons_of_mem _ hx)
    have h2 := len_put (takeIns ks a.2.1.ins) (Sum.inr a.1) (.bl true)
    have h3 := len_take a.2.1.ins ks
    have h4 := h a List.mem_cons_self
    simp only [fre, List.foldl_cons, List.length_cons] at h1 ⊢
    omega
section
variable {P : Program} {w : World} {K : PySem.W.Frag} {mg : Str → Option Value} {base : Heap}
theorem ok_check_sources {f : Addr} {fd : FuncData} (F : Fun K "check_sources" "check_sources" sCheckSources f fd) (B : Bl mg) (C : Cs K mg) (c1 : Fd P w K mg base 4 "is_source" FIsSource) : FnOk P w K mg base CX0 5 f fd ["sources"] (spR K FCheckSources) := by
  refine fn_ok F scCheckSources (fun ds r h => ?_) fun cdv A outer s H E hr ds r h => ?_
  · obtain ⟨s, _, rfl, _⟩ := h
    rfl
  · obtain ⟨ss, hs, rfl, rfl⟩ := h
    refine hf_n ?_
    refine hn_skip (ht_hw (ht_or (t := false) (u := false) (ht_not (t := true) (ht_he (he_hg (hg_isi (T := "dict") (hg_var 0 rfl) rfl (by decide +kernel) PyProof.Rows.boot_dict B.isinstance B.dict)))) fun _ => (hw_or1 (ht_not (t := true) (ht_eq (ht_chain hg_int (hg_callB (hga_cons (hg_var 0 rfl) hga_nil) c_lenD (by rfl) B.len PySem.boot_len) (hg_ci C.MOST_NODES) v_le v_le) ?_))))) ?_
    · have h1 := hs.one
      have h2 := hs.eight
      simp only [srcD, List.length_map, Bool.and_eq_true, decide_eq_true_eq]
      omega
    refine hn_skip (ht_not (t := true) (ht_he (he_eq (he_callB (hea_cons (he_sh (he_eq (he_map (f := fun _ => .bl true) [("name", 1), ("pair", 2)] [1, 2] (hi_items (he_hg (hg_var 0 rfl))) scCheckSources.nd (blkOk_by (N := ["sources", "name", "pair"]) (sc := defScope sCheckSources) (by decide +kernel)) ?_ (fun i d hd => ?_)) (?_ : _ = Sl.ol ((List.replicate ss.length true).map D.bl)))) hea_nil) (c_all rfl) (by rfl) B.all PyProof.Rows.boot_all) ?_))) hn_nil
    · have := hs.eight; simp only [itemsD, srcD, List.length_map]; omega
    · obtain ⟨x, h1, rfl⟩ := List.mem_map.mp (List.mem_of_getElem? hd)
      obtain ⟨y, h2, rfl⟩ := List.mem_map.mp h1
      exact ⟨_, fun s H C cl fp => hb_tup (hbs_cons (hb_name 1 scCheckSources.nd) (hbs_cons (hb_name 2 scCheckSources.nd) hbs_nil)), _, fun s H C cl fp => he_call (r := yes) c1 (hr.mono (by decide)) (hea_cons (he_hg (hg_var 1 rfl)) (hea_cons (he_hg (hg_var 2 rfl)) hea_nil)) ⟨y, hs.ok y h2, rfl, rfl⟩, rfl⟩
    · simp only [itemsD, srcD, List.map_map]
      rw [List.map_replicate, ← List.map_const']
      rfl
    · simp
theorem ok_check_views {f : Addr} {fd : FuncData} (F : Fun K "check_views" "check_views" sCheckViews f fd) (B : Bl mg) (C : Cs K mg) (c1 : Fd P w K mg base 5 "is_view" FIsView) (c2 : Fd P w K mg base 1 "formula_inputs" FFormulaInputs) : FnOk P w K mg base CX0 6 f fd ["sources", "views"] (spR K FCheckViews) := by
  refine fn_ok F scCheckViews (fun ds r h => ?_) fun cdv A outer s H E hr ds r h => ?_
  · obtain ⟨s, v, _, rfl, _⟩ := h
    rfl
  · obtain ⟨ss, vv, hs, rfl, rfl⟩ := h
    have hu := hu_of hr
    have hlen := hs.len
    have h8 := hs.src.eight
    refine hf_n ?_
    refine hn_skip (ht_hw (ht_or (t := false) (u := false) (ht_not (t := true) (ht_he (he_hg (hg_isi (T := "dict") (hg_var 1 rfl) rfl (by decide +kernel) PyProof.Rows.boot_dict B.isinstance B.dict)))) fun _ => (hw_or1 (ht_eq (ht_cmpG (hg_op (hg_callB (hga_cons (hg_var 0 rfl) hga_nil) c_lenD (by rfl) B.len PySem.boot_len) (hg_callB (hga_cons (hg_var 1 rfl) hga_nil) c_lenD (by rfl) B.len PySem.boot_len) v_add) (hg_ci C.MOST_NODES) v_gt) ?_)))) ?_
    · simp only [srcD, vwD, List.length_map, decide_eq_false_iff_not]
      omega
    refine hn_cons (hs_setDmap (kk := kS) (f := fun _ => .bl true) 2 [("name", 3)] [3] (hi_keys (he_hg (hg_var 0 rfl))) scCheckViews.nd (blkOk_by (N := ["sources", "views", "free", "name", "pair", "lower"]) (sc := defScope sCheckViews) (by decide +kernel)) rfl (by simp only [keysD, srcD, List.length_map]; omega) ?_ (fun i d hd => ?_)) ?_
    · have e : (keysD (srcD ss)).map kS = (ss.map (·.1)).map (fun x => (Sum.inr x : Key)) := by
        simp only [keysD, srcD, List.map_map]
        exact List.map_congr_left fun x _ => rfl
      rw [e]
      exact List.Pairwise.map _ (fun a b h z => h (Sum.inr.inj z)) hs.src.nd
    · obtain ⟨x, h1, rfl⟩ := List.mem_map.mp (List.mem_of_getElem? hd)
      obtain ⟨y, h2, rfl⟩ := List.mem_map.mp h1
      exact ⟨_, fun s H C cl fp => hb_name 3 scCheckViews.nd, fun s H C cl fp => he_hg (hg_var 3 rfl), _, fun s H C cl fp => he_hg hg_bl, rfl⟩
    rw [free0_eq]
    refine hn_cons (hs_for (is := [3, 4]) (hi_items (he_hg (hg_var 1 rfl))) (fun n => [some (.sh (.dct (srcD ss))), some (.sh (.dct (vwD vv))), some (.od (fre (free0 ss) (vv.take n))), none, none, none]) rfl fun n d hd => ?_) hn_nil
    obtain ⟨q, h1, h2⟩ : ∃ q, (vwD vv)[n]? = some q ∧ .tup [kD q.1, q.2] = d := by
      simp only [itemsD, List.getElem?_map, Option.map_eq_some_iff] at hd
      exact hd
    obtain ⟨x, h3, h4⟩ : ∃ x, vv[n]? = some x ∧ (Sum.inr x.1, .tup [x.2.1.d, .int x.2.2]) = q := by
      simp only [vwD, List.getElem?_map, Option.map_eq_some_iff] at h1
      exact h1
    subst h4
    subst h2
    obtain ⟨seen, free, hf, hnew, hnd, hin⟩ := fre_at (fre_src ss) hs.ord n x h3
    have hv := hs.vw x (List.mem_of_getElem? h3)
    have hb1 : (fre (free0 ss) (vv.take n)).length ≤ 100 := by
      have := len_fre (vv.take n) (free0 ss) fun y hy => (hs.vw y (List.mem_of_mem_take hy)).fm.four
      rw [ln_free0, List.length_take] at this
      omega
    have hb2 : ∀ j, (takeIns (fre (free0 ss) (vv.take n)) (x.2.1.ins.take j)).length ≤ 104 := fun j => by
      have := len_take (x.2.1.ins.take j) (fre (free0 ss) (vv.take n))
      have h4 := hv.fm.four
      rw [List.length_take] at this
      omega
    refine ⟨_, hb_tup (hbs_cons (hb_name 3 scCheckViews.nd) (hbs_cons (hb_name 4 scCheckViews.nd) hbs_nil)), .inl ?_⟩
    refine hs_skip (ht_hw (ht_or (t := false) (u := false) (ht_eq (ht_cmpG (hg_var 3 rfl) (hg_var 2 rfl) (v_inD (k := Sum.inr x.1) hu rfl)) ?_) fun _ => (hw_or1 (ht_not (t := true) (ht_he (he_call (r := yes) c1 (hr.mono (by decide)) (hea_cons (he_hg (hg_var 3 rfl)) (hea_cons (he_hg (hg_var 4 rfl)) hea_nil)) ⟨x, hv, rfl, rfl⟩)))))) ?_
    · rw [hf.2 x.1, if_neg hnew]
      rfl
    refine hs_cons (hs_for (is := [5]) (hi_seq (he_sh (he_call c2 (hr.mono (by decide)) (hea_cons (he_hg (hg_ix (hg_var 4 rfl) hg_int rfl rfl)) hea_nil) ⟨x.2.1, hv.fm, rfl, rfl⟩)) (.inl rfl)) (fun j => [some (.sh (.dct (srcD ss))), some (.sh (.dct (vwD vv))), some (.od (takeIns (fre (free0 ss) (vv.take n)) (x.2.1.ins.take j))), some (.sh (.str x.1)), some (.sh (.tup [x.2.1.d, .int x.2.2])), none]) rfl fun j d hd => ?_) ?_
    · obtain ⟨y, h5, rfl⟩ : ∃ y, x.2.1.ins[j]? = some y ∧ D.str y = d := by
        simp only [List.getElem?_map, Option.map_eq_some_iff] at hd
        exact hd
      have hft := fre_take (l := x.2.1.ins.take j) hf fun y hy => hf.1 y (hin y (List.mem_of_mem_take hy))
      have hyin := hin y (List.mem_of_getElem? h5)
      have hyj : y ∉ x.2.1.ins.take j := fun z => by
        obtain ⟨k, hk, e⟩ := List.mem_iff_getElem.mp z
        rw [List.length_take] at hk
        rw [List.getElem_take] at e
        obtain ⟨hj, e2⟩ := List.getElem?_eq_some_iff.mp h5
        have := (List.getElem_inj hnd (h₀ := by omega) (h₁ := hj)).mp (e.trans e2.symm)
        omega
      refine ⟨_, hb_name 5 scCheckViews.nd, .inl ?_⟩
      refine hs_skip (ht_not (t := true) (ht_he (he_eq (he_hg (hg_get2 (ky := Sum.inr y) hu (hg_var 2 rfl) (hg_var 5 rfl) hg_bl rfl ⟨rfl, rfl, rfl, rfl⟩)) ?_))) ?_
      · rw [hft.2 y, if_pos (hf.1 y hyin)]
        simp [hyin, hyj]
      refine hs_le (hs_one (hs_dput 2 (ky := Sum.inr y) hu (he_hg hg_bl) rfl (hg_var 5 rfl) (by have := hb2 j; omega))) ?_
      rw [take_succ _ _ _ _ h5]
      exact .s (.s (.s (.s (.s (.w .n)))))
    refine hs_le (hs_one (hs_dput 2 (ky := Sum.inr x.1) hu (he_hg hg_bl) rfl (hg_var 3 rfl) ?_)) ?_
    · have := hb2 (x.2.1.ins.map D.str).length
      omega
    · rw [fre_succ _ _ _ _ h3, List.length_map, List.take_length]
      exact .s (.s (.s (.w (.w (.w .n)))))
end
end KX
set_option Elab.async false
set_option linter.all false
set_option maxRecDepth 100000
set_option maxHeartbeats 1000000
namespace KX
open PySem L2 PL
abbrev sNetworkInit : Stmt := inClass (top 32) 0
theorem scNetworkInit : FnScope ["self", "sources", "views"] ["self", "sources", "views"] (defScope sNetworkInit) := ⟨rfl, rfl, rfl, by decide +kernel, rfl, by decide +kernel, by decide +kernel⟩
abbrev sNetworkSources : Stmt := inClass (top 32) 2
theorem scNetworkSources : FnScope ["self"] ["self"] (defScope sNetworkSources) := ⟨rfl, rfl, rfl, by decide +kernel, rfl, by decide +kernel, by decide +kernel⟩
abbrev sNetworkViews : Stmt := inClass (top 32) 3
theorem scNetworkViews : FnScope ["self"] ["self"] (defScope sNetworkViews) := ⟨rfl, rfl, rfl, by decide +kernel, rfl, by decide +kernel, by decide +kernel⟩
abbrev sNetworkNames : Stmt := inClass (top 32) 4
theorem scNetworkNames : FnScope ["self", "name", "pair"] ["self"] (defScope sNetworkNames) := ⟨rfl, rfl, rfl, by decide +kernel, rfl, by decide +kernel, by decide +kernel⟩
abbrev sNetworkBelow : Stmt := inClass (top 32) 5
theorem scNetworkBelow : FnScope ["self", "name", "names", "reached", "view", "pair", "node", "lower"] ["self", "name"] (defScope sNetworkBelow) := ⟨rfl, rfl, rfl, by decide +kernel, rfl, by decide +kernel, by decide +kernel⟩
def netFs (s : Srcs) (v : Vws) : List (Str × D) := [("source_rows", .ktup (itemsD (srcD s))), ("view_rows", .ktup (itemsD (vwD v)))]
def netD (N : Addr) (s : Srcs) (v : Vws) : D := .obj N (netFs s v)
structure NetC (K : PySem.W.Frag) (N : Addr) : Prop where
  cl : Cls K N
  ic : C8.InsC K N
  n1 : NoAttr K N "source_rows"
  n2 : NoAttr K N "view_rows"
def nds (s : Srcs) (v : Vws) : List Str := s.map (·.1) ++ v.map (·.1)
theorem net_no {K : PySem.W.Frag} {s : Srcs} {v : Vws} {m : Str} (h1 : ("source_rows" : Str) ≠ m) (h2 : ("view_rows" : Str) ≠ m) (G : Hp) (vs : List (Str × V)) (h : RepF K G (netFs s v) vs) : vs.lookup m = none := by
  simp only [netFs, RepF] at h
  obtain ⟨a, r, rfl, _, b, r2, rfl, _, rfl⟩ := h
  simp [List.lookup, beq_eq_false_iff_ne.mpr fun z => h1 z.symm, beq_eq_false_iff_ne.mpr fun z => h2 z.symm]
def fstD : D → D
  | .tup (x :: _) => x
  | _ => .non
theorem nds_map (s : Srcs) (v : Vws) : (itemsD (srcD s) ++ itemsD (vwD v)).map fstD = (nds s v).map D.str := by
  simp only [itemsD, srcD, vwD, nds, List.map_append, List.map_map]
  rfl
def NName (N : Addr) : List D → Sl → Prop := fun ds r => ∃ s v, NetOk s v ∧ ds = [netD N s v] ∧ r = .ol ((nds s v).map D.str)
def NSources (N : Addr) : List D → Sl → Prop := fun ds r => ∃ s v, NetOk s v ∧ ds = [netD N s v] ∧ r = .od (srcD s)
def NViews (N : Addr) : List D → Sl → Prop := fun ds r => ∃ s v, NetOk s v ∧ ds = [netD N s v] ∧ r = .od (vwD v)
def NMake : List D → List (Str × D) → Prop := fun ds fs => ∃ s v, NetOk s v ∧ ds = [.dct (srcD s), .dct (vwD v)] ∧ fs = netFs s v
theorem okV_nd : ∀ {v : Vws} {seen free : List Str}, okV seen free v → (∀ x ∈ v, x.1 ∉ seen) ∧ (v.map (·.1)).Nodup
  | [], _, _, _ => ⟨(fun x h => by cases h), List.nodup_nil⟩
  | (n, f, c) :: r, seen, free, h => by
    simp only [okV] at h
    obtain ⟨h1, h2⟩ := okV_nd h.2.2.2
    refine ⟨fun x hx => ?_, ?_⟩
    · rcases List.mem_cons.mp hx with z | z
      · subst z; exact h.1
      · exact fun y => h1 x z (List.mem_append_left _ y)
    · rw [List.map_cons, List.nodup_cons]
      refine ⟨fun z => ?_, h2⟩
      obtain ⟨x, hx, e⟩ := List.mem_map.mp z
      exact h1 x hx (by rw [e]; exact List.mem_append_right _ List.mem_cons_self)
theorem NetOk.nd {s : Srcs} {v : Vws} (h : NetOk s v) : (nds s v).Nodup := by
  obtain ⟨h1, h2⟩ := okV_nd h.ord
  refine List.nodup_append.mpr ⟨h.src.nd, h2, fun a ha b hb e => ?_⟩
  subst e
  obtain ⟨x, hx, e⟩ := List.mem_map.mp hb
  exact h1 x hx (by rw [e]; exact ha)
theorem NetOk.ins {s : Srcs} {v : Vws} (h : NetOk s v) {x : Str × Fm × Int} (hx : x ∈ v) : x.2.1.ins.Nodup := by
  obtain ⟨n, hn⟩ := List.mem_iff_getElem?.mp hx
  obtain ⟨_, _, _, _, q, _⟩ := fre_at (fre_src s) h.ord n x hn
  exact q
/-- the nodes at or below a node -/
def reach (l : List Str) (v : Vws) : List Str := v.foldl (fun l x => if x.1 ∈ l then l ++ x.2.1.ins else l) l
def belowL (s : Srcs) (v : Vws) (x : Str) : List Str := (nds s v).filter fun y => decide (y ∈ reach [x] v.reverse) && !decide (y = x)
def yesD (l : List Str) : List (Key × D) := l.map fun y => (Sum.inr y, .bl true)
def reachD (ks : List (Key × D)) (v : Vws) : List (Key × D) := v.foldl (fun ks x => if (look ks (Sum.inr x.1)).isSome then mergeD ks (yesD x.2.1.ins) else ks) ks
def Has (ks : List (Key × D)) (l : List Str) : Prop := ∀ x, (look ks (Sum.inr x)).isSome = decide (x ∈ l)
theorem has_merge : ∀ {more : List Str} {ks : List (Key × D)} {l : List Str}, Has ks l → Has (mergeD ks (yesD more)) (l ++ more)
  | [], ks, l, h => by rw [List.append_nil]; exact h
  | a :: r, ks, l, h => by
    have h1 : Has (putD ks (Sum.inr a) (.bl true)) (l ++ [a]) := fun x => by
      rw [look_put]
      by_cases e : x = a
      · subst e; simp
      · rw [if_neg (fun z => e (Sum.inr.inj z)), h x]; simp [e]
    have := has_merge (more := r) h1
    rw [List.append_assoc] at this
    exact this
theorem has_reach : ∀ {v : Vws} {ks : List (Key × D)} {l : List Str}, Has ks l → Has (reachD ks v) (reach l v)
  | [], ks, l, h => h
  | a :: r, ks, l, h => by
    simp only [reachD, reach, List.foldl_cons]
    have e := h a.1
    by_cases z : a.1 ∈ l
    · rw [if_pos (by rw [e]; simpa using z), if_pos z]
      exact has_reach (has_merge h)
    · rw [if_neg (by rw [e]; simpa using z), if_neg z]
      exact has_reach h
theorem reachD_succ (ks : List (Key × D)) (v : Vws) (n : Nat) (x : Str × Fm × Int) (h : v[n]? = some x) : reachD ks (v.take (n + 1)) = if (look (reachD ks (v.take n)) (Sum.inr x.1)).isSome then mergeD (reachD ks (v.take n)) (yesD x.2.1.ins) else reachD ks (v.take n) := by
  unfold reachD
  rw [List.take_add_one, h, List.foldl_append]
  rfl
theorem len_merge : ∀ (more ks : List (Key × D)), (mergeD ks more).length ≤ ks.length + more.length
  | [], ks => Nat.le_refl _
  | a :: r, ks => by
    have h1 := len_merge r (putD ks a.1 a.2)
    have h2 := len_put ks a.1 a.2
    simp only [mergeD, List.foldl_cons, List.length_cons] at h1 ⊢
    omega
theorem len_reach : ∀ (v : Vws) (ks : List (Key × D)), (∀ x ∈ v, x.2.1.ins.length ≤ 4) → (reachD ks v).length ≤ ks.length + 4 * v.length
  | [], ks, _ => Nat.le_refl _
  | a :: v, ks, h => by
    have h4 := h a List.mem_cons_self
    have hr := fun ks => len_reach v ks fun x hx => h x (List.mem_cons_of_mem _ hx)
    simp only [reachD, List.foldl_cons, List.length_cons] at hr ⊢
    split
    · have := hr (mergeD ks (yesD a.2.1.ins))
      have h2 := len_merge (yesD a.2.1.ins) ks
      simp only [yesD, List.length_map] at h2 this
      simp only [yesD] at this ⊢
      omega
    · have := hr ks
      omega
def NBelow (N : Addr) : List D → Sl → Prop := fun ds r => ∃ s v x, NetOk s v ∧ x ∈ nds s v ∧ ds = [netD N s v, .str x] ∧ r = .ol ((belowL s v x).map D.str)
theorem yes_map (l : List Str) : (l.map D.str).map (fun d => (kS d, D.bl true)) = yesD l := by
  simp only [yesD, List.map_map]
  rfl
section
variable {P : Program} {w : World} {K : PySem.W.Frag} {mg : Str → Option Value} {base : Heap} {N : Addr}
theorem ok_net_init {f : Addr} {fd : FuncData} (F : Fun K "__init__" "Network.__init__" sNetworkInit f fd) (B : Bl mg) (nc : NetC K N) (c1 : Fd P w K mg base 5 "check_sources" FCheckSources) (c2 : Fd P w K mg base 6 "check_views" FCheckViews) : FnOk P w K mg base CX0 7 f fd ["self", "sources", "views"] (spI K N NMake) := by
  refine fn_okM F scNetworkInit (fun ds fs h => ?_) fun cdv A outer s H E hr ds fs a h => ?_
  · obtain ⟨s, v, _, rfl, _⟩ := h
    rfl
  · obtain ⟨ss, vv, hs, rfl, rfl⟩ := h
    refine hsi_any (hs_expr (he_call c1 (hr.mono (by decide)) (hea_cons (he_hg (hg_var 1 rfl)) hea_nil) ⟨ss, hs.src, rfl, rfl⟩)) ?_
    refine hsi_any (hs_expr (he_call c2 (hr.mono (by decide)) (hea_cons (he_hg (hg_var 1 rfl)) (hea_cons (he_hg (hg_var 2 rfl)) hea_nil)) ⟨ss, vv, hs, rfl, rfl⟩)) ?_
    refine hsi_fld (he_tupItems (hg_var 1 rfl) rfl B.tuple) nc.cl nc.n1 ?_
    exact hsi_fld (he_tupItems (hg_var 2 rfl) rfl B.tuple) nc.cl nc.n2 hsi_nil (hl := by simp [putFD])
theorem ok_net_sources {f : Addr} {fd : FuncData} (F : Fun K "sources" "Network.sources" sNetworkSources f fd) (B : Bl mg) (nc : NetC K N) : FnOk P w K mg base CX0 1 f fd ["self"] (spR K (NSources N)) := by
  refine fn_ok F scNetworkSources (fun ds r h => ?_) fun cdv A outer s H E hr ds r h => ?_
  · obtain ⟨s, v, _, rfl, _⟩ := h
    rfl
  · obtain ⟨ss, vv, hs, rfl, rfl⟩ := h
    refine hf_r (hr_ret (he_dictT (hg_fld (hg_var 0 rfl) nc.cl nc.n1 rfl) ?_ B.dict))
    have := hs.src.nd
    rw [show (srcD ss).map (·.1) = (ss.map (·.1)).map (fun x => (Sum.inr x : Key)) by simp only [srcD, List.map_map]; rfl]
    exact List.Pairwise.map _ (fun a b h z => h (Sum.inr.inj z)) this
theorem ok_net_views {f : Addr} {fd : FuncData} (F : Fun K "views" "Network.views" sNetworkViews f fd) (B : Bl mg) (nc : NetC K N) : FnOk P w K mg base CX0 1 f fd ["self"] (spR K (NViews N)) := by
  refine fn_ok F scNetworkViews (fun ds r h => ?_) fun cdv A outer s H E hr ds r h => ?_
  · obtain ⟨s, v, _, rfl, _⟩ := h
    rfl
  · obtain ⟨ss, vv, hs, rfl, rfl⟩ := h
    refine hf_r (hr_ret (he_dictT (hg_fld (hg_var 0 rfl) nc.cl nc.n2 rfl) ?_ B.dict))
    have := (okV_nd hs.ord).2
    rw [show (vwD vv).map (·.1) = (vv.map (·.1)).map (fun x => (Sum.inr x : Key)) by simp only [vwD, List.map_map]; rfl]
    exact List.Pairwise.map _ (fun a b h z => h (Sum.inr.inj z)) this
theorem ok_net_names {f : Addr} {fd : FuncData} (F : Fun K "names" "Network.names" sNetworkNames f fd) (B : Bl mg) (nc : NetC K N) : FnOk P w K mg base CX0 1 f fd ["self"] (spR K (NName N)) := by
  refine fn_ok F scNetworkNames (fun ds r h => ?_) fun cdv A outer s H E hr ds r h => ?_
  · obtain ⟨s, v, _, rfl, _⟩ := h
    rfl
  · obtain ⟨ss, vv, hs, rfl, rfl⟩ := h
    have hlen := hs.len
    refine hf_r (hr_ret (he_eq (he_map (f := fstD) [("name", 1), ("pair", 2)] [1, 2] (hi_seq (he_catT (he_hg (hg_kt (hg_fld (hg_var 0 rfl) nc.cl nc.n1 rfl))) (he_hg (hg_kt (hg_fld (hg_var 0 rfl) nc.cl nc.n2 rfl))) ?_) (.inr rfl)) scNetworkNames.nd (blkOk_by (N := ["self", "name", "pair"]) (sc := defScope sNetworkNames) (by decide +kernel)) ?_ (fun i d hd => ?_)) (by rw [nds_map])))
    · simp only [itemsD, srcD, vwD, List.length_map]; omega
    · simp only [itemsD, srcD, vwD, List.length_append, List.length_map]; omega
    · obtain ⟨a, b, rfl⟩ : ∃ a b, d = .tup [a, b] := by
        have hm := List.mem_of_getElem? hd
        rcases List.mem_append.mp hm with z | z <;> (obtain ⟨y, _, rfl⟩ := List.mem_map.mp z; exact ⟨_, _, rfl⟩)
      exact ⟨_, fun s H C cl fp => hb_tup (hbs_cons (hb_name 1 scNetworkNames.nd) (hbs_cons (hb_name 2 scNetworkNames.nd) hbs_nil)), _, fun s H C cl fp => he_hg (hg_var 1 rfl), rfl⟩
theorem ok_net_below {f : Addr} {fd : FuncData} (F : Fun K "below" "Network.below" sNetworkBelow f fd) (B : Bl mg) (nc : NetC K N) (c1 : Fd P w K mg base 1 "formula_inputs" FFormulaInputs) (m1 : Md P w K mg base 1 N "names" (NName N)) : FnOk P w K mg base CX0 2 f fd ["self", "name"] (spR K (NBelow N)) := by
  refine fn_ok F scNetworkBelow (fun ds r h => ?_) fun cdv A outer s H E hr ds r h => ?_
  · obtain ⟨s, v, x, _, _, rfl, _⟩ := h
    rfl
  · obtain ⟨ss, vv, nm, hs, hin, rfl, rfl⟩ := h
    have hu := hu_of hr
    have hlen := hs.len
    refine hf_r ?_
    refine hr_cons (hs_set 2 (he_meth0 m1 nc.cl (hr.mono (by decide)) (he_hg (hg_var 0 rfl)) (net_no (by decide +kernel) (by decide +kernel)) ⟨ss, vv, hs, rfl, rfl⟩) scNetworkBelow.nd) ?_
    refine hr_when (t := false) (ht_hw (ht_or (t := false) (u := false) (ht_not (t := true) (ht_he (he_hg (hg_isi (T := "str") (hg_var 1 rfl) rfl (by decide +kernel) PyProof.Rows.boot_str B.isinstance B.str)))) fun _ => (hw_or1 (ht_eq (ht_cmpG (hg_var 1 rfl) (hg_var 2 rfl) v_ninLS) (by simpa using hin))))) (fun z => by cases z) fun _ => ?_
    refine hr_cons (hs_set 3 (he_dict1 (ky := Sum.inr nm) (hg_var 1 rfl) hg_bl) scNetworkBelow.nd) ?_
    refine hr_cons (hs_for (is := [4, 5]) (hi_revT (he_hg (hg_kt (hg_fld (hg_var 0 rfl) nc.cl nc.n2 rfl))) B.reversed) (fun n => [some (.sh (netD N ss vv)), some (.sh (.str nm)), some (.ol ((nds ss vv).map D.str)), some (.od (reachD [(Sum.inr nm, .bl true)] (vv.reverse.take n))), none, none, none, none]) rfl fun n d hd => ?_) ?_
    · have hd' : ((vv.reverse).map fun x => D.tup [D.str x.1, .tup [x.2.1.d, .int x.2.2]])[n]? = some d := by
        rw [← hd]
        simp only [itemsD, vwD, List.map_map, ← List.map_reverse]
        rfl
      obtain ⟨x, h1, rfl⟩ : ∃ x, vv.reverse[n]? = some x ∧ D.tup [D.str x.1, .tup [x.2.1.d, .int x.2.2]] = d := by
        simp only [List.getElem?_map, Option.map_eq_some_iff] at hd'
        exact hd'
      have hx : x ∈ vv := List.mem_reverse.mp (List.mem_of_getElem? h1)
      have hv := hs.vw x hx
      have hl := len_reach (vv.reverse.take n) [(Sum.inr nm, .bl true)] fun y hy => (hs.vw y (List.mem_reverse.mp (List.mem_of_mem_take hy))).fm.four
      rw [List.length_take, List.length_reverse] at hl
      simp only [List.length_cons, List.length_nil] at hl
      have h4 := hv.fm.four
      refine ⟨_, hb_tup (hbs_cons (hb_name 4 scNetworkBelow.nd) (hbs_cons (hb_name 5 scNetworkBelow.nd) hbs_nil)), .inl ?_⟩
      rw [reachD_succ _ _ _ _ h1]
      refine hs_one (hs_if (ht_cmpG (hg_var 4 rfl) (hg_var 3 rfl) (v_inD (k := Sum.inr x.1) hu rfl)) (fun ht => ?_) fun hf => ?_)
      · rw [if_pos ht]
        refine hs_le (hs_one (hs_update 3 (he_sh (he_dmap (kk := kS) (f := fun _ => .bl true) [("lower", 7)] [7] (hi_seq (he_sh (he_call c1 (hr.mono (by decide)) (hea_cons (he_hg (hg_ix (hg_var 5 rfl) hg_int rfl rfl)) hea_nil) ⟨x.2.1, hv.fm, rfl, rfl⟩)) (.inl rfl)) scNetworkBelow.nd (blkOk_by (N := ["self", "name", "names", "reached", "view", "pair", "node", "lower"]) (sc := defScope sNetworkBelow) (by decide +kernel)) ?_ ?_ (fun i d hd => ?_))) rfl rfl ?_)) ?_
        · rw [List.length_map]; omega
        · rw [show (x.2.1.ins.map D.str).map kS = x.2.1.ins.map (fun x => (Sum.inr x : Key)) by simp only [List.map_map]; rfl]
          exact List.Pairwise.map _ (fun a b h z => h (Sum.inr.inj z)) (hs.ins hx)
        · obtain ⟨y, h2, rfl⟩ := List.mem_map.mp (List.mem_of_getElem? hd)
          exact ⟨_, fun s H C cl fp => hb_name 7 scNetworkBelow.nd, fun s H C cl fp => he_hg (hg_var 7 rfl), _, fun s H C cl fp => he_hg hg_bl, rfl⟩
        · simp only [List.length_map]; omega
        · rw [yes_map]
          exact .s (.s (.s (.s (.w (.w (.s (.s .n)))))))
      · rw [if_neg (by rw [hf]; exact Bool.false_ne_true)]
        exact hs_le hs_nil (.s (.s (.s (.s (.w (.w (.s (.s .n))))))))
    have hR : Has (reachD [(Sum.inr nm, .bl true)] vv.reverse) (reach [nm] vv.reverse) := has_reach fun x => by
      simp only [look]
      by_cases e : nm = x
      · subst e; simp
      · rw [if_neg fun z => e (Sum.inr.inj z)]; simp [show ¬ x = nm from fun z => e z.symm]
    have hlt : vv.reverse.take ((itemsD (vwD vv)).reverse).length = vv.reverse := List.take_of_length_le (by simp [itemsD, vwD])
    rw [hlt]
    refine hr_ret (he_share 2 rfl rfl (he_eq (he_filter (f := fun d => d) (g := fun d => match d with | .str x => (look (reachD [(Sum.inr nm, .bl true)] vv.reverse) (Sum.inr x)).isSome && !decide (x = nm) | _ => false) [("node", 6)] [6] (hi_seq (he_hg (hg_var 2 rfl)) (.inl rfl)) scNetworkBelow.nd (blkOk_by (N := ["self", "name", "names", "reached", "view", "pair", "node", "lower"]) (sc := defScope sNetworkBelow) (by decide +kernel)) ?_ (fun i d hd => ?_)) ?_))
    · simp only [nds, List.length_append, List.length_map]; omega
    · obtain ⟨y, h2, rfl⟩ := List.mem_map.mp (List.mem_of_getElem? hd)
      exact ⟨_, fun s H C cl fp => hb_name 6 scNetworkBelow.nd, rfl, fun s H C cl fp => ht_hw (ht_and (ht_cmpG (hg_var 6 rfl) (hg_var 3 rfl) (v_inD (k := Sum.inr y) hu rfl)) fun _ => (hw_and1 (ht_cmpG (hg_var 6 rfl) (hg_var 1 rfl) v_neS))), fun _ s H C cl fp => he_hg (hg_var 6 rfl)⟩
    · rw [List.map_id', List.filter_map]
      have : (fun x => (look (reachD [(Sum.inr nm, D.bl true)] vv.reverse) (Sum.inr x)).isSome && !decide (x = nm)) = fun y => decide (y ∈ reach [nm] vv.reverse) && !decide (y = nm) := funext fun y => by rw [hR y]
      show Sl.ol (((nds ss vv).filter (fun x => (look (reachD [(Sum.inr nm, D.bl true)] vv.reverse) (Sum.inr x)).isSome && !decide (x = nm))).map D.str) = _
      rw [this]
      rfl
end
end KX
set_option Elab.async false
set_option linter.all false
set_option maxRecDepth 100000
set_option maxHeartbeats 1000000
namespace KX
open PySem L2 PL
abbrev sCheckNetwork : Stmt := top 36
theorem scCheckNetwork : FnScope ["network"] ["network"] (defScope sCheckNetwork) := ⟨rfl, rfl, rfl, by decide +kernel, rfl, by decide +kernel, by decide +kernel⟩
abbrev sCheckHorizon : Stmt := top 37
theorem scCheckHorizon : FnScope ["horizon"] ["horizon"] (defScope sCheckHorizon) := ⟨rfl, rfl, rfl, by decide +kernel, rfl, by decide +kernel, by decide +kernel⟩
abbrev sIsNode : Stmt := top 38
theorem scIsNode : FnScope ["network", "thing"] ["network", "thing"] (defScope sIsNode) := ⟨rfl, rfl, rfl, by decide +kernel, rfl, by decide +kernel, by decide +kernel⟩
abbrev sIsRefresh : Stmt := top 39
theorem scIsRefresh : FnScope ["network", "horizon", "thing"] ["network", "horizon", "thing"] (defScope sIsRefresh) := ⟨rfl, rfl, rfl, by decide +kernel, rfl, by decide +kernel, by decide +kernel⟩
abbrev sIsPlan : Stmt := top 40
theorem scIsPlan : FnScope ["network", "horizon", "thing", "names", "places", "tick", "name", "refresh", "at"] ["network", "horizon", "thing"] (defScope sIsPlan) := ⟨rfl, rfl, rfl, by decide +kernel, rfl, by decide +kernel, by decide +kernel⟩
abbrev sCheckPlan : Stmt := top 41
theorem scCheckPlan : FnScope ["network", "horizon", "plan"] ["network", "horizon", "plan"] (defScope sCheckPlan) := ⟨rfl, rfl, rfl, by decide +kernel, rfl, by decide +kernel, by decide +kernel⟩
abbrev sIsQuery : Stmt := top 43
theorem scIsQuery : FnScope ["network", "horizon", "thing"] ["network", "horizon", "thing"] (defScope sIsQuery) := ⟨rfl, rfl, rfl, by decide +kernel, rfl, by decide +kernel, by decide +kernel⟩
/-! ### plans and queries -/
abbrev Pl := List (Int × Str)
def refD (r : Int × Str) : D := .tup [.int r.1, .str r.2]
abbrev Qs := List (Int × Str × Int)
def qryD (q : Int × Str × Int) : D := .tup [.int q.1, .str q.2.1, .int q.2.2]
/-- a list or a tuple of them -/
def seqD (t : Bool) (l : List D) : D := if t then .tup l else .lst l
/-- the place of a name among names -/
def place (l : List Str) (x : Str) : Nat := l.findIdx (fun y => decide (y = x))
theorem place_at {l : List Str} {x : Str} (h : x ∈ l) : l[place l x]? = some x ∧ ∀ m, m < place l x → l[m]? ≠ some x := by
  have hlt : place l x < l.length := List.findIdx_lt_length_of_exists ⟨x, h, by simp⟩
  refine ⟨?_, fun m hm e => ?_⟩
  · rw [List.getElem?_eq_getElem hlt]
    have := List.findIdx_getElem (p := fun y => decide (y = x)) (w := hlt)
    exact congrArg some (of_decide_eq_true this)
  · have := List.not_of_lt_findIdx hm
    obtain ⟨h1, h2⟩ := List.getElem?_eq_some_iff.mp e
    simp [h2] at this
theorem atI_nat {α : Type} {xs : List α} {j : Nat} {d : α} (h : xs[j]? = some d) : atI xs (j : Int) = some d := by
  have := (List.getElem?_eq_some_iff.mp h).1
  unfold atI ixN
  rw [if_pos (by omega), if_pos (by omega)]
  simpa using h
def refOk (ns : List Str) (h : Int) (r : Int × Str) : Prop := 1 ≤ r.1 ∧ r.1 ≤ h ∧ r.2 ∈ ns
structure PlanOk (ns : List Str) (h : Int) (pl : Pl) : Prop where
  ok : ∀ r ∈ pl, refOk ns h r
  few : pl.length ≤ 1000
  asc : ∀ (i : Nat) (a b : Int × Str), pl[i]? = some a → pl[i + 1]? = some b → a.1 < b.1 ∨ (a.1 = b.1 ∧ place ns a.2 < place ns b.2)
structure QrysOk (ns : List Str) (h : Int) (qs : Qs) : Prop where
  one : 1 ≤ qs.length
  few : qs.length ≤ 20
  ok : ∀ q ∈ qs, 0 ≤ q.1 ∧ q.1 ≤ h ∧ q.2.1 ∈ ns ∧ 0 ≤ q.2.2 ∧ q.2.2 ≤ 999
def NCheckNetwork (N : Addr) : List D → Sl → Prop := fun ds r => ∃ s v, ds = [netD N s v] ∧ r = none'
def FCheckHorizon : List D → Sl → Prop := fun ds r => ∃ h, 1 ≤ h ∧ h ≤ 12 ∧ ds = [.int h] ∧ r = none'
def FCheckTick : List D → Sl → Prop := fun ds r => ∃ h t, 0 ≤ t ∧ t ≤ h ∧ ds = [.int h, .int t] ∧ r = none'
def NIsNode (N : Addr) : List D → Sl → Prop := fun ds r => ∃ s v x, NetOk s v ∧ ds = [netD N s v, .str x] ∧ r = .sh (.bl (decide (x ∈ nds s v)))
def NCheckNode (N : Addr) : List D → Sl → Prop := fun ds r => ∃ s v x, NetOk s v ∧ x ∈ nds s v ∧ ds = [netD N s v, .str x] ∧ r = none'
def NIsRefresh (N : Addr) : List D → Sl → Prop := fun ds r => ∃ s v h x, NetOk s v ∧ refOk (nds s v) h x ∧ ds = [netD N s v, .int h, refD x] ∧ r = yes
def NIsPlan (N : Addr) : List D → Sl → Prop := fun ds r => ∃ s v h pl t, NetOk s v ∧ PlanOk (nds s v) h pl ∧ ds = [netD N s v, .int h, seqD t (pl.map refD)] ∧ r = yes
def NCheckPlan (N : Addr) : List D → Sl → Prop := fun ds r => ∃ s v h pl t, NetOk s v ∧ PlanOk (nds s v) h pl ∧ ds = [netD N s v, .int h, seqD t (pl.map refD)] ∧ r = none'
def NIsQuery (N : Addr) : List D → Sl → Prop := fun ds r => ∃ (s : Srcs) (v : Vws) (h : Int) (q : Int × Str × Int), NetOk s v ∧ (0 ≤ q.1 ∧ q.1 ≤ h ∧ q.2.1 ∈ nds s v ∧ 0 ≤ q.2.2 ∧ q.2.2 ≤ 999) ∧ ds = [netD N s v, .int h, qryD q] ∧ r = yes
def NCheckQueries (N : Addr) : List D → Sl → Prop := fun ds r => ∃ s v h qs t, NetOk s v ∧ QrysOk (nds s v) h qs ∧ ds = [netD N s v, .int h, seqD t (qs.map qryD)] ∧ r = none'
theorem seq_items {t : Bool} {l : List D} : seqD t l = .lst l ∨ seqD t l = .tup l := by cases t <;> simp [seqD]
section
variable {P : Program} {w : World} {K : PySem.W.Frag} {mg : Str → Option Value} {base : Heap} {N : Addr}
theorem ok_check_network {f : Addr} {fd : FuncData} (F : Fun K "check_network" "check_network" sCheckNetwork f fd) (B : Bl mg) (nc : NetC K N) (hN : mg "Network" = some (.ref N)) : FnOk P w K mg base CX0 1 f fd ["network"] (spR K (NCheckNetwork N)) := by
  refine fn_ok F scCheckNetwork (fun ds r h => ?_) fun cdv A outer s H E hr ds r h => ?_
  · obtain ⟨s, v, rfl, _⟩ := h
    rfl
  · obtain ⟨ss, vv, rfl, rfl⟩ := h
    exact hf_n (hn_skip (ht_not (t := true) (ht_he (he_hg (hg_isC (hg_var 0 rfl) nc.ic hN B.isinstance)))) hn_nil)
theorem ok_check_horizon {f : Addr} {fd : FuncData} (F : Fun K "check_horizon" "check_horizon" sCheckHorizon f fd) (C : Cs K mg) (c3 : Fd P w K mg base 2 "is_number" FIsNumber) : FnOk P w K mg base CX0 3 f fd ["horizon"] (spR K FCheckHorizon) := by
  refine fn_ok F scCheckHorizon (fun ds r h => ?_) fun cdv A outer s H E hr ds r h => ?_
  · obtain ⟨h, _, _, rfl, _⟩ := h
    rfl
  · obtain ⟨h, h1, h2, rfl, rfl⟩ := h
    refine hf_n (hn_skip (ht_not (t := true) (ht_he (he_eq (he_call c3 (hr.mono (by decide)) (hea_cons (he_hg (hg_var 0 rfl)) (hea_cons (he_hg hg_int) (hea_cons (he_hg (hg_ci C.MOST_HORIZON)) hea_nil))) ⟨_, _, _, rfl, rfl⟩) ?_))) hn_nil)
    simp [h1, h2]
theorem ok_is_node {f : Addr} {fd : FuncData} (F : Fun K "is_node" "is_node" sIsNode f fd) (B : Bl mg) (nc : NetC K N) (m1 : Md P w K mg base 1 N "names" (NName N)) : FnOk P w K mg base CX0 2 f fd ["network", "thing"] (spR K (NIsNode N)) := by
  refine fn_ok F scIsNode (fun ds r h => ?_) fun cdv A outer s H E hr ds r h => ?_
  · obtain ⟨s, v, x, _, rfl, _⟩ := h
    rfl
  · obtain ⟨ss, vv, x, hs, rfl, rfl⟩ := h
    refine hf_r (hr_ret (he_eq (hp_and (t := true) (he_hg (hg_isi (T := "str") (hg_var 1 rfl) rfl (by decide +kernel) PyProof.Rows.boot_str B.isinstance B.str)) fun _ => (hp_one (he_cmp (he_hg (hg_var 1 rfl)) (he_sh (he_meth0 m1 nc.cl (hr.mono (by decide)) (he_hg (hg_var 0 rfl)) (net_no (by decide +kernel) (by decide +kernel)) ⟨ss, vv, hs, rfl, rfl⟩)) v_inLS))) ?_))
    simp
theorem ok_is_refresh {f : Addr} {fd : FuncData} (F : Fun K "is_refresh" "is_refresh" sIsRefresh f fd) (c1 : Fd P w K mg base 1 "is_tuple_of" FIsTupleOf) (c2 : Fd P w K mg base 2 "is_node" (NIsNode N)) (c3 : Fd P w K mg base 2 "is_number" FIsNumber) : FnOk P w K mg base CX0 3 f fd ["network", "horizon", "thing"] (spR K (NIsRefresh N)) := by
  refine fn_ok F scIsRefresh (fun ds r h => ?_) fun cdv A outer s H E hr ds r h => ?_
  · obtain ⟨s, v, h, x, _, _, rfl, _⟩ := h
    rfl
  · obtain ⟨ss, vv, h, x, hs, hx, rfl, rfl⟩ := h
    refine hf_r (hr_ret (he_eq (hp_and (t := true) (he_eq (he_call c1 (hr.mono (by decide)) (hea_cons (he_hg (hg_var 2 rfl)) (hea_cons (he_hg hg_int) hea_nil)) ⟨_, _, rfl, rfl⟩) rfl) fun _ => (hp_and (he_call c3 (hr.mono (by decide)) (hea_cons (he_hg (hg_ix (hg_var 2 rfl) hg_int rfl rfl)) (hea_cons (he_hg hg_int) (hea_cons (he_hg (hg_var 1 rfl)) hea_nil))) ⟨_, _, _, rfl, rfl⟩) fun _ =>
      (hp_one (he_call c2 (hr.mono (by decide)) (hea_cons (he_hg (hg_var 0 rfl)) (hea_cons (he_hg (hg_ix (hg_var 2 rfl) hg_int rfl rfl)) hea_nil)) ⟨ss, vv, x.2, hs, rfl, rfl⟩)))) ?_))
    simp [hx.1, hx.2.1, hx.2.2, yes]
theorem ok_is_query {f : Addr} {fd : FuncData} (F : Fun K "is_query" "is_query" sIsQuery f fd) (C : Cs K mg) (c1 : Fd P w K mg base 1 "is_tuple_of" FIsTupleOf) (c2 : Fd P w K mg base 2 "is_node" (NIsNode N)) (c3 : Fd P w K mg base 2 "is_number" FIsNumber) : FnOk P w K mg base CX0 3 f fd ["network", "horizon", "thing"] (spR K (NIsQuery N)) := by
  refine fn_ok F scIsQuery (fun ds r h => ?_) fun cdv A outer s H E hr ds r h => ?_
  · obtain ⟨s, v, h, q, _, _, rfl, _⟩ := h
    rfl
  · obtain ⟨ss, vv, h, q, hs, ⟨q1, q2, q3, q4, q5⟩, rfl, rfl⟩ := h
    refine hf_r ?_
    refine hr_when (t := false) (ht_hw (ht_or (t := false) (u := false) (ht_not (t := true) (ht_he (he_eq (he_call c1 (hr.mono (by decide)) (hea_cons (he_hg (hg_var 2 rfl)) (hea_cons (he_hg hg_int) hea_nil)) ⟨_, _, rfl, rfl⟩) rfl))) fun _ => (hw_or1 (ht_not (t := true) (ht_he (he_eq (he_call c3 (hr.mono (by decide)) (hea_cons (he_hg (hg_ix (hg_var 2 rfl) hg_int rfl rfl)) (hea_cons (he_hg hg_int) (hea_cons (he_hg (hg_var 1 rfl)) hea_nil))) ⟨_, _, _, rfl, rfl⟩) ?_)))))) (fun z => by cases z) fun _ => ?_
    · simp [q1, q2]
    refine hr_ret (he_eq (hp_and (he_call c2 (hr.mono (by decide)) (hea_cons (he_hg (hg_var 0 rfl)) (hea_cons (he_hg (hg_ix (hg_var 2 rfl) hg_int rfl rfl)) hea_nil)) ⟨ss, vv, q.2.1, hs, rfl, rfl⟩) fun _ => (hp_one (he_call c3 (hr.mono (by decide)) (hea_cons (he_hg (hg_ix (hg_var 2 rfl) hg_int rfl rfl)) (hea_cons (he_hg hg_int) (hea_cons (he_hg (hg_ci C.MOST_TOLERANCE)) hea_nil))) ⟨_, _, _, rfl, rfl⟩))) ?_)
    simp [q3, q4, q5, yes]
theorem all_yes (n : Nat) {l : List D} (h : l.length = n) : Sl.ol (l.map fun _ => D.bl true) = .ol ((List.replicate n true).map D.bl) := by
  rw [List.map_const', List.map_replicate, h]
def pairD (ns : List Str) : D → D
  | .tup [.int t, .str n] => .tup [.int t, .int (place ns n)]
  | _ => .non
theorem ok_is_plan {f : Addr} {fd : FuncData} (F : Fun K "is_plan" "is_plan" sIsPlan f fd) (B : Bl mg) (nc : NetC K N) (kt : PySem.W.kitAny K (.type "list") [.type "list", .type "tuple"] = some true) (kt2 : PySem.W.kitAny K (.type "tuple") [.type "list", .type "tuple"] = some true) (c1 : Fd P w K mg base 3 "is_refresh" (NIsRefresh N)) (m1 : Md P w K mg base 1 N "names" (NName N)) : FnOk P w K mg base CX0 4 f fd ["network", "horizon", "thing"] (spR K (NIsPlan N)) := by
  refine fn_ok F scIsPlan (fun ds r h => ?_) fun cdv A outer s H E hr ds r h => ?_
  · obtain ⟨s, v, h, pl, t, _, _, rfl, _⟩ := h
    rfl
  · obtain ⟨ss, vv, h, pl, t, hs, hq, rfl, rfl⟩ := h
    have hu := hu_of hr
    have h2 := hq.few
    refine hf_r ?_
    refine hr_when (t := false) (ht_not (t := true) (ht_he ?_)) (fun z => by cases z) fun _ => ?_
    · cases t with
      | false => exact he_isi2 (t := "list") (T := "list") (T' := "tuple") (hg_var 2 rfl) rfl kt PyProof.Rows.boot_list PyProof.Rows.boot_tuple B.isinstance B.list B.tuple
      | true => exact he_isi2 (t := "tuple") (T := "list") (T' := "tuple") (hg_var 2 rfl) rfl kt2 PyProof.Rows.boot_list PyProof.Rows.boot_tuple B.isinstance B.list B.tuple
    refine hr_when (t := false) (ht_not (t := true) (ht_he (he_eq (he_callB (hea_cons (he_sh (he_eq (he_map (f := fun _ => .bl true) [("refresh", 7)] [7] (hi_seq (he_hg (hg_var 2 rfl)) seq_items) scIsPlan.nd (blkOk_by (N := ["network", "horizon", "thing", "names", "places", "tick", "name", "refresh", "at"]) (sc := defScope sIsPlan) (by decide +kernel)) ?_ (fun i d hd => ?_)) (all_yes pl.length (by rw [List.length_map])))) hea_nil) (c_all rfl) (by rfl) B.all PyProof.Rows.boot_all) ?_))) (fun z => by cases z) fun _ => ?_
    · rw [List.length_map]; omega
    · obtain ⟨q, h3, rfl⟩ := List.mem_map.mp (List.mem_of_getElem? hd)
      exact ⟨_, fun s H C cl fp => hb_name 7 scIsPlan.nd, _, fun s H C cl fp => he_call (r := yes) c1 (hr.mono (by decide)) (hea_cons (he_hg (hg_var 0 rfl)) (hea_cons (he_hg (hg_var 1 rfl)) (hea_cons (he_hg (hg_var 7 rfl)) hea_nil))) ⟨ss, vv, h, q, hs, hq.ok q h3, rfl, rfl⟩, rfl⟩
    · simp
    refine hr_cons (hs_set 3 (he_meth0 m1 nc.cl (hr.mono (by decide)) (he_hg (hg_var 0 rfl)) (net_no (by decide +kernel) (by decide +kernel)) ⟨ss, vv, hs, rfl, rfl⟩) scIsPlan.nd) ?_
    refine hr_cons (hs_set 4 (he_map (f := pairD (nds ss vv)) [("tick", 5), ("name", 6)] [5, 6] (hi_seq (he_hg (hg_var 2 rfl)) seq_items) scIsPlan.nd (blkOk_by (N := ["network", "horizon", "thing", "names", "places", "tick", "name", "refresh", "at"]) (sc := defScope sIsPlan) (by decide +kernel)) ?_ (fun i d hd => ?_)) scIsPlan.nd) ?_
    · rw [List.length_map]; omega
    · obtain ⟨q, h3, rfl⟩ := List.mem_map.mp (List.mem_of_getElem? hd)
      obtain ⟨p1, p2⟩ := place_at (hq.ok q h3).2.2
      exact ⟨_, fun s H C cl fp => hb_tup (hbs_cons (hb_name 5 scIsPlan.nd) (hbs_cons (hb_name 6 scIsPlan.nd) hbs_nil)), _, fun s H C cl fp => he_tup (hea_cons (he_hg (hg_var 5 rfl)) (hea_cons (he_hg (hg_index (hg_var 3 rfl) (hg_var 6 rfl) rfl p1 p2)) hea_nil)) (Nat.le_of_ble_eq_true rfl), rfl⟩
    refine hr_ret (he_eq (he_callB (hea_cons (he_sh (he_eq (he_map (f := fun _ => .bl true) [("at", 8)] [8] (hi_range2 (he_hg hg_int) (he_hg (hg_callB (hga_cons (hg_var 4 rfl) hga_nil) c_lenL (by rfl) B.len PySem.boot_len)) ?_ (by rfl) B.range) scIsPlan.nd (blkOk_by (N := ["network", "horizon", "thing", "names", "places", "tick", "name", "refresh", "at"]) (sc := defScope sIsPlan) (by decide +kernel)) ?_ (fun i d hd => ?_)) (all_yes _ rfl))) hea_nil) (c_all rfl) (by rfl) B.all PyProof.Rows.boot_all) ?_)
    · simp only [List.length_map]; omega
    · simp only [rngD, List.length_map, List.length_range]; omega
    · simp only [rngD, List.getElem?_map, Option.map_eq_some_iff] at hd
      obtain ⟨n, hn, rfl⟩ := hd
      obtain ⟨hn1, hn2⟩ := List.getElem?_eq_some_iff.mp hn
      rw [List.getElem_range] at hn2
      subst hn2
      simp only [List.length_range, List.length_map] at hn1
      have hb1 : i + 1 < pl.length := by omega
      have ha := List.getElem?_eq_getElem (show i < pl.length by omega)
      have hb := List.getElem?_eq_getElem hb1
      have hlt := hq.asc i _ _ ha hb
      have ga : atI ((pl.map refD).map (pairD (nds ss vv))) (1 + (i : Int) - 1) = some (.tup [.int pl[i].1, .int (place (nds ss vv) pl[i].2)]) := by
        rw [show (1 + (i : Int) - 1) = ((i : Nat) : Int) by omega]
        exact atI_nat (by rw [List.getElem?_map, List.getElem?_map, ha]; rfl)
      have gb : atI ((pl.map refD).map (pairD (nds ss vv))) (1 + (i : Int)) = some (.tup [.int pl[i + 1].1, .int (place (nds ss vv) pl[i + 1].2)]) := by
        rw [show (1 + (i : Int)) = ((i + 1 : Nat) : Int) by omega]
        exact atI_nat (by rw [List.getElem?_map, List.getElem?_map, hb]; rfl)
      have hlx : _root_.HT.lexLt [pl[i].1, (place (nds ss vv) pl[i].2 : Int)] [pl[i + 1].1, (place (nds ss vv) pl[i + 1].2 : Int)] = true := by
        simp only [_root_.HT.lexLt]
        rcases hlt with z | ⟨z1, z2⟩
        · rw [if_neg (by omega)]; simpa using z
        · rw [if_pos z1, if_neg (by omega)]; simpa using z2
      exact ⟨_, fun s H C cl fp => hb_name 8 scIsPlan.nd, _, fun s H C cl fp => he_eq (he_hg (hg_cmp (hg_ix (hg_var 4 rfl) (hg_op (hg_var 8 rfl) hg_int v_sub) rfl ga) (hg_ix (hg_var 4 rfl) (hg_var 8 rfl) rfl gb) (v_ltT2 (Nat.lt_of_succ_lt hu)))) (by rw [hlx]), rfl⟩
    · simp [yes]
theorem ok_check_plan {f : Addr} {fd : FuncData} (F : Fun K "check_plan" "check_plan" sCheckPlan f fd) (c1 : Fd P w K mg base 4 "is_plan" (NIsPlan N)) : FnOk P w K mg base CX0 5 f fd ["network", "horizon", "plan"] (spR K (NCheckPlan N)) := by
  refine fn_ok F scCheckPlan (fun ds r h => ?_) fun cdv A outer s H E hr ds r h => ?_
  · obtain ⟨s, v, h, pl, t, _, _, rfl, _⟩ := h
    rfl
  · obtain ⟨ss, vv, h, pl, t, hs, hq, rfl, rfl⟩ := h
    exact hf_n (hn_skip (ht_not (t := true) (ht_he (he_call (r := yes) c1 (hr.mono (by decide)) (hea_cons (he_hg (hg_var 0 rfl)) (hea_cons (he_hg (hg_var 1 rfl)) (hea_cons (he_hg (hg_var 2 rfl)) hea_nil))) ⟨ss, vv, h, pl, t, hs, hq, rfl, rfl⟩))) hn_nil)
end
end KX
set_option Elab.async false
set_option linter.all false
set_option maxRecDepth 100000
set_option maxHeartbeats 1000000
namespace KX
open PySem L2 PL
/-! ### worlds -/
def aget {α : Type} : List (Str × α) → Str → Option α
  | [], _ => none
  | (y, n) :: r, x => if y = x then some n else aget r x
theorem look_map {α : Type} (g : α → D) : ∀ (l : List (Str × α)) (x : Str), look (l.map fun y => (Sum.inr y.1, g y.2)) (Sum.inr x) = (aget l x).map g
  | [], x => rfl
  | (y, n) :: r, x => by
    simp only [List.map_cons, look, aget]
    by_cases h : y = x
    · rw [if_pos (by rw [h]), if_pos h]; rfl
    · rw [if_neg (fun e => h (Sum.inr.inj e)), if_neg h]; exact look_map g r x
theorem aget_mem {α : Type} : ∀ {l : List (Str × α)} {x : Str} {a : α}, aget l x = some a → (x, a) ∈ l
  | (y, n) :: r, x, a, h => by
    simp only [aget] at h
    by_cases z : y = x
    · rw [if_pos z] at h; cases h; subst z; exact List.mem_cons_self
    · rw [if_neg z] at h; exact List.mem_cons_of_mem _ (aget_mem h)
theorem aget_isSome {α : Type} : ∀ {l : List (Str × α)} {x : Str}, (aget l x).isSome = decide (x ∈ l.map (·.1))
  | [], x => rfl
  | (y, n) :: r, x => by
    simp only [aget, List.map_cons]
    by_cases z : y = x
    · subst z; simp
    · rw [if_neg z, aget_isSome]; simp [fun q : x = y => z q.symm, show ¬ x = y from fun q => z q.symm]
abbrev Wd := List (Str × List Int)
def wdD (w : Wd) : List (Key × D) := w.map fun x => (Sum.inr x.1, .lst (x.2.map .int))
theorem look_wd (w : Wd) (x : Str) : look (wdD w) (Sum.inr x) = (aget w x).map fun xs => .lst (xs.map .int) := look_map (fun (xs : List Int) => D.lst (xs.map D.int)) w x
theorem look_vw (v : Vws) (x : Str) : look (vwD v) (Sum.inr x) = (aget v x).map fun p => .tup [p.1.d, .int p.2] := look_map (fun (p : Fm × Int) => D.tup [p.1.d, .int p.2]) v x
def absI (i : Int) : Int := if i < 0 then -i else i
def nthI (xs : List Int) (t : Int) : Int := xs[t.toNat]?.getD 0
def stepsB (xs : List Int) (h dr : Int) : Bool := (List.range h.toNat).all fun t => decide (absI (nthI xs (1 + (t : Int)) - nthI xs (1 + (t : Int) - 1)) ≤ dr)
def courseB (xs : List Int) (h dr : Int) : Bool := decide ((xs.length : Int) = h + 1) && stepsB xs h dr
def srcB (w : Wd) (h : Int) (x : Str × Int × Int) : Bool := match aget w x.1 with
  | some xs => courseB xs h x.2.1
  | none => false
def worldB (s : Srcs) (h : Int) (w : Wd) : Bool := decide (w.length = s.length) && s.all (srcB w h)
/-- what may be asked to be a world -/
def okWd (w : Wd) : Prop := w.length ≤ 1000 ∧ ∀ x ∈ w, x.2.length ≤ 1000
def FIsCourse : List D → Sl → Prop := fun ds r => ∃ xs h dr, xs.length ≤ 1000 ∧ 0 ≤ h ∧ h ≤ 12 ∧ ds = [.lst (xs.map .int), .int h, .int dr] ∧ r = .sh (.bl (courseB xs h dr))
def NIsWorld (N : Addr) : List D → Sl → Prop := fun ds r => ∃ s v h, NetOk s v ∧ 1 ≤ h ∧ h ≤ 12 ∧ ((ds = [netD N s v, .int h, .non] ∧ r = .sh (.bl false)) ∨ ∃ w, okWd w ∧ ds = [netD N s v, .int h, .dct (wdD w)] ∧ r = .sh (.bl (worldB s h w)))
structure WdOk (s : Srcs) (h : Int) (w : Wd) : Prop where
  one : 1 ≤ h
  twelve : h ≤ 12
  few : okWd w
  ok : worldB s h w = true
def NCheckWorld (N : Addr) : List D → Sl → Prop := fun ds r => ∃ s v h w, NetOk s v ∧ WdOk s h w ∧ ds = [netD N s v, .int h, .dct (wdD w)] ∧ r = none'
/-- the values of the nodes -/
def base0 (s : Srcs) (w : Wd) (t : Int) : Nums := s.map fun x => (x.1, nthI ((aget w x.1).getD []) t)
def valsAt (s : Srcs) (v : Vws) (w : Wd) (t : Int) : Nums := v.foldl (fun kn x => kn.put x.1 (x.2.1.val fun y => (kn.get? y).getD 0)) (base0 s w t)
def Cov (kn : Nums) (l : List Str) : Prop := ∀ x, (kn.get? x).isSome = decide (x ∈ l)
theorem cov_put {kn : Nums} {l : List Str} (h : Cov kn l) (x : Str) (n : Int) : Cov (kn.put x n) (l ++ [x]) := fun y => by
  rw [get_put]
  by_cases z : y = x
  · subst z; simp
  · rw [if_neg z, h y]; simp [z]
theorem cov_base (s : Srcs) (w : Wd) (t : Int) : Cov (base0 s w t) (s.map (·.1)) := fun x => by
  induction s with
  | nil => rfl
  | cons a r ih =>
    simp only [base0, List.map_cons, Nums.get?] at ih ⊢
    by_cases z : a.1 = x
    · subst z; simp
    · rw [if_neg z, ih]; simp [show ¬ x = a.1 from fun q => z q.symm]
def valsFrom (kn : Nums) (v : Vws) : Nums := v.foldl (fun kn x => kn.put x.1 (x.2.1.val fun y => (kn.get? y).getD 0)) kn
theorem vals_at : ∀ {v : Vws} {kn : Nums} {seen free : List Str}, (∀ x ∈ free, x ∈ seen) → Cov kn seen → okV seen free v → ∀ (n : Nat) (x : Str × Fm × Int), v[n]? = some x → ∀ y ∈ x.2.1.ins, ((valsFrom kn (v.take n)).get? y).isSome = true
  | [], kn, seen, free, hf, h, o, n, x, e => by simp at e
  | (nm, f, c) :: r, kn, seen, free, hf, h, o, 0, x, e => by
    simp only [List.getElem?_cons_zero, Option.some.injEq] at e
    subst e
    simp only [okV] at o
    intro y hy
    show (kn.get? y).isSome = true
    rw [h y]
    simpa using hf y (o.2.2.1 y hy)
  | (nm, f, c) :: r, kn, seen, free, hf, h, o, n + 1, x, e => by
    simp only [List.getElem?_cons_succ] at e
    simp only [okV] at o
    refine vals_at (v := r) (kn := kn.put nm (f.val fun y => (kn.get? y).getD 0)) (seen := seen ++ [nm]) (free := free.filter (fun x => decide (x ∉ f.ins)) ++ [nm]) (fun x hx => ?_) (cov_put h _ _) o.2.2.2 n x e
    rcases List.mem_append.mp hx with z | z
    · exact List.mem_append_left _ (hf x (List.mem_filter.mp z).1)
    · exact List.mem_append_right _ z
theorem vals_cov : ∀ {v : Vws} {kn : Nums} {seen : List Str}, Cov kn seen → Cov (valsFrom kn v) (seen ++ v.map (·.1))
  | [], kn, seen, h => by
    rw [List.map_nil, List.append_nil]
    exact h
  | (nm, f, c) :: r, kn, seen, h => by
    have := vals_cov (v := r) (cov_put h nm (f.val fun y => (kn.get? y).getD 0))
    rw [List.append_assoc] at this
    exact this
theorem vals_succ (kn : Nums) (v : Vws) (n : Nat) (x : Str × Fm × Int) (h : v[n]? = some x) : valsFrom kn (v.take (n + 1)) = (valsFrom kn (v.take n)).put x.1 (x.2.1.val fun y => ((valsFrom kn (v.take n)).get? y).getD 0) := by
  unfold valsFrom
  rw [List.take_add_one, h, List.foldl_append]
  rfl
theorem len_nput (kn : Nums) (x : Str) (n : Int) : (kn.put x n).length ≤ kn.length + 1 := by
  unfold Nums.put
  split <;> simp
theorem len_vals : ∀ (v : Vws) (kn : Nums), (valsFrom kn v).length ≤ kn.length + v.length
  | [], kn => Nat.le_refl _
  | a :: v, kn => by
    have h1 := len_vals v (kn.put a.1 (a.2.1.val fun y => (kn.get? y).getD 0))
    have h2 := len_nput kn a.1 (a.2.1.val fun y => (kn.get? y).getD 0)
    simp only [valsFrom, List.foldl_cons, List.length_cons] at h1 ⊢
    omega
theorem cov_all {s : Srcs} {v : Vws} {w : Wd} {t : Int} : Cov (valsAt s v w t) (nds s v) := vals_cov (cov_base s w t)
/-- each source's course has the tick -/
def fits (s : Srcs) (w : Wd) (t : Int) : Prop := 0 ≤ t ∧ ∀ x ∈ s, ∃ xs, aget w x.1 = some xs ∧ t < xs.length
def NValuesAt (N : Addr) : List D → Sl → Prop := fun ds r => ∃ s v w t, NetOk s v ∧ fits s w t ∧ ds = [netD N s v, .dct (wdD w), .int t] ∧ r = .od (numD (valsAt s v w t))
def NValue (N : Addr) : List D → Sl → Prop := fun ds r => ∃ s v h w x t, NetOk s v ∧ WdOk s h w ∧ x ∈ nds s v ∧ 0 ≤ t ∧ t ≤ h ∧ ds = [netD N s v, .int h, .dct (wdD w), .str x, .int t] ∧ r = .sh (.int (((valsAt s v w t).get? x).getD 0))
theorem WdOk.fits {s : Srcs} {h : Int} {w : Wd} (q : WdOk s h w) {t : Int} (h0 : 0 ≤ t) (h1 : t ≤ h) : KX.fits s w t := by
  refine ⟨h0, fun x hx => ?_⟩
  have := q.ok
  unfold worldB at this
  have h2 := (Bool.and_eq_true_iff.mp this).2
  have h3 := List.all_eq_true.mp h2 x hx
  unfold srcB at h3
  cases e : aget w x.1 with
  | none => rw [e] at h3; cases h3
  | some xs =>
    rw [e] at h3
    have h4 := of_decide_eq_true (Bool.and_eq_true_iff.mp h3).1
    exact ⟨xs, rfl, by omega⟩
theorem at_nth {xs : List Int} {t : Int} (h0 : 0 ≤ t) (h1 : t < xs.length) : atI (xs.map D.int) t = some (.int (nthI xs t)) := by
  obtain ⟨n, rfl⟩ := Int.eq_ofNat_of_zero_le h0
  have hn : n < xs.length := by omega
  refine atI_nat ?_
  rw [List.getElem?_map, List.getElem?_eq_getElem hn]
  simp [nthI, List.getElem?_eq_getElem hn]
section
variable {P : Program} {w : World} {K : PySem.W.Frag} {mg : Str → Option Value} {base : Heap} {N : Addr}
end
end KX
set_option Elab.async false
set_option linter.all false
set_option maxRecDepth 100000
set_option maxHeartbeats 1000000
namespace KX
open PySem L2 PL
def refr (v : Vws) (w : Wd) (kn : Nums) (x : Str) (t : Int) : Int := match aget v x with
  | some p => p.1.val fun y => (kn.get? y).getD 0
  | none => nthI ((aget w x).getD []) t
def stepH (v : Vws) (w : Wd) (t : Int) (pl : Pl) (kn : Nums) : Nums := pl.foldl (fun kn r => if r.1 = t then kn.put r.2 (refr v w kn r.2 t) else kn) kn
def heldAt (s : Srcs) (v : Vws) (w : Wd) (pl : Pl) : Nat → Nums
  | 0 => valsAt s v w 0
  | n + 1 => stepH v w (1 + (n : Int)) pl (heldAt s v w pl n)
def rowsD (s : Srcs) (v : Vws) (w : Wd) (pl : Pl) (n : Nat) : List D := (List.range n).map fun t => .dct (numD (heldAt s v w pl t))
def ansD (s : Srcs) (v : Vws) (w : Wd) (pl : Pl) (q : Int × Str × Int) : D :=
  .tup [.int (((heldAt s v w pl q.1.toNat).get? q.2.1).getD 0), .int (absI (((heldAt s v w pl q.1.toNat).get? q.2.1).getD 0 - ((valsAt s v w q.1).get? q.2.1).getD 0))]
def NRefreshed (N : Addr) : List D → Sl → Prop := fun ds r => ∃ s v w kn x t, NetOk s v ∧ Cov kn (nds s v) ∧ fits s w t ∧ x ∈ nds s v ∧ ds = [netD N s v, .dct (wdD w), .dct (numD kn), .str x, .int t] ∧ r = .sh (.int (refr v w kn x t))
def NCaches (N : Addr) : List D → Sl → Prop := fun ds r => ∃ s v h w pl t, NetOk s v ∧ WdOk s h w ∧ PlanOk (nds s v) h pl ∧ ds = [netD N s v, .int h, .dct (wdD w), seqD t (pl.map refD)] ∧ r = .ol (rowsD s v w pl (h.toNat + 1))
def NAnswers (N : Addr) : List D → Sl → Prop := fun ds r => ∃ s v h w pl t qs t', NetOk s v ∧ WdOk s h w ∧ PlanOk (nds s v) h pl ∧ QrysOk (nds s v) h qs ∧ ds = [netD N s v, .int h, .dct (wdD w), seqD t (pl.map refD), seqD t' (qs.map qryD)] ∧ r = .ol (qs.map (ansD s v w pl))
theorem okV_ins : ∀ {v : Vws} {seen free : List Str}, (∀ x ∈ free, x ∈ seen) → okV seen free v → ∀ x ∈ v, ∀ y ∈ x.2.1.ins, y ∈ seen ++ v.map (·.1)
  | [], _, _, _, _, x, h => by cases h
  | (n, f, c) :: r, seen, free, hf, o, x, hx => by
    simp only [okV] at o
    intro y hy
    rcases List.mem_cons.mp hx with z | z
    · subst z
      exact List.mem_append_left _ (hf y (o.2.2.1 y hy))
    · have := okV_ins (v := r) (seen := seen ++ [n]) (fun x hx => by
        rcases List.mem_append.mp hx with z | z
        · exact List.mem_append_left _ (hf x (List.mem_filter.mp z).1)
        · exact List.mem_append_right _ z) o.2.2.2 x z y hy
      rw [List.append_assoc] at this
      exact this
theorem cov_in {kn : Nums} {l : List Str} (h : Cov kn l) {x : Str} (hx : x ∈ l) (n : Int) : Cov (kn.put x n) l := fun y => by
  rw [get_put]
  by_cases z : y = x
  · subst z; simp [hx]
  · rw [if_neg z, h y]
theorem len_in {kn : Nums} {l : List Str} (h : Cov kn l) {x : Str} (hx : x ∈ l) (n : Int) : (kn.put x n).length = kn.length := by
  unfold Nums.put
  rw [if_pos (by rw [h x]; simpa using hx), List.length_map]
theorem step_cov {v : Vws} {w : Wd} {t : Int} {l : List Str} : ∀ {pl : Pl} {kn : Nums}, (∀ r ∈ pl, r.2 ∈ l) → Cov kn l → Cov (stepH v w t pl kn) l ∧ (stepH v w t pl kn).length = kn.length
  | [], kn, _, h => ⟨h, rfl⟩
  | a :: r, kn, hp, h => by
    have hr : ∀ x ∈ r, x.2 ∈ l := fun x hx => hp x (List.mem_cons_of_mem _ hx)
    have ha := hp a List.mem_cons_self
    simp only [stepH, List.foldl_cons]
    by_cases z : a.1 = t
    · rw [if_pos z]
      obtain ⟨q1, q2⟩ := step_cov (t := t) (v := v) (w := w) hr (cov_in h ha (refr v w kn a.2 t))
      rw [len_in h ha] at q2
      exact ⟨q1, q2⟩
    · rw [if_neg z]
      exact step_cov hr h
theorem held_cov {s : Srcs} {v : Vws} {w : Wd} {pl : Pl} (hp : ∀ r ∈ pl, r.2 ∈ nds s v) : ∀ n, Cov (heldAt s v w pl n) (nds s v) ∧ (heldAt s v w pl n).length = (valsAt s v w 0).length
  | 0 => ⟨cov_all, rfl⟩
  | n + 1 => by
    obtain ⟨q1, q2⟩ := held_cov hp n
    obtain ⟨q3, q4⟩ := step_cov (v := v) (w := w) (t := 1 + (n : Int)) hp q1
    exact ⟨q3, q4.trans q2⟩
theorem step_succ (v : Vws) (w : Wd) (t : Int) (pl : Pl) (kn : Nums) (n : Nat) (x : Int × Str) (h : pl[n]? = some x) : stepH v w t (pl.take (n + 1)) kn = if x.1 = t then (stepH v w t (pl.take n) kn).put x.2 (refr v w (stepH v w t (pl.take n) kn) x.2 t) else stepH v w t (pl.take n) kn := by
  unfold stepH
  rw [List.take_add_one, h, List.foldl_append]
  rfl
section
variable {P : Program} {w : World} {K : PySem.W.Frag} {mg : Str → Option Value} {base : Heap} {N : Addr}
end
end KX
set_option Elab.async false
set_option linter.all false
set_option maxRecDepth 100000
set_option maxHeartbeats 1000000
namespace KX
open PySem L2 PL
def primesL : List Int := [1000003, 1000033, 1000037, 1000039, 1000081, 1000099, 1000117, 1000121, 1000133, 1000151, 1000159, 1000171, 1000183, 1000187, 1000193, 1000199]
def drawI (cell k many : Int) : Int := (cell * 48271 + k * 69621) % nthI primesL (k % 16) % many
def bigI : Int := 10 ^ 18
def FDraw : List D → Sl → Prop := fun ds r => ∃ cell k many, 0 < many ∧ many < 2 ^ 30 ∧ ds = [.int cell, .int k, .int many] ∧ r = .sh (.int (drawI cell k many))
theorem primes_pos (k : Int) : 0 < nthI primesL (k % 16) ∧ nthI primesL (k % 16) < 1073741824 := by
  obtain ⟨n, hn⟩ := Int.eq_ofNat_of_zero_le (show 0 ≤ k % 16 by omega)
  have h16 : n < 16 := by omega
  rw [hn]
  have : ∀ n : Nat, n < 16 → 0 < nthI primesL (n : Int) ∧ nthI primesL (n : Int) < 1073741824 := by decide
  exact this n h16
theorem absI_pos (i : Int) : 0 ≤ absI i := by
  unfold absI
  split <;> omega
theorem drawI_at (cell k : Int) {many : Int} (h : 0 < many) : 0 ≤ drawI cell k many ∧ drawI cell k many < many := ⟨Int.emod_nonneg _ (by omega), Int.emod_lt_of_pos _ h⟩
theorem aget_nd {α : Type} : ∀ {l : List (Str × α)}, (l.map (·.1)).Nodup → ∀ x ∈ l, aget l x.1 = some x.2
  | (y, a) :: r, h, x, hx => by
    rw [List.map_cons, List.nodup_cons] at h
    simp only [aget]
    rcases List.mem_cons.mp hx with z | z
    · subst z; rw [if_pos rfl]
    · rw [if_neg (fun e => h.1 (by rw [e]; exact List.mem_map.mpr ⟨x, z, rfl⟩)), aget_nd h.2 x z]
theorem look_src (s : Srcs) (x : Str) : (look (srcD s) (Sum.inr x)).isSome = decide (x ∈ s.map (·.1)) := by
  have := look_map (fun (p : Int × Int) => D.tup [.int p.1, .int p.2]) s x
  unfold srcD
  rw [this, Option.isSome_map, aget_isSome]
def netp (s : Srcs) (v : Vws) : D := .tup [.dct (srcD s), .dct (vwD v)]
def HRI (X : Cx) (sts : List Stmt) (ρ : Rh) (r : Sl) (l' : List D) : Prop := ∃ ρ', HS X sts ρ (.rt r ρ') ∧ ρ'[0]? = some (some (.io l'))
theorem hri_cons {X : Cx} {st : Stmt} {rest : List Stmt} {ρ ρ1 : Rh} {r : Sl} {l' : List D} (h : HS1 X st ρ (.nx ρ1)) (hr : HRI X rest ρ1 r l') : HRI X (st :: rest) ρ r l' := let ⟨ρ', q, e⟩ := hr; ⟨ρ', hs_cons h q, e⟩
theorem hri_ret {X : Cx} {e : Expr} {pos : Pos} {rest : List Stmt} {ρ ρ' : Rh} {r : Sl} {l' : List D} (h : HE X e ρ r ρ') (q : ρ'[0]? = some (some (.io l'))) : HRI X (.Return (some e) pos :: rest) ρ r l' := ⟨ρ', hs_stop (hs_ret h) (fun _ z => by cases z), q⟩
theorem keys_all (s : Srcs) (v : Vws) : keysD (srcD s) ++ keysD (vwD v) = (nds s v).map D.str := by
  simp only [keysD, srcD, vwD, nds, List.map_append, List.map_map]
  rfl
theorem hri_share {X : Cx} {sts : List Stmt} {ρ : Rh} {s r : Sl} {l' : List D} (i : Nat) (hi : ρ[i]? = some (some s)) (ho : s.own = true) (h : HRI X sts (ρ.set i (some (.sh s.data))) r l') : HRI X sts ρ r l' := let ⟨ρ', q, e⟩ := h; ⟨ρ', hs_share i hi ho q, e⟩
def nthS (ns : List Str) (i : Int) : Str := ns[i.toNat]?.getD ""
theorem at_nthS {ns : List Str} {t : Int} (h0 : 0 ≤ t) (h1 : t < ns.length) : atI (ns.map D.str) t = some (.str (nthS ns t)) := by
  obtain ⟨n, rfl⟩ := Int.eq_ofNat_of_zero_le h0
  have hn : n < ns.length := by omega
  refine atI_nat ?_
  rw [List.getElem?_map, List.getElem?_eq_getElem hn]
  simp [nthS, List.getElem?_eq_getElem hn]
theorem nput_new {kn : Nums} {x : Str} (h : kn.get? x = none) (n : Int) : kn.put x n = kn ++ [(x, n)] := by
  unfold Nums.put
  rw [if_neg (by rw [h]; simp)]
theorem nd_take {l : List Str} (h : l.Nodup) {n : Nat} {x : Str} (e : l[n]? = some x) : x ∉ l.take n := fun q => by
  obtain ⟨k, hk, e1⟩ := List.mem_iff_getElem.mp q
  rw [List.length_take] at hk
  rw [List.getElem_take] at e1
  obtain ⟨hn, e2⟩ := List.getElem?_eq_some_iff.mp e
  have := (List.getElem_inj h).mp (e1.trans e2.symm)
  omega
theorem cov_none {kn : Nums} {l : List Str} (h : Cov kn l) {x : Str} (hx : x ∉ l) : kn.get? x = none := by
  have := h x
  rw [decide_eq_false hx] at this
  simpa using this
def Sd (n : Nat) (d : D) : Prop := okD d = true ∧ PyData.canLay0 (pdD d) = true ∧ PyData.depth (pdD d) ≤ n
theorem sd_all {n : Nat} : ∀ {l : List D}, (∀ d ∈ l, Sd n d) → okL l = true ∧ PyData.canLayAll0 (pdL l) = true ∧ PyData.depthAll (pdL l) ≤ n
  | [], _ => ⟨rfl, rfl, Nat.zero_le _⟩
  | d :: r, h => by
    obtain ⟨h1, h2, h3⟩ := h d List.mem_cons_self
    obtain ⟨h4, h5, h6⟩ := sd_all fun x hx => h x (List.mem_cons_of_mem _ hx)
    refine ⟨by simp only [okL, h1, h4]; rfl, by simp only [pdL, PyData.canLayAll0, h2, h5]; rfl, ?_⟩
    simp only [pdL, PyData.depthAll]
    omega
theorem sd_tup {n : Nat} {l : List D} (h : ∀ d ∈ l, Sd n d) : Sd (n + 1) (.tup l) := by
  obtain ⟨h1, h2, h3⟩ := sd_all h
  refine ⟨by simp only [okD, h1], by simp only [pdD, PyData.canLay0, h2], ?_⟩
  simp only [pdD, PyData.depth]
  omega
theorem sd_lst {n : Nat} {l : List D} (h : ∀ d ∈ l, Sd n d) : Sd (n + 1) (.lst l) := by
  obtain ⟨h1, h2, h3⟩ := sd_all h
  refine ⟨by simp only [okD, h1], by simp only [pdD, PyData.canLay0, h2], ?_⟩
  simp only [pdD, PyData.depth]
  omega
theorem sd_int {n : Nat} (i : Int) : Sd n (.int i) := ⟨rfl, rfl, Nat.zero_le _⟩
theorem letters_small : ∀ c ∈ Letters.cps.toList, c < 0x110000 := by decide +kernel
theorem sd_name {n : Nat} {x : Str} (h : NameOk x) : Sd n (.str x) := by
  refine ⟨rfl, ?_, Nat.zero_le _⟩
  simp only [pdD, PyData.canLay0]
  show x.cps.all (fun c => decide (c < 0x110000)) = true
  rw [← Array.all_toList, List.all_eq_true]
  intro c hc
  exact decide_eq_true (letters_small c (h.all c hc))
theorem Sd.mono {n m : Nat} {d : D} (h : Sd n d) (l : n ≤ m) : Sd m d := ⟨h.1, h.2.1, Nat.le_trans h.2.2 l⟩
theorem Sd.shaped {n : Nat} {d : D} (h : Sd n d) (l : n ≤ 64) : SeqAt.shaped (pdD d) = true := by
  unfold SeqAt.shaped
  rw [h.2.1, Bool.true_and]
  exact decide_eq_true (Nat.le_trans h.2.2 l)
theorem sd2 {n : Nat} {a b : D} (ha : Sd n a) (hb : Sd n b) : Sd (n + 1) (.tup [a, b]) := sd_tup fun d hd => by
  rcases List.mem_cons.mp hd with z | z
  · subst z; exact ha
  · rw [List.mem_singleton.mp z]; exact hb
theorem sd_kind (f : Fm) {n : Nat} : Sd n (.str f.kind) := by
  have h1 : (Str.ofString "sum").cps.all (fun c => decide (c < 0x110000)) = true := by decide +kernel
  have h2 : (Str.ofString "min").cps.all (fun c => decide (c < 0x110000)) = true := by decide +kernel
  have h3 : (Str.ofString "max").cps.all (fun c => decide (c < 0x110000)) = true := by decide +kernel
  cases f with
  | sum ts => exact ⟨rfl, h1, Nat.zero_le _⟩
  | mn xs => exact ⟨rfl, h2, Nat.zero_le _⟩
  | mx xs => exact ⟨rfl, h3, Nat.zero_le _⟩
theorem sd_fm {f : Fm} (h : FmOk f) : Sd 3 f.d := by
  unfold Fm.d
  refine sd2 (sd_kind f) ?_
  cases f with
  | sum ts =>
    refine sd_tup fun d hd => ?_
    obtain ⟨t, ht, rfl⟩ := List.mem_map.mp hd
    exact sd2 (sd_int _) (sd_name (h.names _ (List.mem_map.mpr ⟨t, ht, rfl⟩)))
  | mn xs =>
    refine sd_tup fun d hd => ?_
    obtain ⟨x, hx, rfl⟩ := List.mem_map.mp hd
    exact sd_name (h.names x hx)
  | mx xs =>
    refine sd_tup fun d hd => ?_
    obtain ⟨x, hx, rfl⟩ := List.mem_map.mp hd
    exact sd_name (h.names x hx)
theorem sd_srcs {s : Srcs} (h : ∀ x ∈ s, SrcOk x) : Sd 5 (.tup (itemsD (srcD s))) := sd_tup fun d hd => by
  obtain ⟨q, hq, rfl⟩ := List.mem_map.mp hd
  obtain ⟨x, hx, rfl⟩ := List.mem_map.mp hq
  exact sd2 (sd_name (h x hx).name) (sd2 (sd_int _) (sd_int _))
theorem sd_vws {v : Vws} (h : ∀ x ∈ v, VwOk x) : Sd 6 (.tup (itemsD (vwD v))) := sd_tup fun d hd => by
  obtain ⟨q, hq, rfl⟩ := List.mem_map.mp hd
  obtain ⟨x, hx, rfl⟩ := List.mem_map.mp hq
  exact sd2 (sd_name (h x hx).name) (sd2 (sd_fm (h x hx).fm) (sd_int _))
def NEq (N : Addr) : List D → Sl → Prop := fun ds r => ∃ s v, NetOk s v ∧ ds = [netD N s v, netD N s v] ∧ r = yes
theorem put_src {s : Srcs} {x : Str} (h : x ∉ s.map (·.1)) (a b : Int) : putD (srcD s) (Sum.inr x) (.tup [.int a, .int b]) = srcD (s ++ [(x, a, b)]) := by
  unfold putD
  have : (look (srcD s) (Sum.inr x)).isSome = false := by
    rw [look_src]
    simpa using h
  rw [if_neg (by rw [this]; exact Bool.false_ne_true)]
  simp [srcD]
theorem put_vw {v : Vws} {x : Str} (h : x ∉ v.map (·.1)) (f : Fm) (c : Int) : putD (vwD v) (Sum.inr x) (.tup [f.d, .int c]) = vwD (v ++ [(x, f, c)]) := by
  unfold putD
  have : (look (vwD v) (Sum.inr x)).isSome = false := by
    rw [look_vw, Option.isSome_map, aget_isSome]
    simpa using h
  rw [if_neg (by rw [this]; exact Bool.false_ne_true)]
  simp [vwD]
theorem cut2_strs (l : List Str) (a : Nat) {t : Int} (h : 0 ≤ t) : cutD (l.map D.str) (some (a : Int)) (some ((a : Int) + t)) = ((l.drop a).take t.toNat).map D.str := by
  obtain ⟨n, rfl⟩ := Int.eq_ofNat_of_zero_le h
  unfold cutD
  rw [show ((a : Int) + (n : Int)) = ((a + n : Nat) : Int) by omega, _root_.HT.sIx_nat, _root_.HT.sIx_nat, ← List.map_drop, ← List.map_take, List.length_map]
  congr 1
  rw [Int.toNat_natCast]
  by_cases h : a ≤ l.length
  · rw [Nat.min_eq_left h]
    by_cases h2 : a + n ≤ l.length
    · rw [Nat.min_eq_left h2]; congr 1; omega
    · rw [Nat.min_eq_right (by omega), List.take_of_length_le (by rw [List.length_drop]; omega), List.take_of_length_le (by rw [List.length_drop]; omega)]
  · have e1 : min a l.length = l.length := Nat.min_eq_right (by omega)
    rw [e1, List.drop_of_length_le (show l.length ≤ a by omega), List.drop_length]
    simp
theorem drop_next {α : Type} : ∀ (l : List α) (i : Nat), l.drop (i + 1) = (l.drop i).drop 1
  | [], i => by simp
  | a :: r, 0 => rfl
  | a :: r, i + 1 => by
    simp only [List.drop_succ_cons]
    exact drop_next r i
theorem cut_strs (l : List Str) (n : Nat) : cutD (l.map D.str) none (some (n : Int)) = (l.take n).map D.str := by
  unfold cutD
  rw [_root_.HT.sIx_none, _root_.HT.sIx_nat, List.drop_zero, Nat.sub_zero, ← List.map_take, List.length_map]
  congr 1
  by_cases h : n ≤ l.length
  · rw [Nat.min_eq_left h]
  · rw [Nat.min_eq_right (by omega), List.take_of_length_le (Nat.le_refl _), List.take_of_length_le (by omega)]
theorem okV_congr : ∀ {v : Vws} {seen free free' : List Str}, (∀ x, x ∈ free ↔ x ∈ free') → okV seen free v → okV seen free' v
  | [], _, _, _, _, _ => trivial
  | (n, f, c) :: r, seen, free, free', h, o => by
    simp only [okV] at o ⊢
    refine ⟨o.1, o.2.1, fun x hx => (h x).mp (o.2.2.1 x hx), okV_congr (fun x => ?_) o.2.2.2⟩
    simp only [List.mem_append, List.mem_filter, h x]
theorem at_range {l : List Int} {n : Nat} (hl : l.length = n) {P : Int → Prop} (h : ∀ x ∈ l, P x) {t : Int} (h0 : 0 ≤ t) (h1 : t < n) : P (nthI l t) := by
  have hlt : t.toNat < l.length := by omega
  unfold nthI
  rw [List.getElem?_eq_getElem hlt]
  exact h _ (List.getElem_mem hlt)
theorem name_ok (x : Str) (h : (decide (1 ≤ x.length) && decide (x.length ≤ 8) && x.cps.toList.all fun c => decide (c ∈ Letters.cps.toList)) = true) : NameOk x := by
  simp only [Bool.and_eq_true, decide_eq_true_eq] at h
  exact ⟨h.1.1, h.1.2, fun c hc => of_decide_eq_true (List.all_eq_true.mp h.2 c hc)⟩
theorem hri_of {X : Cx} {sts rest : List Stmt} {ρ ρ1 : Rh} {r : Sl} {l' : List D} (h : ∀ out : Out, HS X rest ρ1 out → HS X sts ρ out) (hr : HRI X rest ρ1 r l') : HRI X sts ρ r l' := let ⟨ρ', q, e⟩ := hr; ⟨ρ', h _ q, e⟩
theorem hri_when {X : Cx} {c : Expr} {A rest : List Stmt} {pos : Pos} {ρ : Rh} {r : Sl} {l' : List D} (h1 : HT X c ρ false ρ) (h2 : HRI X rest ρ r l') : HRI X (.If c A [] pos :: rest) ρ r l' := hri_cons (hs_if h1 (fun z => by cases z) fun _ => hs_nil) h2
theorem num_isSome : ∀ (kn : Nums) (x : Str), (kn.get? x).isSome = decide (x ∈ kn.map (·.1))
  | [], x => rfl
  | (y, n) :: r, x => by
    simp only [Nums.get?, List.map_cons]
    by_cases z : y = x
    · subst z; simp
    · rw [if_neg z, num_isSome r x]; simp [show ¬ x = y from fun q => z q.symm]
theorem keys_new {kn : Nums} {x : Str} {n : Int} (h : x ∉ kn.map (·.1)) : (kn.put x n).map (·.1) = kn.map (·.1) ++ [x] := by
  rw [nput_new (by
    cases e : kn.get? x with
    | none => rfl
    | some k => have := num_isSome kn x; rw [e] at this; exact absurd (of_decide_eq_true this.symm) h)]
  simp
theorem keys_in {kn : Nums} {x : Str} {n : Int} (h : x ∈ kn.map (·.1)) : (kn.put x n).map (·.1) = kn.map (·.1) := by
  unfold Nums.put
  rw [if_pos (by rw [num_isSome]; simpa using h), List.map_map]
  refine List.map_congr_left fun y _ => ?_
  simp only [Function.comp_apply]
  split <;> rfl
theorem keys_vals : ∀ {v : Vws} {kn : Nums}, (∀ x ∈ v, x.1 ∉ kn.map (·.1)) → (v.map (·.1)).Nodup → (valsFrom kn v).map (·.1) = kn.map (·.1) ++ v.map (·.1)
  | [], kn, _, _ => by simp [valsFrom]
  | a :: r, kn, h, hn => by
    rw [List.map_cons, List.nodup_cons] at hn
    have h1 := keys_new (n := a.2.1.val fun y => (kn.get? y).getD 0) (h a List.mem_cons_self)
    have := keys_vals (v := r) (kn := kn.put a.1 (a.2.1.val fun y => (kn.get? y).getD 0)) (fun x hx => by
      rw [h1]
      intro q
      rcases List.mem_append.mp q with z | z
      · exact h x (List.mem_cons_of_mem _ hx) z
      · exact hn.1 (List.mem_map.mpr ⟨x, hx, List.mem_singleton.mp z⟩)) hn.2
    rw [h1] at this
    simpa [valsFrom] using this
theorem nums_ext : ∀ {a b : Nums}, a.map (·.1) = b.map (·.1) → (a.map (·.1)).Nodup → (∀ x ∈ a.map (·.1), a.get? x = b.get? x) → a = b
  | [], [], _, _, _ => rfl
  | [], _ :: _, h, _, _ => by cases h
  | _ :: _, [], h, _, _ => by cases h
  | (x, n) :: a, (y, m) :: b, h, hn, hg => by
    simp only [List.map_cons, List.cons.injEq] at h
    obtain ⟨rfl, h⟩ := h
    rw [List.map_cons, List.nodup_cons] at hn
    have h0 := hg x List.mem_cons_self
    simp only [Nums.get?, if_pos] at h0
    cases h0
    rw [nums_ext h hn.2 fun z hz => by
      have := hg z (List.mem_cons_of_mem _ hz)
      have ne : ¬ x = z := fun e => hn.1 (e ▸ hz)
      simpa only [Nums.get?, if_neg ne] using this]
theorem get_map (g : Str → Int) : ∀ {l : List Str} {x : Str}, x ∈ l → Nums.get? (l.map fun x => (x, g x)) x = some (g x)
  | y :: r, x, h => by
    simp only [List.map_cons, Nums.get?]
    by_cases z : y = x
    · subst z; rw [if_pos rfl]
    · rw [if_neg z]
      exact get_map g ((List.mem_cons.mp h).resolve_left fun e => z e.symm)
theorem absI_le {a d : Int} (h1 : -d ≤ a) (h2 : a ≤ d) : absI a ≤ d := by unfold absI; split <;> omega
theorem nthS_mem {ns : List Str} {i : Int} (h0 : 0 ≤ i) (h1 : i < ns.length) : nthS ns i ∈ ns := by
  obtain ⟨n, rfl⟩ := Int.eq_ofNat_of_zero_le h0
  have hn : n < ns.length := by omega
  simp only [nthS, Int.toNat_natCast, List.getElem?_eq_getElem hn, Option.getD_some]
  exact List.getElem_mem _
theorem node_names {s : Srcs} {v : Vws} (h : NetOk s v) : ∀ x ∈ nds s v, NameOk x := fun x hx => by
  rcases List.mem_append.mp hx with z | z
  · obtain ⟨y, hy, rfl⟩ := List.mem_map.mp z
    exact (h.src.ok y hy).name
  · obtain ⟨y, hy, rfl⟩ := List.mem_map.mp z
    exact (h.vw y hy).name
theorem sd_names {l : List Str} (h : ∀ x ∈ l, NameOk x) : Sd 2 (.lst (l.map D.str)) := sd_lst fun d hd => by
  obtain ⟨x, hx, rfl⟩ := List.mem_map.mp hd
  exact sd_name (h x hx)
theorem sd_ints (l : List Int) : Sd 2 (.lst (l.map D.int)) := sd_lst fun d hd => by
  obtain ⟨x, hx, rfl⟩ := List.mem_map.mp hd
  exact sd_int x
theorem keys_inr {l : List Str} (h : l.Nodup) : (l.map (fun x => (Sum.inr x : Key))).Nodup := List.Pairwise.map _ (fun a b h z => h (Sum.inr.inj z)) h
theorem srcD_nd {s : Srcs} (h : (s.map (·.1)).Nodup) : ((srcD s).map (·.1)).Nodup := by
  have : (srcD s).map (·.1) = (s.map (·.1)).map (fun x => (Sum.inr x : Key)) := by simp [srcD, Function.comp_def]
  rw [this]
  exact keys_inr h
theorem vwD_nd {v : Vws} (h : (v.map (·.1)).Nodup) : ((vwD v).map (·.1)).Nodup := by
  have : (vwD v).map (·.1) = (v.map (·.1)).map (fun x => (Sum.inr x : Key)) := by simp [vwD, Function.comp_def]
  rw [this]
  exact keys_inr h
theorem numD_nd {kn : Nums} (h : (kn.map (·.1)).Nodup) : ((numD kn).map (·.1)).Nodup := by
  have : (numD kn).map (·.1) = (kn.map (·.1)).map (fun x => (Sum.inr x : Key)) := by simp [numD, Function.comp_def]
  rw [this]
  exact keys_inr h
theorem srcD_sh {s : Srcs} : ∀ p ∈ srcD s, okD p.2 = true ∧ SeqAt.shaped (pdD p.2) = true := fun p hp => by
  obtain ⟨x, _, rfl⟩ := List.mem_map.mp hp
  have := sd2 (sd_int (n := 1) x.2.1) (sd_int x.2.2)
  exact ⟨this.1, this.shaped (by decide)⟩
theorem vwD_sh {v : Vws} (h : ∀ x ∈ v, VwOk x) : ∀ p ∈ vwD v, okD p.2 = true ∧ SeqAt.shaped (pdD p.2) = true := fun p hp => by
  obtain ⟨x, hx, rfl⟩ := List.mem_map.mp hp
  have := sd2 (sd_fm (h x hx).fm) (sd_int x.2.2)
  exact ⟨this.1, this.shaped (by decide)⟩
theorem numD_sh {kn : Nums} : ∀ p ∈ numD kn, okD p.2 = true ∧ SeqAt.shaped (pdD p.2) = true := fun p hp => by
  obtain ⟨x, _, rfl⟩ := List.mem_map.mp hp
  have := sd_int (n := 1) x.2
  exact ⟨this.1, this.shaped (by decide)⟩
theorem hr_share {X : Cx} {sts : List Stmt} {ρ : Rh} {s r : Sl} (i : Nat) (hi : ρ[i]? = some (some s)) (ho : s.own = true) (h : HR X sts (ρ.set i (some (.sh s.data))) r) : HR X sts ρ r := let ⟨ρ', q⟩ := h; ⟨ρ', hs_share i hi ho q⟩
end KX
set_option Elab.async false
set_option linter.all false
set_option maxRecDepth 100000
set_option maxHeartbeats 1000000
namespace KX
open PySem L2 PL
abbrev sLawCellAt : Stmt := top 56
theorem scLawCellAt : FnScope ["_law_script", "_law_k"] ["_law_script", "_law_k"] (defScope sLawCellAt) := ⟨rfl, rfl, rfl, by decide +kernel, rfl, by decide +kernel, by decide +kernel⟩
abbrev sLawDraw : Stmt := top 57
theorem scLawDraw : FnScope ["_law_cell", "_law_k", "_law_below", "_law_primes"] ["_law_cell", "_law_k", "_law_below"] (defScope sLawDraw) := ⟨rfl, rfl, rfl, by decide +kernel, rfl, by decide +kernel, by decide +kernel⟩
abbrev sLawNumber : Stmt := top 58
theorem scLawNumber : FnScope ["_law_cell", "_law_k", "_law_below", "_law_power", "_law_times", "_law_remains", "_law_small"] ["_law_cell", "_law_k", "_law_below"] (defScope sLawNumber) := ⟨rfl, rfl, rfl, by decide +kernel, rfl, by decide +kernel, by decide +kernel⟩
abbrev sLawNext : Stmt := top 59
theorem scLawNext : FnScope ["_law_state", "_law_below", "_law_at", "_law_cell"] ["_law_state", "_law_below"] (defScope sLawNext) := ⟨rfl, rfl, rfl, by decide +kernel, rfl, by decide +kernel, by decide +kernel⟩
abbrev sLawPick : Stmt := top 60
theorem scLawPick : FnScope ["_law_state", "_law_things"] ["_law_state", "_law_things"] (defScope sLawPick) := ⟨rfl, rfl, rfl, by decide +kernel, rfl, by decide +kernel, by decide +kernel⟩
/-! ### numbers out of the script -/
def stD (ws : List Int) (b k : Int) : List D := [.klst (ws.map D.int), .int b, .int k]
def cellV (ws : List Int) (i : Int) : Int := if i < ws.length then nthI ws i else 0
def numV (cell k m : Int) : Int :=
  if 0 < (cell - bigI) / 1009 ^ (k % 24).toNat then (cell - bigI) / 1009 ^ (k % 24).toNat % 1009 % m
  else drawI ((cell % 1000003 + 977 * k) * (cell % 1000003 + 31 * k + 5)) (k % 9 + 1) 999983 % m
def nextV (ws : List Int) (b k m : Int) : Int := numV (cellV ws (b + (k + 1) / 12) + 31 * ((k + 1) / 12)) ((k + 1) % 12 + 1) m
def pickV (ws : List Int) (b k : Int) (items : List D) : D := items[(nextV ws b k items.length).toNat]?.getD .non
theorem numV_at (cell k : Int) {m : Int} (h : 0 < m) : 0 ≤ numV cell k m ∧ numV cell k m < m := by
  unfold numV
  split <;> exact ⟨Int.emod_nonneg _ (by omega), Int.emod_lt_of_pos _ h⟩
theorem nextV_at (ws : List Int) (b k : Int) {m : Int} (h : 0 < m) : 0 ≤ nextV ws b k m ∧ nextV ws b k m < m := numV_at _ _ h
def LCell : List D → Sl → Prop := fun ds r => ∃ ws i, 0 ≤ i ∧ ds = [.klst (ws.map .int), .int i] ∧ r = .sh (.int (cellV ws i))
def LNumber : List D → Sl → Prop := fun ds r => ∃ cell k m, 0 ≤ k ∧ k ≤ 12 ∧ 0 < m ∧ m < 2 ^ 30 ∧ ds = [.int cell, .int k, .int m] ∧ r = .sh (.int (numV cell k m))
def LNext : List D → List D → Sl → List D → Prop := fun l ds r l' => ∃ (ws : List Int) (b k m : Int), 0 ≤ b ∧ 0 ≤ k ∧ 0 < m ∧ m < 2 ^ 30 ∧ l = stD ws b k ∧ ds = [.int m] ∧ r = .sh (.int (nextV ws b k m)) ∧ l' = stD ws b (k + 1)
def LPick : List D → List D → Sl → List D → Prop := fun l ds r l' => ∃ (ws : List Int) (b k : Int) (items : List D), 0 ≤ b ∧ 0 ≤ k ∧ 0 < items.length ∧ items.length ≤ 1000 ∧ l = stD ws b k ∧ ds = [.lst items] ∧ r = .sh (pickV ws b k items) ∧ l' = stD ws b (k + 1)
theorem pow_small {k : Int} (h0 : 0 ≤ k) (h12 : k ≤ 12) : 0 < (1009 : Int) ^ k.toNat ∧ ((1009 : Int) ^ k.toNat).natAbs.log2 < 9000 := by
  obtain ⟨n, rfl⟩ := Int.eq_ofNat_of_zero_le h0
  have hn : n ≤ 12 := by omega
  rw [Int.toNat_natCast]
  rcases (show n = 0 ∨ n = 1 ∨ n = 2 ∨ n = 3 ∨ n = 4 ∨ n = 5 ∨ n = 6 ∨ n = 7 ∨ n = 8 ∨ n = 9 ∨ n = 10 ∨ n = 11 ∨ n = 12 by omega) with z | z | z | z | z | z | z | z | z | z | z | z | z <;> subst z <;> decide +kernel
section
variable {P : Program} {w : World} {K : PySem.W.Frag} {mg : Str → Option Value} {base : Heap} {N : Addr}
theorem ok_cell_at {f : Addr} {fd : FuncData} (F : Fun K "_law_cell_at" "_law_cell_at" sLawCellAt f fd) (B : Bl mg) : FnOk P w K mg base CX0 1 f fd ["_law_script", "_law_k"] (spR K LCell) := by
  refine fn_ok F scLawCellAt (fun ds r h => ?_) fun cdv A outer s H E hr ds r h => ?_
  · obtain ⟨a, b, _, rfl, _⟩ := h
    rfl
  · obtain ⟨ws, i, h0, rfl, rfl⟩ := h
    refine hf_r ?_
    refine hr_when (ht_eq (u := decide (i < ws.length)) (ht_cmpG (hg_var 1 rfl) (hg_callB (hga_cons (hg_var 0 rfl) hga_nil) c_lenK (by rfl) B.len PySem.boot_len) v_lt) (by rw [List.length_map])) (fun z => ?_) fun z => ?_
    · have z := of_decide_eq_true z
      unfold cellV
      rw [if_pos z]
      exact hr_ret (he_hg (hg_ixK (hg_var 0 rfl) (hg_var 1 rfl) (at_nth h0 z)))
    · have z := of_decide_eq_false z
      unfold cellV
      rw [if_neg z]
      exact hr_ret (he_hg hg_int)
theorem ok_draw {f : Addr} {fd : FuncData} (F : Fun K "_law_draw" "_law_draw" sLawDraw f fd) : FnOk P w K mg base CX0 1 f fd ["_law_cell", "_law_k", "_law_below"] (spR K FDraw) := by
  refine fn_ok F scLawDraw (fun ds r h => ?_) fun cdv A outer s H E hr ds r h => ?_
  · obtain ⟨a, b, c, _, _, rfl, _⟩ := h
    rfl
  · obtain ⟨cell, k, many, h0, h1, rfl, rfl⟩ := h
    obtain ⟨p1, p2⟩ := primes_pos k
    refine hf_r ?_
    refine hr_cons (hs_set 3 (he_eq (he_tup (hea_cons (he_hg hg_int) (hea_cons (he_hg hg_int) (hea_cons (he_hg hg_int) (hea_cons (he_hg hg_int) (hea_cons (he_hg hg_int) (hea_cons (he_hg hg_int) (hea_cons (he_hg hg_int) (hea_cons (he_hg hg_int) (hea_cons (he_hg hg_int) (hea_cons (he_hg hg_int) (hea_cons (he_hg hg_int) (hea_cons (he_hg hg_int) (hea_cons (he_hg hg_int) (hea_cons (he_hg hg_int) (hea_cons (he_hg hg_int) (hea_cons (he_hg hg_int) hea_nil)))))))))))))))) (Nat.le_of_ble_eq_true rfl)) (show _ = Sl.sh (.tup (primesL.map D.int)) from rfl)) scLawDraw.nd) ?_
    exact hr_ret (he_hg (hg_op (hg_op (hg_op (hg_op (hg_var 0 rfl) hg_int (v_mul (.inr ⟨by omega, by omega⟩))) (hg_op (hg_var 1 rfl) hg_int (v_mul (.inr ⟨by omega, by omega⟩))) v_add) (hg_ix (hg_var 3 rfl) (hg_op (hg_var 1 rfl) hg_int (v_mod (by decide))) rfl (at_nth (by omega) (by show k % 16 < 16; omega))) (v_mod p1)) (hg_var 2 rfl) (v_mod h0)))
theorem ok_number {f : Addr} {fd : FuncData} (F : Fun K "_law_number" "_law_number" sLawNumber f fd) (B : Bl mg) (c1 : Fd P w K mg base 1 "_law_draw" FDraw) : FnOk P w K mg base CX0 2 f fd ["_law_cell", "_law_k", "_law_below"] (spR K LNumber) := by
  refine fn_ok F scLawNumber (fun ds r h => ?_) fun cdv A outer s H E hr ds r h => ?_
  · obtain ⟨a, b, c, _, _, _, _, rfl, _⟩ := h
    rfl
  · obtain ⟨cell, k, m, k0, k12, m0, m1, rfl, rfl⟩ := h
    obtain ⟨p0, p1⟩ := pow_small (k := k % 24) (by omega) (by omega)
    refine hf_r ?_
    refine hr_cons (hs_set 3 (he_hg hg_int) scLawNumber.nd) ?_
    refine hr_cons (hs_for (is := [4]) (hi_range1 (he_hg (hg_op (hg_var 1 rfl) hg_int (v_mod (by decide)))) (by omega) (by omega) (by rfl) B.range) (fun n => [some (.sh (.int cell)), some (.sh (.int k)), some (.sh (.int m)), some (.sh (.int (1009 ^ n))), none, none, none]) rfl fun n d hd => ?_) ?_
    · simp only [rngD, List.getElem?_map, Option.map_eq_some_iff] at hd
      obtain ⟨n', hn', rfl⟩ := hd
      refine ⟨_, hb_name 4 scLawNumber.nd, .inl ?_⟩
      refine hs_le (hs_one (hs_set 3 (he_hg (hg_op (hg_var 3 rfl) hg_int (v_mul (.inr ⟨by decide, by decide⟩)))) scLawNumber.nd)) ?_
      rw [Int.pow_succ]
      exact .s (.s (.s (.s (.w (.s (.s .n))))))
    have e : (rngD 0 (k % 24).toNat).length = (k % 24).toNat := by simp only [rngD, List.length_map, List.length_range]
    rw [e]
    have hp : ((10 : Int) ^ (18 : Int).toNat) = bigI := rfl
    refine hr_cons (hs_set 5 (he_hg (hg_op (hg_op (hg_var 0 rfl) (hg_op hg_int hg_int (v_pow ⟨by decide, by decide, by decide⟩)) v_sub) (hg_var 3 rfl) (v_divW ⟨p0, p1⟩))) scLawNumber.nd) ?_
    rw [hp]
    unfold numV
    refine hr_when (ht_eq (u := decide (0 < (cell - bigI) / 1009 ^ (k % 24).toNat)) (ht_cmpG (hg_var 5 rfl) hg_int v_gt) rfl) (fun z => ?_) fun z => ?_
    · rw [if_pos (of_decide_eq_true z)]
      exact hr_ret (he_hg (hg_op (hg_op (hg_var 5 rfl) hg_int (v_mod (by decide))) (hg_var 2 rfl) (v_mod m0)))
    · rw [if_neg (of_decide_eq_false z)]
      refine hr_cons (hs_set 6 (he_hg (hg_op (hg_var 0 rfl) hg_int (v_mod (by decide)))) scLawNumber.nd) ?_
      have s0 := Int.emod_nonneg cell (show (1000003 : Int) ≠ 0 by decide)
      have s1 := Int.emod_lt_of_pos cell (show (0 : Int) < 1000003 by decide)
      exact hr_ret (he_op (he_call c1 (hr.mono (by decide)) (hea_cons (he_hg (hg_op (hg_op (hg_var 6 rfl) (hg_op hg_int (hg_var 1 rfl) (v_mul (.inl ⟨by decide, by decide⟩))) v_add) (hg_op (hg_op (hg_var 6 rfl) (hg_op hg_int (hg_var 1 rfl) (v_mul (.inl ⟨by decide, by decide⟩))) v_add) hg_int v_add) (v_mul (.inl ⟨by omega, by omega⟩)))) (hea_cons (he_hg (hg_op (hg_op (hg_var 1 rfl) hg_int (v_mod (by decide))) hg_int v_add)) (hea_cons (he_hg hg_int) hea_nil))) ⟨_, _, 999983, by decide, by decide, rfl, rfl⟩) (he_hg (hg_var 2 rfl)) (v_mod m0))
theorem ok_next {f : Addr} {fd : FuncData} (F : Fun K "_law_next" "_law_next" sLawNext f fd) (c1 : Fd P w K mg base 1 "_law_cell_at" LCell) (c2 : Fd P w K mg base 2 "_law_number" LNumber) : FnOk P w K mg base CX0 3 f fd ["_law_state", "_law_below"] (spIo K LNext) := by
  refine fn_okI F scLawNext (fun l ds r l' h => ?_) fun cdv A outer s H E hr l ds r l' h => ?_
  · obtain ⟨a, b, c, d, _, _, _, _, _, rfl, _⟩ := h
    rfl
  · obtain ⟨ws, b, k, m, b0, k0, m0, m1, rfl, rfl, rfl, rfl⟩ := h
    refine (?_ : HRI _ _ _ _ _)
    refine hri_cons (hs_lput (j := 2) 0 (he_hg (hg_op (hg_ix (hg_var 0 rfl) hg_int rfl rfl) hg_int v_add)) rfl rfl hg_int (by show 2 < 3; decide)) ?_
    show HRI _ _ [some (.io (stD ws b (k + 1))), some (.sh (.int m)), none, none] _ _
    refine hri_cons (hs_set 2 (he_hg (hg_op (hg_ix (hg_var 0 rfl) hg_int rfl rfl) hg_int (v_div ⟨by decide, by decide⟩))) scLawNext.nd) ?_
    refine hri_cons (hs_set 3 (he_op (he_call c1 (hr.mono (by decide)) (hea_cons (he_hg (hg_ix (hg_var 0 rfl) hg_int rfl rfl)) (hea_cons (he_hg (hg_op (hg_ix (hg_var 0 rfl) hg_int rfl rfl) (hg_var 2 rfl) v_add)) hea_nil)) ⟨ws, b + (k + 1) / 12, by omega, rfl, rfl⟩) (he_hg (hg_op hg_int (hg_var 2 rfl) (v_mul (.inl ⟨by decide, by decide⟩)))) v_add) scLawNext.nd) ?_
    exact hri_ret (he_call c2 (hr.mono (by decide)) (hea_cons (he_hg (hg_var 3 rfl)) (hea_cons (he_hg (hg_op (hg_op (hg_ix (hg_var 0 rfl) hg_int rfl rfl) hg_int (v_mod (by decide))) hg_int v_add)) (hea_cons (he_hg (hg_var 1 rfl)) hea_nil))) ⟨_, _, m, by omega, by omega, m0, m1, rfl, rfl⟩) rfl
theorem ok_pick {f : Addr} {fd : FuncData} (F : Fun K "_law_pick" "_law_pick" sLawPick f fd) (B : Bl mg) (c1 : Fio P w K mg base 3 "_law_next" LNext) : FnOk P w K mg base CX0 4 f fd ["_law_state", "_law_things"] (spIo K LPick) := by
  refine fn_okI F scLawPick (fun l ds r l' h => ?_) fun cdv A outer s H E hr l ds r l' h => ?_
  · obtain ⟨a, b, c, d, _, _, _, _, _, rfl, _⟩ := h
    rfl
  · obtain ⟨ws, b, k, items, b0, k0, i0, i1, rfl, rfl, rfl, rfl⟩ := h
    have hn := nextV_at ws b k (m := items.length) (by omega)
    refine (?_ : HRI _ _ _ _ _)
    refine hri_ret (he_ix (s := .sh (.lst items)) (he_hg (hg_var 1 rfl)) (he_callIo 0 c1 (hr.mono (by decide)) rfl rfl (hea_cons (he_hg (hg_callB (hga_cons (hg_var 1 rfl) hga_nil) c_lenL (by rfl) B.len PySem.boot_len)) hea_nil) rfl rfl ⟨ws, b, k, items.length, b0, k0, by omega, by omega, rfl, rfl, rfl, rfl⟩) rfl rfl ?_) rfl
    obtain ⟨n, hn'⟩ := Int.eq_ofNat_of_zero_le hn.1
    unfold pickV
    rw [hn', Int.toNat_natCast]
    have hlt : n < items.length := by omega
    rw [List.getElem?_eq_getElem hlt]
    unfold atI
    rw [ixN_n hlt]
    exact List.getElem?_eq_getElem hlt
end
end KX
set_option Elab.async false
set_option linter.all false
set_option maxRecDepth 100000
set_option maxHeartbeats 1000000
namespace KX
open PySem L2 PL
abbrev sLawNetwork : Stmt := top 61
theorem scLawNetwork : FnScope ["_law_state", "_law_most", "_law_name", "_law_free", "_law_sources", "_law_views", "_law_used", "_law_word", "_law_inputs_here", "_law_one"] ["_law_state", "_law_most"] (defScope sLawNetwork) := ⟨rfl, rfl, rfl, by decide +kernel, rfl, by decide +kernel, by decide +kernel⟩
/-! ### the network that is drawn -/
def names3 : List Str := ["a", "b", "c"]
def names2 : List Str := ["v", "w"]
def kindsW : List Str := ["sum", "min", "max", "sum"]
def drW : List Int := [0, 1, 1, 2, 5, 20]
def faW : List Int := [1, 1, -1, 2, -3, 5, -5]
theorem pick_strs (ws : List Int) (b k : Int) {l : List Str} (h : 0 < l.length) : pickV ws b k (l.map D.str) = .str (nthS l (nextV ws b k l.length)) := by
  have hn := nextV_at ws b k (m := l.length) (by omega)
  unfold pickV nthS
  rw [List.length_map]
  obtain ⟨n, hn'⟩ := Int.eq_ofNat_of_zero_le hn.1
  rw [hn', Int.toNat_natCast, List.getElem?_map, List.getElem?_eq_getElem (show n < l.length by omega)]
  rfl
theorem pick_ints (ws : List Int) (b k : Int) {l : List Int} (h : 0 < l.length) : pickV ws b k (l.map D.int) = .int (nthI l (nextV ws b k l.length)) := by
  have hn := nextV_at ws b k (m := l.length) (by omega)
  unfold pickV nthI
  rw [List.length_map]
  obtain ⟨n, hn'⟩ := Int.eq_ofNat_of_zero_le hn.1
  rw [hn', Int.toNat_natCast, List.getElem?_map, List.getElem?_eq_getElem (show n < l.length by omega)]
  rfl
def srcStepW (ws : List Int) (b : Int) (st : Srcs × Int) (x : Str) : Srcs × Int := (st.1 ++ [(x, nthI drW (nextV ws b st.2 6), 1 + nextV ws b (st.2 + 1) 4)], st.2 + 1 + 1)
def srcW (ws : List Int) (b : Int) (l : List Str) (k : Int) : Srcs × Int := l.foldl (srcStepW ws b) ([], k)
def usedW (ws : List Int) (b : Int) (f : List Str) (k : Int) : List Str := (f.drop (nextV ws b k f.length).toNat).take (1 + nextV ws b (k + 1) 3).toNat
def insW (ws : List Int) (b : Int) (f : List Str) (k : Int) : List Str := if nextV ws b (k + 1 + 1 + 1) 2 = 0 then (usedW ws b f k).reverse else usedW ws b f k
def fmW (ws : List Int) (b k w : Int) (ins : List Str) : Fm × Int :=
  if w = 0 ∨ w = 3 then (.sum (ins.mapIdx fun i x => (nthI faW (nextV ws b (k + (i : Nat)) 7), x)), k + (ins.length : Nat)) else (if w = 1 then .mn ins else .mx ins, k)
def vwStepW (ws : List Int) (b : Int) (st : Vws × List Str × Int) (x : Str) : Vws × List Str × Int :=
  (st.1 ++ [(x, (fmW ws b (st.2.2 + 1 + 1 + 1 + 1) (nextV ws b (st.2.2 + 1 + 1) 4) (insW ws b st.2.1 st.2.2)).1, 1 + nextV ws b (fmW ws b (st.2.2 + 1 + 1 + 1 + 1) (nextV ws b (st.2.2 + 1 + 1) 4) (insW ws b st.2.1 st.2.2)).2 4)],
    (st.2.1.filter fun y => decide (y ∉ usedW ws b st.2.1 st.2.2)) ++ [x], (fmW ws b (st.2.2 + 1 + 1 + 1 + 1) (nextV ws b (st.2.2 + 1 + 1) 4) (insW ws b st.2.1 st.2.2)).2 + 1)
def vwW (ws : List Int) (b : Int) (l : List Str) (st : Vws × List Str × Int) : Vws × List Str × Int := l.foldl (vwStepW ws b) st
def netSrcW (ws : List Int) (b k : Int) : Srcs × Int := srcW ws b (names3.take (1 + nextV ws b k 3).toNat) (k + 1)
def netVwW (ws : List Int) (b k : Int) : Vws × List Str × Int :=
  vwW ws b (names2.take (nextV ws b (netSrcW ws b k).2 3).toNat) ([], (netSrcW ws b k).1.map (·.1), (netSrcW ws b k).2 + 1)
theorem srcW_keys (ws : List Int) (b : Int) : ∀ (l : List Str) (st : Srcs × Int), (l.foldl (srcStepW ws b) st).1.map (·.1) = st.1.map (·.1) ++ l ∧ st.2 ≤ (l.foldl (srcStepW ws b) st).2
  | [], st => ⟨by simp, Int.le_refl _⟩
  | a :: r, st => by
    obtain ⟨h1, h2⟩ := srcW_keys ws b r (srcStepW ws b st a)
    rw [List.foldl_cons]
    refine ⟨by rw [h1]; simp [srcStepW], ?_⟩
    simp only [srcStepW] at h2
    simp only [srcStepW]
    omega
theorem srcW_succ (ws : List Int) (b : Int) (l : List Str) (k : Int) (n : Nat) (x : Str) (h : l[n]? = some x) : srcW ws b (l.take (n + 1)) k = srcStepW ws b (srcW ws b (l.take n) k) x := by
  unfold srcW
  rw [List.take_add_one, h, List.foldl_append]
  rfl
theorem vwW_succ (ws : List Int) (b : Int) (l : List Str) (st : Vws × List Str × Int) (n : Nat) (x : Str) (h : l[n]? = some x) : vwW ws b (l.take (n + 1)) st = vwStepW ws b (vwW ws b (l.take n) st) x := by
  unfold vwW
  rw [List.take_add_one, h, List.foldl_append]
  rfl
theorem fmW_ins (ws : List Int) (b k w : Int) (ins : List Str) : (fmW ws b k w ins).1.ins = ins := by
  unfold fmW
  split
  · simp only [Fm.ins]
    refine List.ext_getElem? fun i => ?_
    rw [List.getElem?_map, List.getElem?_mapIdx]
    cases ins[i]? <;> rfl
  · split <;> rfl
theorem fmW_k (ws : List Int) (b k w : Int) (ins : List Str) : k ≤ (fmW ws b k w ins).2 := by
  unfold fmW
  split
  · show k ≤ k + (ins.length : Nat)
    omega
  · exact Int.le_refl _
theorem fmW_ok (ws : List Int) (b k w : Int) {ins : List Str} (h1 : 1 ≤ ins.length) (h4 : ins.length ≤ 4) (hn : ∀ x ∈ ins, NameOk x) : FmOk (fmW ws b k w ins).1 := by
  refine ⟨by rw [fmW_ins]; exact h1, by rw [fmW_ins]; exact h4, by rw [fmW_ins]; exact hn, fun ts e t ht => ?_⟩
  unfold fmW at e
  split at e
  · simp only [Fm.sum.injEq] at e
    subst e
    obtain ⟨i, hi, e2⟩ := List.mem_mapIdx.mp ht
    subst e2
    have t6 := nextV_at ws b (k + (i : Nat)) (m := 7) (by decide)
    exact at_range (l := faW) (n := 7) rfl (P := fun x => -5 ≤ x ∧ x ≤ 5 ∧ x ≠ 0) (by decide) t6.1 t6.2
  · split at e <;> cases e
theorem used_ok (ws : List Int) (b : Int) {f : List Str} (k : Int) (hf : 1 ≤ f.length) (hn : f.Nodup) : 1 ≤ (usedW ws b f k).length ∧ (usedW ws b f k).length ≤ 3 ∧ (usedW ws b f k).Nodup ∧ ∀ x ∈ usedW ws b f k, x ∈ f := by
  have t1 := nextV_at ws b k (m := f.length) (by omega)
  have t2 := nextV_at ws b (k + 1) (m := 3) (by decide)
  unfold usedW
  refine ⟨?_, ?_, ?_, fun x hx => List.mem_of_mem_drop (List.mem_of_mem_take hx)⟩
  · rw [List.length_take, List.length_drop]; omega
  · rw [List.length_take]; omega
  · exact List.Sublist.nodup ((List.take_sublist _ _).trans (List.drop_sublist _ _)) hn
theorem ins_ok (ws : List Int) (b : Int) {f : List Str} (k : Int) (hf : 1 ≤ f.length) (hn : f.Nodup) : 1 ≤ (insW ws b f k).length ∧ (insW ws b f k).length ≤ 3 ∧ (insW ws b f k).Nodup ∧ (∀ x ∈ insW ws b f k, x ∈ f) ∧ ∀ x, x ∈ insW ws b f k ↔ x ∈ usedW ws b f k := by
  obtain ⟨h1, h2, h3, h4⟩ := used_ok ws b k hf hn
  unfold insW
  split
  · exact ⟨by rw [List.length_reverse]; exact h1, by rw [List.length_reverse]; exact h2, (List.reverse_perm _).nodup_iff.mpr h3, fun x hx => h4 x (List.mem_reverse.mp hx), fun x => List.mem_reverse⟩
  · exact ⟨h1, h2, h3, h4, fun x => Iff.rfl⟩
theorem vwsW_ok (ws : List Int) (b : Int) : ∀ (l : List Str) (st : Vws × List Str × Int) (seen : List Str), l.Nodup → (∀ x ∈ l, x ∉ seen ∧ NameOk x) → (∀ x ∈ seen, NameOk x) → 1 ≤ st.2.1.length → st.2.1.Nodup → (∀ x ∈ st.2.1, x ∈ seen) →
    ∃ v, (vwW ws b l st).1 = st.1 ++ v ∧ okV seen st.2.1 v ∧ (∀ x ∈ v, VwOk x) ∧ v.map (·.1) = l ∧ st.2.2 ≤ (vwW ws b l st).2.2 ∧ 1 ≤ (vwW ws b l st).2.1.length ∧ (vwW ws b l st).2.1.Nodup ∧ (vwW ws b l st).2.1.length ≤ st.2.1.length + l.length ∧ ∀ x ∈ (vwW ws b l st).2.1, x ∈ seen ++ l
  | [], st, seen, _, _, _, h1, h2, h3 => ⟨[], by simp [vwW], trivial, (fun x h => by cases h), rfl, Int.le_refl _, h1, h2, Nat.le_refl _, fun x hx => by rw [List.append_nil]; exact h3 x hx⟩
  | a :: r, st, seen, hl, hx, hs, h1, hnd, hf => by
    obtain ⟨l1, l2⟩ := List.nodup_cons.mp hl
    obtain ⟨x1, x2⟩ := hx a List.mem_cons_self
    obtain ⟨i1, i2, i3, i4, i5⟩ := ins_ok ws b st.2.2 h1 hnd
    have hfm := fmW_ok ws b (st.2.2 + 1 + 1 + 1 + 1) (nextV ws b (st.2.2 + 1 + 1) 4) i1 (by omega) fun x hx => hs x (hf x (i4 x hx))
    have hins := fmW_ins ws b (st.2.2 + 1 + 1 + 1 + 1) (nextV ws b (st.2.2 + 1 + 1) 4) (insW ws b st.2.1 st.2.2)
    have hk := fmW_k ws b (st.2.2 + 1 + 1 + 1 + 1) (nextV ws b (st.2.2 + 1 + 1) 4) (insW ws b st.2.1 st.2.2)
    have e3 : vwW ws b (a :: r) st = vwW ws b r (vwStepW ws b st a) := rfl
    have hst : vwStepW ws b st a = (st.1 ++ [(a, (fmW ws b (st.2.2 + 1 + 1 + 1 + 1) (nextV ws b (st.2.2 + 1 + 1) 4) (insW ws b st.2.1 st.2.2)).1, 1 + nextV ws b (fmW ws b (st.2.2 + 1 + 1 + 1 + 1) (nextV ws b (st.2.2 + 1 + 1) 4) (insW ws b st.2.1 st.2.2)).2 4)], (st.2.1.filter fun y => decide (y ∉ usedW ws b st.2.1 st.2.2)) ++ [a], (fmW ws b (st.2.2 + 1 + 1 + 1 + 1) (nextV ws b (st.2.2 + 1 + 1) 4) (insW ws b st.2.1 st.2.2)).2 + 1) := rfl
    rw [e3, hst]
    generalize fmW ws b (st.2.2 + 1 + 1 + 1 + 1) (nextV ws b (st.2.2 + 1 + 1) 4) (insW ws b st.2.1 st.2.2) = fo at hfm hins hk ⊢
    have tf := nextV_at ws b fo.2 (m := 4) (by decide)
    have ha : a ∉ st.2.1 := fun z => x1 (hf a z)
    have hfl : (st.2.1.filter fun y => decide (y ∉ usedW ws b st.2.1 st.2.2)).length ≤ st.2.1.length := List.length_filter_le _ _
    obtain ⟨v, v1, v2, v3, v4, v5, v6, v7, v8, v9⟩ := vwsW_ok ws b r (st.1 ++ [(a, fo.1, 1 + nextV ws b fo.2 4)], (st.2.1.filter fun y => decide (y ∉ usedW ws b st.2.1 st.2.2)) ++ [a], fo.2 + 1) (seen ++ [a]) l2 (fun x hr => ⟨fun z => by
      rcases List.mem_append.mp z with z | z
      · exact (hx x (List.mem_cons_of_mem _ hr)).1 z
      · rw [List.mem_singleton.mp z] at hr; exact l1 hr, (hx x (List.mem_cons_of_mem _ hr)).2⟩) (fun x hr => by
      rcases List.mem_append.mp hr with z | z
      · exact hs x z
      · rw [List.mem_singleton.mp z]; exact x2) (by simp) (List.nodup_append.mpr ⟨List.Sublist.nodup List.filter_sublist hnd, by simp, fun u hu w hw e => ha (by rw [List.mem_singleton.mp hw] at e; exact e ▸ (List.mem_filter.mp hu).1)⟩) (fun x hr => by
      rcases List.mem_append.mp hr with z | z
      · exact List.mem_append_left _ (hf x (List.mem_filter.mp z).1)
      · exact List.mem_append_right _ z)
    have q1 : 1 ≤ 1 + nextV ws b fo.2 4 := by omega
    have q2 : 1 + nextV ws b fo.2 4 ≤ 9 := by omega
    simp only [List.length_append, List.length_cons, List.length_nil] at v8
    refine ⟨(a, fo.1, 1 + nextV ws b fo.2 4) :: v, by rw [v1]; simp, ?_, fun x hx => ?_, by simp [v4], by simp only at v5; omega, v6, v7, by rw [List.length_cons]; omega, fun x hx => ?_⟩
    · simp only [okV, hins]
      refine ⟨x1, i3, i4, okV_congr (fun x => ?_) v2⟩
      simp only [List.mem_append, List.mem_filter, decide_eq_true_eq, i5 x]
    · rcases List.mem_cons.mp hx with z | z
      · subst z; exact ⟨x2, hfm, q1, q2⟩
      · exact v3 x z
    · have := v9 x hx
      rw [List.append_assoc] at this
      exact this
theorem names3_nd : names3.Nodup := by decide +kernel
theorem names2_nd : names2.Nodup := by decide +kernel
theorem names_apart : ∀ x ∈ names2, x ∉ names3 := by decide +kernel
theorem names3_ok : ∀ x ∈ names3, NameOk x := fun x hx => name_ok x (by
  have : (names3.all fun x => decide (1 ≤ x.length) && decide (x.length ≤ 8) && x.cps.toList.all fun c => decide (c ∈ Letters.cps.toList)) = true := by decide +kernel
  exact List.all_eq_true.mp this x hx)
theorem names2_ok : ∀ x ∈ names2, NameOk x := fun x hx => name_ok x (by
  have : (names2.all fun x => decide (1 ≤ x.length) && decide (x.length ≤ 8) && x.cps.toList.all fun c => decide (c ∈ Letters.cps.toList)) = true := by decide +kernel
  exact List.all_eq_true.mp this x hx)
theorem srcW_all (ws : List Int) (b : Int) : ∀ (l : List Str) (st : Srcs × Int), (∀ x ∈ l, NameOk x) → (∀ x ∈ st.1, SrcOk x) → ∀ x ∈ (l.foldl (srcStepW ws b) st).1, SrcOk x
  | [], st, _, h => h
  | a :: r, st, hl, h => by
    rw [List.foldl_cons]
    refine srcW_all ws b r _ (fun x hx => hl x (List.mem_cons_of_mem _ hx)) fun x hx => ?_
    rcases List.mem_append.mp hx with z | z
    · exact h x z
    · have t6 := nextV_at ws b st.2 (m := 6) (by decide)
      have t4 := nextV_at ws b (st.2 + 1) (m := 4) (by decide)
      have hd := at_range (l := drW) (n := 6) rfl (P := fun x => 0 ≤ x ∧ x ≤ 20) (by decide) t6.1 t6.2
      rw [List.mem_singleton.mp z]
      exact ⟨hl a List.mem_cons_self, hd, by show 1 ≤ 1 + _ ∧ 1 + _ ≤ 9; omega⟩
/-- what is known of the network that is drawn -/
theorem netW_ok (ws : List Int) (b k : Int) (k0 : 0 ≤ k) : NetOk (netSrcW ws b k).1 (netVwW ws b k).1 ∧ (netSrcW ws b k).1.length ≤ 3 ∧ (netVwW ws b k).1.length ≤ 2 ∧ k ≤ (netVwW ws b k).2.2 ∧ (netSrcW ws b k).1.map (·.1) = names3.take (1 + nextV ws b k 3).toNat ∧ k ≤ (netSrcW ws b k).2 := by
  have t3 := nextV_at ws b k (m := 3) (by decide)
  obtain ⟨k1, k2⟩ := srcW_keys ws b (names3.take (1 + nextV ws b k 3).toNat) ([], k + 1)
  have k1 : (netSrcW ws b k).1.map (·.1) = names3.take (1 + nextV ws b k 3).toNat := by
    have : (netSrcW ws b k).1.map (·.1) = ([] : Srcs).map (·.1) ++ _ := k1
    simpa using this
  have k2 : k + 1 ≤ (netSrcW ws b k).2 := k2
  have kl : (netSrcW ws b k).1.length = (1 + nextV ws b k 3).toNat := by
    have := congrArg List.length k1
    rw [List.length_map, List.length_take] at this
    have h3 : names3.length = 3 := rfl
    omega
  have hsub : (names3.take (1 + nextV ws b k 3).toNat).Sublist names3 := List.take_sublist _ _
  have t2 := nextV_at ws b (netSrcW ws b k).2 (m := 3) (by decide)
  have hsub2 : (names2.take (nextV ws b (netSrcW ws b k).2 3).toNat).Sublist names2 := List.take_sublist _ _
  obtain ⟨v, v1, v2, v3, v4, v5, _⟩ := vwsW_ok ws b (names2.take (nextV ws b (netSrcW ws b k).2 3).toNat) ([], (netSrcW ws b k).1.map (·.1), (netSrcW ws b k).2 + 1) ((netSrcW ws b k).1.map (·.1)) (hsub2.nodup names2_nd)
    (fun x hx => ⟨fun z => by rw [k1] at z; exact names_apart x (hsub2.subset hx) (hsub.subset z), names2_ok x (hsub2.subset hx)⟩)
    (fun x hx => by rw [k1] at hx; exact names3_ok x (hsub.subset hx)) (by rw [List.length_map]; omega) (by rw [k1]; exact hsub.nodup names3_nd) (fun x hx => hx)
  have v1 : (netVwW ws b k).1 = v := by rw [show (netVwW ws b k).1 = [] ++ v from v1]; rfl
  have v5 : (netSrcW ws b k).2 + 1 ≤ (netVwW ws b k).2.2 := v5
  have vl : v.length ≤ 2 := by
    have := congrArg List.length v4
    rw [List.length_map, List.length_take] at this
    have h2 : names2.length = 2 := rfl
    omega
  refine ⟨⟨⟨by omega, by omega, srcW_all ws b _ ([], k + 1) (fun x hx => names3_ok x (hsub.subset hx)) (fun x hx => (List.not_mem_nil hx).elim), by rw [k1]; exact hsub.nodup names3_nd⟩, by rw [v1]; omega, by rw [v1]; exact v3, by rw [v1]; exact v2⟩, by omega, by rw [v1]; exact vl, by omega, k1, by omega⟩
end KX
set_option Elab.async false
set_option linter.all false
set_option maxRecDepth 100000
set_option maxHeartbeats 1000000
namespace KX
open PySem L2 PL
def LNetwork : List D → List D → Sl → List D → Prop := fun l ds r l' => ∃ (ws : List Int) (b k : Int), 0 ≤ b ∧ 0 ≤ k ∧ l = stD ws b k ∧ ds = [.int 5] ∧ r = .sh (netp (netSrcW ws b k).1 (netVwW ws b k).1) ∧ l' = stD ws b (netVwW ws b k).2.2
def addN (k : Int) : Nat → Int
  | 0 => k
  | n + 1 => addN k n + 1
theorem addN_eq (k : Int) : ∀ n, addN k n = k + (n : Nat)
  | 0 => by simp [addN]
  | n + 1 => by simp only [addN, addN_eq k n]; omega
section
variable {P : Program} {w : World} {K : PySem.W.Frag} {mg : Str → Option Value} {base : Heap} {N : Addr}
theorem ok_network {f : Addr} {fd : FuncData} (F : Fun K "_law_network" "_law_network" sLawNetwork f fd) (B : Bl mg) (c1 : Fio P w K mg base 3 "_law_next" LNext) (c2 : Fio P w K mg base 4 "_law_pick" LPick) : FnOk P w K mg base CX0 5 f fd ["_law_state", "_law_most"] (spIo K LNetwork) := by
  refine fn_okI F scLawNetwork (fun l ds r l' h => ?_) fun cdv A outer s H E hr l ds r l' h => ?_
  · obtain ⟨a, b, c, _, _, _, rfl, _⟩ := h
    rfl
  · obtain ⟨ws, b, k, b0, k0, rfl, rfl, rfl, rfl⟩ := h
    have hu := hu_of hr
    obtain ⟨hs, hs3, hv2, hkk, hsk, hks⟩ := netW_ok ws b k k0
    have t3 := nextV_at ws b k (m := 3) (by decide)
    refine (?_ : HRI _ _ _ _ _)
    refine hri_cons (hs_par2D (i := 4) (j := 5) (fun h => ps_par rfl scLawNetwork.nd rfl rfl (by decide) rfl rfl h rfl) (by decide)) ?_
    obtain ⟨n1, hn1⟩ := Int.eq_ofNat_of_zero_le (show 0 ≤ 1 + nextV ws b k 3 by omega)
    have hL : (1 + nextV ws b k 3).toNat = n1 := by omega
    refine hri_cons (hs_for (is := [2]) (hi_seq (he_sh (s := .ol ((names3.take n1).map D.str)) (he_eq (he_slice (he_sh (s := .ol (names3.map D.str)) (he_eq (he_lst (hea_cons (he_hg hg_str) (hea_cons (he_hg hg_str) (hea_cons (he_hg hg_str) hea_nil))) (Nat.le_of_ble_eq_true rfl)) rfl)) hpo_none (hpo_some (he_op (he_hg hg_int) (he_callIo 0 c1 (hr.mono (by decide)) rfl rfl (hea_cons (he_hg (hg_callB (hga_cons hg_int (hga_cons (hg_var 1 rfl) hga_nil)) (c_min2 rfl) (by rfl) B.min PyProof.Rows.boot_min)) hea_nil) rfl rfl ⟨ws, b, k, 3, b0, k0, by decide, by decide, rfl, rfl, rfl, rfl⟩) v_add))) (by rw [hn1]; exact congrArg Sl.ol (cut_strs names3 n1)))) (.inl rfl)) (fun n => [some (.io (stD ws b (srcW ws b ((names3.take n1).take n) (k + 1)).2)), some (.sh (.int 5)), none, none, some (.od (srcD (srcW ws b ((names3.take n1).take n) (k + 1)).1)), some (.od []), none, none, none, none]) rfl fun n d hd => ?_) ?_
    · obtain ⟨y, h5, rfl⟩ : ∃ y, (names3.take n1)[n]? = some y ∧ D.str y = d := by
        simp only [List.getElem?_map, Option.map_eq_some_iff] at hd
        exact hd
      have hnd : (names3.take n1).Nodup := List.Sublist.nodup (List.take_sublist _ _) names3_nd
      have hnew := nd_take hnd h5
      obtain ⟨k1, k2⟩ := srcW_keys ws b ((names3.take n1).take n) ([], k + 1)
      have k1 : (srcW ws b ((names3.take n1).take n) (k + 1)).1.map (·.1) = (names3.take n1).take n := by
        have : (srcW ws b ((names3.take n1).take n) (k + 1)).1.map (·.1) = ([] : Srcs).map (·.1) ++ _ := k1
        simpa using this
      have k2 : k + 1 ≤ (srcW ws b ((names3.take n1).take n) (k + 1)).2 := k2
      have kl : (srcW ws b ((names3.take n1).take n) (k + 1)).1.length ≤ 3 := by
        have := congrArg List.length k1
        simp only [List.length_map, List.length_take] at this
        have h3 : names3.length = 3 := rfl
        omega
      rw [srcW_succ _ _ _ _ _ _ h5]
      rw [← k1] at hnew
      generalize srcW ws b ((names3.take n1).take n) (k + 1) = st at k2 kl hnew ⊢
      refine ⟨_, hb_name 2 scLawNetwork.nd, .inl ?_⟩
      refine hs_le (hs_one (hs_dput 4 (ky := Sum.inr y) hu (he_tup (hea_cons (he_eq (he_callIo 0 c2 (hr.mono (by decide)) rfl rfl (hea_cons (he_sh (s := .ol (drW.map D.int)) (he_eq (he_lst (hea_cons (he_hg hg_int) (hea_cons (he_hg hg_int) (hea_cons (he_hg hg_int) (hea_cons (he_hg hg_int) (hea_cons (he_hg hg_int) (hea_cons (he_hg hg_int) hea_nil)))))) (Nat.le_of_ble_eq_true rfl)) rfl)) hea_nil) rfl rfl ⟨ws, b, st.2, drW.map D.int, b0, by omega, by decide, by decide, rfl, rfl, rfl, rfl⟩) (by rw [pick_ints _ _ _ (by decide)])) (hea_cons (he_op (he_hg hg_int) (he_callIo 0 c1 (hr.mono (by decide)) rfl rfl (hea_cons (he_hg hg_int) hea_nil) rfl rfl ⟨ws, b, st.2 + 1, 4, b0, by omega, by decide, by decide, rfl, rfl, rfl, rfl⟩) v_add) hea_nil)) (Nat.le_of_ble_eq_true rfl)) rfl (hg_var 2 rfl) ?_)) ?_
      · simp only [srcD, List.length_map]; omega
      · rw [put_src hnew]
        exact .s (.s (.w (.s (.s (.s (.s (.s (.s (.s .n)))))))))
    rw [List.length_map, List.take_length]
    rw [hL] at hsk
    have hsrc : srcW ws b (names3.take n1) (k + 1) = netSrcW ws b k := by unfold netSrcW; rw [hL]
    rw [hsrc]
    refine hri_cons (hs_set 3 (s := .ol (((netSrcW ws b k).1.map (·.1)).map D.str)) (he_eq (he_listD (hg_var 4 rfl) rfl B.list) ?_) scLawNetwork.nd) ?_
    · refine congrArg Sl.ol ?_
      simp only [keysD, srcD, List.map_map]
      rfl
    have t2 := nextV_at ws b (netSrcW ws b k).2 (m := 3) (by decide)
    obtain ⟨n2, hn2⟩ := Int.eq_ofNat_of_zero_le t2.1
    have hL2 : (nextV ws b (netSrcW ws b k).2 3).toNat = n2 := by omega
    have hvw : netVwW ws b k = vwW ws b (names2.take n2) ([], (netSrcW ws b k).1.map (·.1), (netSrcW ws b k).2 + 1) := by unfold netVwW; rw [hL2]
    have hone : 1 ≤ (netSrcW ws b k).1.length := hs.src.one
    have hsnd := hs.src.nd
    rw [hvw] at hkk ⊢
    generalize netSrcW ws b k = NS at hs hs3 hsk hks t2 hn2 hL2 hone hsnd ⊢
    generalize hst0 : (([], NS.1.map (·.1), NS.2 + 1) : Vws × List Str × Int) = st0
    have hsub2 : (names2.take n2).Sublist names2 := List.take_sublist _ _
    have hnm3 : ∀ x ∈ NS.1.map (·.1), x ∈ names3 := fun x hx => by rw [hsk] at hx; exact (List.take_sublist _ _).subset hx
    refine hri_cons (hs_for (is := [2]) (hi_seq (he_sh (s := .ol ((names2.take n2).map D.str)) (he_eq (he_slice (he_sh (s := .ol (names2.map D.str)) (he_eq (he_lst (hea_cons (he_hg hg_str) (hea_cons (he_hg hg_str) hea_nil)) (Nat.le_of_ble_eq_true rfl)) rfl)) hpo_none (hpo_some (he_callIo 0 c1 (hr.mono (by decide)) rfl rfl (hea_cons (he_hg hg_int) hea_nil) rfl rfl ⟨ws, b, NS.2, 3, b0, by omega, by decide, by decide, rfl, rfl, rfl, rfl⟩))) (by rw [hn2]; exact congrArg Sl.ol (cut_strs names2 n2)))) (.inl rfl)) (fun n => [some (.io (stD ws b (vwW ws b ((names2.take n2).take n) st0).2.2)), some (.sh (.int 5)), none, some (.ol ((vwW ws b ((names2.take n2).take n) st0).2.1.map D.str)), some (.od (srcD NS.1)), some (.od (vwD (vwW ws b ((names2.take n2).take n) st0).1)), none, none, none, none]) (by rw [← hst0]; rfl) fun n d hd => ?_) ?_
    · obtain ⟨y, h5, rfl⟩ : ∃ y, (names2.take n2)[n]? = some y ∧ D.str y = d := by
        simp only [List.getElem?_map, Option.map_eq_some_iff] at hd
        exact hd
      have hnd2 : (names2.take n2).Nodup := hsub2.nodup names2_nd
      have hsubn : ((names2.take n2).take n).Sublist names2 := (List.take_sublist _ _).trans hsub2
      obtain ⟨v, v1, v2, v3, v4, v5, v6, v7, v8, v9⟩ := vwsW_ok ws b ((names2.take n2).take n) st0 (NS.1.map (·.1)) (hsubn.nodup names2_nd)
        (fun x hx => ⟨fun z => names_apart x (hsubn.subset hx) (hnm3 x z), names2_ok x (hsubn.subset hx)⟩) (fun x hx => names3_ok x (hnm3 x hx)) (by rw [← hst0, List.length_map]; exact hone) (by rw [← hst0]; exact hsnd) (fun x hx => by rw [← hst0] at hx; exact hx)
      have hlt : n < n2 := by
        have := (List.getElem?_eq_some_iff.mp h5).1
        rw [List.length_take] at this
        omega
      have hn22 : (names2.take n2).length ≤ 2 := Nat.le_trans hsub2.length_le (by decide)
      have hnl : n ≤ 1 := by have := (List.getElem?_eq_some_iff.mp h5).1; omega
      have hv1 : (vwW ws b ((names2.take n2).take n) st0).1 = v := by rw [v1, ← hst0]; rfl
      have hvk : (vwW ws b ((names2.take n2).take n) st0).1.map (·.1) = (names2.take n2).take n := by rw [hv1, v4]
      have hvl : (vwW ws b ((names2.take n2).take n) st0).1.length ≤ 1 := by
        have := congrArg List.length hvk
        rw [List.length_map, List.length_take] at this
        omega
      have hnew := nd_take hnd2 h5
      rw [← hvk] at hnew
      have hk1 : NS.2 + 1 ≤ (vwW ws b ((names2.take n2).take n) st0).2.2 := by rw [← hst0] at v5 ⊢; exact v5
      have hfl : (vwW ws b ((names2.take n2).take n) st0).2.1.length ≤ 8 := by
        rw [← hst0] at v8 ⊢
        simp only [List.length_map, List.length_take] at v8
        omega
      rw [vwW_succ _ _ _ _ _ _ h5]
      generalize vwW ws b ((names2.take n2).take n) st0 = st at v6 v7 hvl hnew hk1 hfl ⊢
      clear v1 v2 v3 v4 v5 v8 v9 hv1 hvk
      obtain ⟨u1, u2, u3, u4⟩ := used_ok ws b st.2.2 v6 v7
      obtain ⟨i1, i2, i3, i4, i5⟩ := ins_ok ws b st.2.2 v6 v7
      refine ⟨_, hb_name 2 scLawNetwork.nd, .inl ?_⟩
      refine hs_one (hs_if (t := true) (ht_eq (ht_cmpG (hg_op (hg_callB (hga_cons (hg_var 4 rfl) hga_nil) c_lenD (by rfl) B.len PySem.boot_len) (hg_callB (hga_cons (hg_var 5 rfl) hga_nil) c_lenD (by rfl) B.len PySem.boot_len) v_add) (hg_var 1 rfl) v_lt) ?_) (fun _ => ?_) fun z => by cases z)
      · simp only [srcD, vwD, List.length_map]
        exact decide_eq_true (by omega)
      have ta := nextV_at ws b st.2.2 (m := st.2.1.length) (by omega)
      have tc := nextV_at ws b (st.2.2 + 1) (m := 3) (by decide)
      obtain ⟨a, ha⟩ := Int.eq_ofNat_of_zero_le ta.1
      obtain ⟨c, hc⟩ := Int.eq_ofNat_of_zero_le (show 0 ≤ 1 + nextV ws b (st.2.2 + 1) 3 by omega)
      have hused : usedW ws b st.2.1 st.2.2 = (st.2.1.drop a).take c := by unfold usedW; rw [ha, Int.toNat_natCast, hc, Int.toNat_natCast]
      refine hs_cons (hs_set 6 (s := .ol ((usedW ws b st.2.1 st.2.2).map D.str)) (he_eq (he_slice (he_sh (s := .ol ((st.2.1.drop a).map D.str)) (he_eq (he_slice (he_share 3 rfl rfl (he_hg (hg_var 3 rfl))) (hpo_some (he_callIo 0 c1 (hr.mono (by decide)) rfl rfl (hea_cons (he_hg (hg_callB (hga_cons (hg_var 3 rfl) hga_nil) c_lenL (by rfl) B.len PySem.boot_len)) hea_nil) rfl rfl ⟨ws, b, st.2.2, st.2.1.length, b0, by omega, by omega, by omega, rfl, by rw [List.length_map], rfl, rfl⟩)) hpo_none) (by rw [ha]; exact congrArg Sl.ol (by rw [cut_from, List.map_drop])))) hpo_none (hpo_some (he_op (he_hg hg_int) (he_callIo 0 c1 (hr.mono (by decide)) rfl rfl (hea_cons (he_hg hg_int) hea_nil) rfl rfl ⟨ws, b, st.2.2 + 1, 3, b0, by omega, by decide, by decide, rfl, rfl, rfl, rfl⟩) v_add))) (by rw [hc, hused]; exact congrArg Sl.ol (cut_strs _ c))) scLawNetwork.nd) ?_
      refine hs_share 6 rfl rfl ?_
      have tw := nextV_at ws b (st.2.2 + 1 + 1) (m := 4) (by decide)
      refine hs_cons (hs_set 7 (he_eq (he_callIo 0 c2 (hr.mono (by decide)) rfl rfl (hea_cons (he_sh (s := .ol (kindsW.map D.str)) (he_eq (he_lst (hea_cons (he_hg hg_str) (hea_cons (he_hg hg_str) (hea_cons (he_hg hg_str) (hea_cons (he_hg hg_str) hea_nil)))) (Nat.le_of_ble_eq_true rfl)) rfl)) hea_nil) rfl rfl ⟨ws, b, st.2.2 + 1 + 1, kindsW.map D.str, b0, by omega, by decide, by decide, rfl, rfl, rfl, rfl⟩) (by rw [pick_strs _ _ _ (by decide)])) scLawNetwork.nd) ?_
      have t2' := nextV_at ws b (st.2.2 + 1 + 1 + 1) (m := 2) (by decide)
      suffices hrest : HS _ _ [some (.io (stD ws b (st.2.2 + 1 + 1 + 1 + 1))), some (.sh (.int 5)), some (.sh (.str y)), some (.sh (.lst (st.2.1.map D.str))), some (.od (srcD NS.1)), some (.od (vwD st.1)), some (.sh (.lst ((usedW ws b st.2.1 st.2.2).map D.str))), some (.sh (.str (nthS kindsW (nextV ws b (st.2.2 + 1 + 1) kindsW.length)))), some (.sh (.tup ((insW ws b st.2.1 st.2.2).map D.str))), none] _ by
        by_cases z : nextV ws b (st.2.2 + 1 + 1 + 1) 2 = 0
        · have e : insW ws b st.2.1 st.2.2 = (usedW ws b st.2.1 st.2.2).reverse := by unfold insW; rw [if_pos z]
          refine hs_cons (hs_set 8 (he_tuple (ds := (insW ws b st.2.1 st.2.2).map D.str) (he_if (t := true) (ht_eq (ht_cmp (he_callIo 0 c1 (hr.mono (by decide)) rfl rfl (hea_cons (he_hg hg_int) hea_nil) rfl rfl ⟨ws, b, st.2.2 + 1 + 1 + 1, 2, b0, by omega, by decide, by decide, rfl, rfl, rfl, rfl⟩) (he_hg hg_int) v_eqI) (by simp [z])) (fun _ => he_sh (he_revL (he_hg (hg_var 6 rfl)))) fun z => by cases z) (.inl (by rw [e, List.map_reverse]; rfl)) B.tuple) scLawNetwork.nd) hrest
        · have e : insW ws b st.2.1 st.2.2 = usedW ws b st.2.1 st.2.2 := by unfold insW; rw [if_neg z]
          refine hs_cons (hs_set 8 (he_tuple (ds := (insW ws b st.2.1 st.2.2).map D.str) (he_if (t := false) (ht_eq (ht_cmp (he_callIo 0 c1 (hr.mono (by decide)) rfl rfl (hea_cons (he_hg hg_int) hea_nil) rfl rfl ⟨ws, b, st.2.2 + 1 + 1 + 1, 2, b0, by omega, by decide, by decide, rfl, rfl, rfl, rfl⟩) (he_hg hg_int) v_eqI) (by simp [z])) (fun z => by cases z) fun _ => he_hg (hg_var 6 rfl)) (.inl (by rw [e]; rfl)) B.tuple) scLawNetwork.nd) hrest
      have hkl : ((kindsW.length : Nat) : Int) = 4 := rfl
      rw [hkl]
      have hkind : nthS kindsW (nextV ws b (st.2.2 + 1 + 1) 4) = (fmW ws b (st.2.2 + 1 + 1 + 1 + 1) (nextV ws b (st.2.2 + 1 + 1) 4) (insW ws b st.2.1 st.2.2)).1.kind := by
        unfold fmW
        rcases (show nextV ws b (st.2.2 + 1 + 1) 4 = 0 ∨ nextV ws b (st.2.2 + 1 + 1) 4 = 1 ∨ nextV ws b (st.2.2 + 1 + 1) 4 = 2 ∨ nextV ws b (st.2.2 + 1 + 1) 4 = 3 by omega) with q | q | q | q <;> rw [q] <;> rfl
      have hk4 := fmW_k ws b (st.2.2 + 1 + 1 + 1 + 1) (nextV ws b (st.2.2 + 1 + 1) 4) (insW ws b st.2.1 st.2.2)
      have hiL : (insW ws b st.2.1 st.2.2).length ≤ 3 := i2
      have hL := fmW_ins ws b (st.2.2 + 1 + 1 + 1 + 1) (nextV ws b (st.2.2 + 1 + 1) 4) (insW ws b st.2.1 st.2.2)
      suffices hcom : ∀ (ρ1 : Rh) (fo : Fm × Int), fmW ws b (st.2.2 + 1 + 1 + 1 + 1) (nextV ws b (st.2.2 + 1 + 1) 4) (insW ws b st.2.1 st.2.2) = fo → ρ1 = [some (.io (stD ws b fo.2)), some (.sh (.int 5)), some (.sh (.str y)), some (.sh (.lst (st.2.1.map D.str))), some (.od (srcD NS.1)), some (.od (vwD st.1)), some (.sh (.lst ((usedW ws b st.2.1 st.2.2).map D.str))), some (.sh (.str fo.1.kind)), some (.sh fo.1.parts), none] → HS _ _ ρ1 _ by
        by_cases q : nextV ws b (st.2.2 + 1 + 1) 4 = 0 ∨ nextV ws b (st.2.2 + 1 + 1) 4 = 3
        · have hfo : fmW ws b (st.2.2 + 1 + 1 + 1 + 1) (nextV ws b (st.2.2 + 1 + 1) 4) (insW ws b st.2.1 st.2.2) = (.sum ((insW ws b st.2.1 st.2.2).mapIdx fun i x => (nthI faW (nextV ws b (st.2.2 + 1 + 1 + 1 + 1 + (i : Nat)) 7), x)), st.2.2 + 1 + 1 + 1 + 1 + ((insW ws b st.2.1 st.2.2).length : Nat)) := by unfold fmW; rw [if_pos q]
          have hw7 : nthS kindsW (nextV ws b (st.2.2 + 1 + 1) 4) = "sum" := by rw [hkind, hfo]; rfl
          refine hs_cons (hs_if (t := true) (ht_eq (ht_cmpG (hg_var 7 rfl) hg_str v_eqS) (by rw [hw7]; simp)) (fun _ => hs_one (hs_set 8 (he_tuple (ds := ((insW ws b st.2.1 st.2.2).mapIdx fun i x => ((nthI faW (nextV ws b (st.2.2 + 1 + 1 + 1 + 1 + (i : Nat)) 7), x) : Int × Str)).map termD) (he_sh (s := .ol (((insW ws b st.2.1 st.2.2).mapIdx fun i x => ((nthI faW (nextV ws b (st.2.2 + 1 + 1 + 1 + 1 + (i : Nat)) 7), x) : Int × Str)).map termD)) (he_eq (he_mapS (R := fun i => [some (.io (stD ws b (addN (st.2.2 + 1 + 1 + 1 + 1) i))), some (.sh (.int 5)), some (.sh (.str y)), some (.sh (.lst (st.2.1.map D.str))), some (.od (srcD NS.1)), some (.od (vwD st.1)), some (.sh (.lst ((usedW ws b st.2.1 st.2.2).map D.str))), some (.sh (.str (nthS kindsW (nextV ws b (st.2.2 + 1 + 1) 4)))), some (.sh (.tup ((insW ws b st.2.1 st.2.2).map D.str))), none]) (g := fun i => .tup [.int (nthI faW (nextV ws b (addN (st.2.2 + 1 + 1 + 1 + 1) i) 7)), .str ((insW ws b st.2.1 st.2.2)[i]?.getD "")]) [("_law_one", 9)] [9] (hi_seq (he_hg (hg_var 8 rfl)) (.inr rfl)) rfl (fun _ => rfl) (fun _ j hj => by simp at hj; subst hj; rfl) scLawNetwork.nd (blkOk_by (N := ["_law_state", "_law_most", "_law_name", "_law_free", "_law_sources", "_law_views", "_law_used", "_law_word", "_law_inputs_here", "_law_one"]) (sc := defScope sLawNetwork) (by decide +kernel)) ?_ (fun i d hd => ?_)) ?_)) (.inl rfl) B.tuple) scLawNetwork.nd)) fun z => by cases z) (hcom _ _ hfo ?_)
          · rw [List.length_map]; omega
          · obtain ⟨x, h6, rfl⟩ : ∃ x, (insW ws b st.2.1 st.2.2)[i]? = some x ∧ D.str x = d := by
              simp only [List.getElem?_map, Option.map_eq_some_iff] at hd
              exact hd
            have han := addN_eq (st.2.2 + 1 + 1 + 1 + 1) i
            refine ⟨_, fun s H C cl fp => hb_name 9 scLawNetwork.nd, _, fun s H C cl fp => he_eq (he_tup (hea_cons (he_eq (he_callIo 0 c2 (hr.mono (by decide)) rfl rfl (hea_cons (he_sh (s := .ol (faW.map D.int)) (he_eq (he_lst (hea_cons (he_hg hg_int) (hea_cons (he_hg hg_int) (hea_cons (he_hg (hg_neg hg_int)) (hea_cons (he_hg hg_int) (hea_cons (he_hg (hg_neg hg_int)) (hea_cons (he_hg hg_int) (hea_cons (he_hg (hg_neg hg_int)) hea_nil))))))) (Nat.le_of_ble_eq_true rfl)) rfl)) hea_nil) rfl rfl ⟨ws, b, addN (st.2.2 + 1 + 1 + 1 + 1) i, faW.map D.int, b0, by omega, by decide, by decide, rfl, rfl, rfl, rfl⟩) (by rw [pick_ints _ _ _ (by decide)])) (hea_cons (he_hg (hg_var 9 rfl)) hea_nil)) (Nat.le_of_ble_eq_true rfl)) (by rw [h6]; rfl), rfl⟩
          · refine congrArg Sl.ol (List.ext_getElem? fun i => ?_)
            rw [List.getElem?_map, List.getElem?_map, List.getElem?_mapIdx, List.length_map]
            by_cases h : i < (insW ws b st.2.1 st.2.2).length
            · rw [List.getElem?_range h]
              simp [termD, List.getElem?_eq_getElem h, addN_eq]
            · rw [List.getElem?_eq_none (by rw [List.length_range]; omega), List.getElem?_eq_none (by omega)]
              rfl
          · rw [List.length_map, addN_eq, hw7]
            rfl
        · have hfo : fmW ws b (st.2.2 + 1 + 1 + 1 + 1) (nextV ws b (st.2.2 + 1 + 1) 4) (insW ws b st.2.1 st.2.2) = (if nextV ws b (st.2.2 + 1 + 1) 4 = 1 then .mn (insW ws b st.2.1 st.2.2) else .mx (insW ws b st.2.1 st.2.2), st.2.2 + 1 + 1 + 1 + 1) := by unfold fmW; rw [if_neg q]
          have hk : (fmW ws b (st.2.2 + 1 + 1 + 1 + 1) (nextV ws b (st.2.2 + 1 + 1) 4) (insW ws b st.2.1 st.2.2)).1.parts = .tup ((insW ws b st.2.1 st.2.2).map D.str) := by rw [hfo]; split <;> rfl
          refine hs_cons (hs_if (t := false) (ht_eq (ht_cmpG (hg_var 7 rfl) hg_str v_eqS) ?_) (fun z => by cases z) fun _ => hs_nil) (hcom _ _ rfl ?_)
          · rw [hkind, hfo]
            split <;> simp [Fm.kind, nms, nxs]
          · rw [hkind, hk]
            simp only [hfo]
      intro ρ1 fo hfo hρ
      subst hρ
      rw [hfo] at hk4 hL
      have tf := nextV_at ws b fo.2 (m := 4) (by decide)
      refine hs_cons (hs_dput 5 (ky := Sum.inr y) hu (he_tup (hea_cons (he_eq (he_tup (hea_cons (he_hg (hg_var 7 rfl)) (hea_cons (he_hg (hg_var 8 rfl)) hea_nil)) (Nat.le_of_ble_eq_true rfl)) (show _ = Sl.sh fo.1.d from rfl)) (hea_cons (he_op (he_hg hg_int) (he_callIo 0 c1 (hr.mono (by decide)) rfl rfl (hea_cons (he_hg hg_int) hea_nil) rfl rfl ⟨ws, b, fo.2, 4, b0, by omega, by decide, by decide, rfl, rfl, rfl, rfl⟩) v_add) hea_nil)) (Nat.le_of_ble_eq_true rfl)) rfl (hg_var 2 rfl) ?_) ?_
      · simp only [vwD, List.length_map]; omega
      rw [put_vw hnew]
      refine hs_le (hs_one (hs_set 3 (s := .ol (((st.2.1.filter fun y => decide (y ∉ usedW ws b st.2.1 st.2.2)) ++ [y]).map D.str)) (he_eq (he_cat (he_sh (s := .ol ((st.2.1.filter fun y => decide (y ∉ usedW ws b st.2.1 st.2.2)).map D.str)) (he_eq (he_filter (f := id) (g := fun d => match d with | .str z => !decide (z ∈ usedW ws b st.2.1 st.2.2) | _ => false) [("_law_one", 9)] [9] (hi_seq (he_hg (hg_var 3 rfl)) (.inl rfl)) scLawNetwork.nd (blkOk_by (N := ["_law_state", "_law_most", "_law_name", "_law_free", "_law_sources", "_law_views", "_law_used", "_law_word", "_law_inputs_here", "_law_one"]) (sc := defScope sLawNetwork) (by decide +kernel)) ?_ (fun i d hd => ?_)) ?_)) (he_sh (s := .ol [.str y]) (he_lst (hea_cons (he_hg (hg_var 2 rfl)) hea_nil) (Nat.le_of_ble_eq_true rfl))) ?_) (by rw [List.map_append]; rfl)) scLawNetwork.nd)) ?_
      · rw [List.length_map]; omega
      · obtain ⟨z, hz, rfl⟩ : ∃ z, st.2.1[i]? = some z ∧ D.str z = d := by
          simp only [List.getElem?_map, Option.map_eq_some_iff] at hd
          exact hd
        exact ⟨_, fun s H C cl fp => hb_name 9 scLawNetwork.nd, rfl, fun s H D' cl fp => ht_cmpG (hg_var 9 rfl) (hg_var 6 rfl) v_ninLS, fun _ s H C cl fp => he_hg (hg_var 9 rfl)⟩
      · rw [List.map_id, List.filter_map]
        refine congrArg Sl.ol (congrArg (List.map D.str) (List.filter_congr fun z _ => ?_))
        simp
      · have := List.length_filter_le (fun y => decide (y ∉ usedW ws b st.2.1 st.2.2)) st.2.1
        simp only [List.length_map, List.length_cons, List.length_nil]; omega
      · simp only [vwStepW, hfo]
        repeat (first | exact Le.n | refine Le.s ?_ | refine Le.w ?_)
    rw [List.length_map, List.take_length]
    refine hri_share 4 rfl rfl (hri_share 5 rfl rfl ?_)
    exact hri_ret (he_tup (hea_cons (he_hg (hg_var 4 rfl)) (hea_cons (he_hg (hg_var 5 rfl)) hea_nil)) (Nat.le_of_ble_eq_true rfl)) rfl
end
end KX
set_option Elab.async false
set_option linter.all false
set_option maxRecDepth 100000
set_option maxHeartbeats 1000000
namespace KX
open PySem L2 PL
theorem src_at {s : Srcs} {i : Nat} {d : D} (h : (keysD (srcD s))[i]? = some d) : ∃ x, s[i]? = some x ∧ d = .str x.1 := by
  simp only [keysD, srcD, List.getElem?_map, Option.map_eq_some_iff] at h
  obtain ⟨q, ⟨x, h1, rfl⟩, rfl⟩ := h
  exact ⟨x, h1, rfl⟩
theorem items_srcAt {s : Srcs} {i : Nat} {d : D} (h : (itemsD (srcD s))[i]? = some d) : ∃ x, s[i]? = some x ∧ d = .tup [.str x.1, .tup [.int x.2.1, .int x.2.2]] := by
  simp only [itemsD, srcD, List.getElem?_map, Option.map_eq_some_iff] at h
  obtain ⟨q, ⟨x, h1, rfl⟩, rfl⟩ := h
  exact ⟨x, h1, rfl⟩
theorem items_vwAt {v : Vws} {i : Nat} {d : D} (h : (itemsD (vwD v))[i]? = some d) : ∃ x, v[i]? = some x ∧ d = .tup [.str x.1, .tup [x.2.1.d, .int x.2.2]] := by
  simp only [itemsD, vwD, List.getElem?_map, Option.map_eq_some_iff] at h
  obtain ⟨q, ⟨x, h1, rfl⟩, rfl⟩ := h
  exact ⟨x, h1, rfl⟩
abbrev sLawFormula : Stmt := top 64
theorem scLawFormula : FnScope ["_law_formula_here", "_law_values", "_law_numbers", "_law_one", "_law_factor"] ["_law_formula_here", "_law_values"] (defScope sLawFormula) := ⟨rfl, rfl, rfl, by decide +kernel, rfl, by decide +kernel, by decide +kernel⟩
abbrev sLawTrue : Stmt := top 65
theorem scLawTrue : FnScope ["_law_parts", "_law_world_here", "_law_tick", "_law_found", "_law_name"] ["_law_parts", "_law_world_here", "_law_tick"] (defScope sLawTrue) := ⟨rfl, rfl, rfl, by decide +kernel, rfl, by decide +kernel, by decide +kernel⟩
def LTrue : List D → Sl → Prop := fun ds r => ∃ s v w t, NetOk s v ∧ fits s w t ∧ ds = [netp s v, .dct (wdD w), .int t] ∧ r = .od (numD (valsAt s v w t))
theorem vw_at {v : Vws} {i : Nat} {d : D} (h : (keysD (vwD v))[i]? = some d) : ∃ x, v[i]? = some x ∧ d = .str x.1 := by
  simp only [keysD, vwD, List.getElem?_map, Option.map_eq_some_iff] at h
  obtain ⟨q, ⟨x, h1, rfl⟩, rfl⟩ := h
  exact ⟨x, h1, rfl⟩
theorem NetOk.look {s : Srcs} {v : Vws} (h : NetOk s v) {x : Str × Fm × Int} (hx : x ∈ v) : look (vwD v) (Sum.inr x.1) = some (.tup [x.2.1.d, .int x.2.2]) := by
  rw [look_vw, aget_nd (okV_nd h.ord).2 x hx]
  rfl
def baseTD (w : Wd) (t : Int) : D → D
  | .str n => .tup [.str n, .int (nthI ((aget w n).getD []) t)]
  | _ => .non
theorem baseT_eq (s : Srcs) (w : Wd) (t : Int) : (keysD (srcD s)).map (baseTD w t) = itemsD (numD (base0 s w t)) := by
  simp only [keysD, srcD, itemsD, numD, base0, List.map_map]
  rfl
theorem num_nd {kn : Nums} (h : (kn.map (·.1)).Nodup) : ((numD kn).map (·.1)).Nodup := by
  rw [show (numD kn).map (·.1) = (kn.map (·.1)).map (fun x => (Sum.inr x : Key)) by simp only [numD, List.map_map]; rfl]
  exact List.Pairwise.map _ (fun a b h z => h (Sum.inr.inj z)) h
theorem at_min {ns : List Int} (h : 0 < ns.length) : atI ((sortI ns).map D.int) 0 = some (.int (minI ns)) := atI_nat (j := 0) (by rw [List.getElem?_map, sort_min h]; rfl)
theorem at_max {ns : List Int} (h : 0 < ns.length) : atI ((sortI ns).map D.int) (-1) = some (.int (maxI ns)) := by
  have hl : (sortI ns).length = ns.length := (sortI_perm ns).length_eq
  exact atI_last (by rw [List.length_map, hl]; exact h) (by rw [List.getElem?_map, List.length_map, sort_max h]; rfl)
section
variable {P : Program} {w : World} {K : PySem.W.Frag} {mg : Str → Option Value} {base : Heap} {N : Addr}
theorem ok_lawFormula {f : Addr} {fd : FuncData} (F : Fun K "_law_formula" "_law_formula" sLawFormula f fd) (B : Bl mg) : FnOk P w K mg base CX0 1 f fd ["_law_formula_here", "_law_values"] (spR K FComputed) := by
  refine fn_ok F scLawFormula (fun ds r h => ?_) fun cdv A outer s H E hr ds r h => ?_
  · obtain ⟨fm, kn, _, _, rfl, _⟩ := h
    rfl
  · obtain ⟨fm, kn, ht, hk, rfl, rfl⟩ := h
    refine hf_r ?_
    have hu := hu_of hr
    have h4 := ht.four
    have h1' := ht.one
    have hlook : ∀ x ∈ fm.ins, look (numD kn) (Sum.inr x) = some (.int ((kn.get? x).getD 0)) := fun x hx => by
      rw [look_num]
      obtain ⟨n, hn⟩ := Option.isSome_iff_exists.mp (hk x hx)
      rw [hn]
      rfl
    cases fm with
    | sum ts =>
      refine hr_when (t := true) (ht_eq (ht_cmpG (hg_ix (hg_var 0 rfl) hg_int rfl rfl) hg_str v_eqS) (by simp [Fm.kind])) (fun _ => ?_) fun z => by cases z
      refine hr_ret (he_callB (hea_cons (he_sh (he_eq (he_map (f := fun d => match d with | .tup [.int n, .str x] => .int (n * (kn.get? x).getD 0) | _ => .non) [("_law_factor", 4), ("_law_one", 3)] [4, 3] (hi_seq (he_hg (hg_ix (hg_var 0 rfl) hg_int rfl rfl)) (.inr rfl)) scLawFormula.nd (blkOk_by (N := ["_law_formula_here", "_law_values", "_law_numbers", "_law_one", "_law_factor"]) (sc := defScope sLawFormula) (by decide +kernel)) ?_ (fun i d hd => ?_)) (?_ : _ = Sl.ol ((ts.map fun t => t.1 * (kn.get? t.2).getD 0).map D.int)))) hea_nil) (c_sum rfl) (by rfl) B.sum PyProof.Rows.boot_sum)
      · simp only [Fm.ins, List.length_map] at h4 ⊢; omega
      · obtain ⟨t, h1, rfl⟩ := List.mem_map.mp (List.mem_of_getElem? hd)
        obtain ⟨f1, f2, _⟩ := ht.fac ts rfl t h1
        exact ⟨_, fun s H C cl fp => hb_tup (hbs_cons (hb_name 4 scLawFormula.nd) (hbs_cons (hb_name 3 scLawFormula.nd) hbs_nil)), _, fun s H C cl fp => he_hg (hg_op (hg_var 4 rfl) (hg_get (ky := Sum.inr t.2) hu (hg_var 1 rfl) (hg_var 3 rfl) rfl (hlook t.2 (List.mem_map.mpr ⟨t, h1, rfl⟩))) (v_mul (.inl ⟨by omega, by omega⟩))), rfl⟩
      · simp [termD, Function.comp_def]
    | mn xs =>
      have h4' : xs.length ≤ 4 := h4
      have h1'' : 1 ≤ xs.length := h1'
      refine hr_when (t := false) (ht_eq (ht_cmpG (hg_ix (hg_var 0 rfl) hg_int rfl rfl) hg_str v_eqS) (by simp [Fm.kind, nms, nxs])) (fun z => by cases z) fun _ => ?_
      refine hr_cons (hs_set 2 (he_sorted (ns := xs.map fun x => (kn.get? x).getD 0) (he_sh (s := .ol ((xs.map fun x => (kn.get? x).getD 0).map D.int)) (he_eq (he_map (f := fun d => match d with | .str x => .int ((kn.get? x).getD 0) | _ => .non) [("_law_one", 3)] [3] (hi_seq (he_hg (hg_ix (hg_var 0 rfl) hg_int rfl rfl)) (.inr rfl)) scLawFormula.nd (blkOk_by (N := ["_law_formula_here", "_law_values", "_law_numbers", "_law_one", "_law_factor"]) (sc := defScope sLawFormula) (by decide +kernel)) ?_ (fun i d hd => ?_)) ?_)) (by rw [List.length_map]; omega) B.sorted) scLawFormula.nd) ?_
      · rw [List.length_map]; omega
      · obtain ⟨x, h1, rfl⟩ := List.mem_map.mp (List.mem_of_getElem? hd)
        exact ⟨_, fun s H C cl fp => hb_name 3 scLawFormula.nd, _, fun s H C cl fp => he_hg (hg_get (ky := Sum.inr x) hu (hg_var 1 rfl) (hg_var 3 rfl) rfl (hlook x h1)), rfl⟩
      · simp [Function.comp_def]
      exact hr_ret (he_if (t := true) (ht_eq (ht_cmpG (hg_ix (hg_var 0 rfl) hg_int rfl rfl) hg_str v_eqS) (by simp [Fm.kind])) (fun _ => he_hg (hg_ix (hg_var 2 rfl) hg_int rfl (at_min (by rw [List.length_map]; omega)))) fun z => by cases z)
    | mx xs =>
      have h4' : xs.length ≤ 4 := h4
      have h1'' : 1 ≤ xs.length := h1'
      refine hr_when (t := false) (ht_eq (ht_cmpG (hg_ix (hg_var 0 rfl) hg_int rfl rfl) hg_str v_eqS) (by simp [Fm.kind, nms, nxs])) (fun z => by cases z) fun _ => ?_
      refine hr_cons (hs_set 2 (he_sorted (ns := xs.map fun x => (kn.get? x).getD 0) (he_sh (s := .ol ((xs.map fun x => (kn.get? x).getD 0).map D.int)) (he_eq (he_map (f := fun d => match d with | .str x => .int ((kn.get? x).getD 0) | _ => .non) [("_law_one", 3)] [3] (hi_seq (he_hg (hg_ix (hg_var 0 rfl) hg_int rfl rfl)) (.inr rfl)) scLawFormula.nd (blkOk_by (N := ["_law_formula_here", "_law_values", "_law_numbers", "_law_one", "_law_factor"]) (sc := defScope sLawFormula) (by decide +kernel)) ?_ (fun i d hd => ?_)) ?_)) (by rw [List.length_map]; omega) B.sorted) scLawFormula.nd) ?_
      · rw [List.length_map]; omega
      · obtain ⟨x, h1, rfl⟩ := List.mem_map.mp (List.mem_of_getElem? hd)
        exact ⟨_, fun s H C cl fp => hb_name 3 scLawFormula.nd, _, fun s H C cl fp => he_hg (hg_get (ky := Sum.inr x) hu (hg_var 1 rfl) (hg_var 3 rfl) rfl (hlook x h1)), rfl⟩
      · simp [Function.comp_def]
      exact hr_ret (he_if (t := false) (ht_eq (ht_cmpG (hg_ix (hg_var 0 rfl) hg_int rfl rfl) hg_str v_eqS) (by simp [Fm.kind, nxm])) (fun z => by cases z) fun _ => he_hg (hg_ix (hg_var 2 rfl) (hg_neg hg_int) rfl (at_max (by rw [List.length_map]; omega))))
theorem ok_lawTrue {f : Addr} {fd : FuncData} (F : Fun K "_law_true" "_law_true" sLawTrue f fd) (B : Bl mg) (c1 : Fd P w K mg base 1 "_law_formula" FComputed) : FnOk P w K mg base CX0 2 f fd ["_law_parts", "_law_world_here", "_law_tick"] (spR K LTrue) := by
  refine fn_ok F scLawTrue (fun ds r h => ?_) fun cdv A outer s H E hr ds r h => ?_
  · obtain ⟨s, v, w, t, _, _, rfl, _⟩ := h
    rfl
  · obtain ⟨ss, vv, wd, t, hs, hf, rfl, rfl⟩ := h
    have hu := hu_of hr
    have hlen := hs.len
    refine hf_r ?_
    refine hr_cons (hs_set 3 (he_dictP (ks := numD (base0 ss wd t)) (he_sh (s := .ol (itemsD (numD (base0 ss wd t)))) (he_eq (he_map (f := baseTD wd t) [("_law_name", 4)] [4] (hi_keys (he_hg (hg_ix (hg_var 0 rfl) hg_int rfl rfl))) scLawTrue.nd (blkOk_by (N := ["_law_parts", "_law_world_here", "_law_tick", "_law_found", "_law_name"]) (sc := defScope sLawTrue) (by decide +kernel)) ?_ (fun i d hd => ?_)) (by rw [baseT_eq]))) (num_nd ?_) B.dict) scLawTrue.nd) ?_
    · simp only [keysD, srcD, List.length_map]; omega
    · obtain ⟨x, h1, rfl⟩ := src_at hd
      obtain ⟨xs, h3, h4⟩ := hf.2 x (List.mem_of_getElem? h1)
      have hlk := look_wd wd x.1
      rw [h3] at hlk
      refine ⟨_, fun s H C cl fp => hb_name 4 scLawTrue.nd, _, fun s H C cl fp => he_eq (he_tup (hea_cons (he_hg (hg_var 4 rfl)) (hea_cons (he_hg (hg_ix (hg_get (ky := Sum.inr x.1) hu (hg_var 1 rfl) (hg_var 4 rfl) rfl hlk) (hg_var 2 rfl) rfl (at_nth hf.1 h4))) hea_nil)) (Nat.le_of_ble_eq_true rfl)) ?_, rfl⟩
      simp [baseTD, h3]
    · have e : (base0 ss wd t).map (·.1) = ss.map (·.1) := by simp only [base0, List.map_map]; rfl
      rw [e]
      exact hs.src.nd
    refine hr_cons (hs_for (is := [4]) (hi_keys (he_hg (hg_ix (hg_var 0 rfl) hg_int rfl rfl))) (fun n => [some (.sh (netp ss vv)), some (.sh (.dct (wdD wd))), some (.sh (.int t)), some (.od (numD (valsFrom (base0 ss wd t) (vv.take n)))), none]) rfl fun n d hd => ?_) ?_
    · obtain ⟨x, h3, rfl⟩ := vw_at hd
      have hv := hs.vw x (List.mem_of_getElem? h3)
      have hin := vals_at (fun x hx => hx) (cov_base ss wd t) hs.ord n x h3
      have hl := len_vals (vv.take n) (base0 ss wd t)
      simp only [base0, List.length_map, List.length_take] at hl
      refine ⟨_, hb_name 4 scLawTrue.nd, .inl ?_⟩
      refine hs_le (hs_one (hs_dput 3 (ky := Sum.inr x.1) hu (he_callS c1 (hr.mono (by decide)) (hga_cons (hg_ix (hg_get (ky := Sum.inr x.1) hu (hg_ix (hg_var 0 rfl) hg_int rfl rfl) (hg_var 4 rfl) rfl (hs.look (List.mem_of_getElem? h3))) hg_int rfl rfl) (hga_cons (hg_var 3 rfl) hga_nil)) ⟨x.2.1, _, hv.fm, hin, rfl, rfl⟩ rfl) rfl (hg_var 4 rfl) ?_)) ?_
      · simp only [numD, List.length_map, base0]; omega
      · rw [vals_succ _ _ _ _ h3, put_num]
        exact .s (.s (.s (.s (.w .n))))
    have hlt : vv.take (keysD (vwD vv)).length = vv := List.take_of_length_le (by simp [keysD, vwD])
    exact hr_ret (he_eq (he_take 3 rfl) (congrArg Sl.od (congrArg numD (by rw [hlt]; rfl))))
end
end KX
set_option Elab.async false
set_option linter.all false
set_option maxRecDepth 100000
set_option maxHeartbeats 1000000
namespace KX
open PySem L2 PL
inductive Lvl (s : Srcs) (v : Vws) : Nat → Str → Prop
  | src {n : Nat} {x : Str} (h : x ∈ s.map (·.1)) : Lvl s v n x
  | vw {n : Nat} {x : Str} {p : Fm × Int} (h : aget v x = some p) (hn : x ∉ s.map (·.1)) (hi : ∀ y ∈ p.1.ins, Lvl s v n y) : Lvl s v (n + 1) x
theorem Lvl.succ {s : Srcs} {v : Vws} {n : Nat} {x : Str} (h : Lvl s v n x) : Lvl s v (n + 1) x := by
  induction h with
  | src h => exact .src h
  | vw h hn hi ih => exact .vw h hn ih
theorem Lvl.mono {s : Srcs} {v : Vws} {n m : Nat} {x : Str} (h : Lvl s v n x) (l : n ≤ m) : Lvl s v m x := by
  induction l with
  | refl => exact h
  | step _ ih => exact ih.succ
theorem lvl_all {s : Srcs} {v : Vws} : ∀ {v' : Vws} {seen free : List Str} {n : Nat}, okV seen free v' → (∀ y ∈ free, y ∈ seen) → (∀ x ∈ v', aget v x.1 = some x.2 ∧ x.1 ∉ s.map (·.1)) → (∀ y ∈ seen, Lvl s v n y) → ∀ x ∈ seen ++ v'.map (·.1), Lvl s v (n + v'.length) x
  | [], seen, free, n, _, _, _, h, x, hx => by
    rw [List.map_nil, List.append_nil] at hx
    exact h x hx
  | (nm, f, c) :: r, seen, free, n, o, hf, ha, h, x, hx => by
    simp only [okV] at o
    obtain ⟨h1, h2⟩ := ha _ List.mem_cons_self
    have hl : Lvl s v (n + 1) nm := .vw h1 h2 fun y hy => h y (hf y (o.2.2.1 y hy))
    have := lvl_all (v' := r) (seen := seen ++ [nm]) (n := n + 1) o.2.2.2 (fun y hy => by
      rcases List.mem_append.mp hy with z | z
      · exact List.mem_append_left _ (hf y (List.mem_filter.mp z).1)
      · exact List.mem_append_right _ z) (fun x hx => ha x (List.mem_cons_of_mem _ hx)) (fun y hy => by
      rcases List.mem_append.mp hy with z | z
      · exact (h y z).succ
      · rw [List.mem_singleton.mp z]; exact hl) x (by rw [List.append_assoc]; exact hx)
    rw [List.length_cons, show n + (r.length + 1) = n + 1 + r.length by omega]
    exact this
theorem NetOk.lvl {s : Srcs} {v : Vws} (h : NetOk s v) {x : Str} (hx : x ∈ nds s v) : Lvl s v 7 x := by
  obtain ⟨h1, h2⟩ := okV_nd h.ord
  have := lvl_all (s := s) (v := v) (n := 0) h.ord (fun y hy => hy) (fun x hx => ⟨aget_nd h2 x hx, h1 x hx⟩) (fun y hy => .src hy) x hx
  refine this.mono ?_
  have h3 := h.len
  have h4 := h.src.one
  omega
def belowF (s : Srcs) (v : Vws) : Nat → Str → List Str
  | 0, x => [x]
  | n + 1, x => if x ∈ s.map (·.1) then [x] else match aget v x with
    | some p => p.1.ins.flatMap (belowF s v n) ++ [x]
    | none => []
theorem sum_bound {α : Type} (g : α → List Str) (b : Nat) : ∀ (l : List α), (∀ x ∈ l, (g x).length ≤ b) → (l.flatMap g).length ≤ l.length * b
  | [], _ => Nat.zero_le _
  | x :: r, h => by
    have h1 := sum_bound g b r fun y hy => h y (List.mem_cons_of_mem _ hy)
    have h2 := h x List.mem_cons_self
    rw [List.flatMap_cons, List.length_append, List.length_cons, Nat.succ_mul]
    omega
theorem len_below {s : Srcs} {v : Vws} (hv : ∀ x ∈ v, VwOk x) : ∀ (n : Nat) (x : Str), (belowF s v n x).length + 1 ≤ 2 * 4 ^ n
  | 0, x => by simp [belowF]
  | n + 1, x => by
    have ih := len_below (s := s) hv n
    have hp : 0 < 4 ^ n := Nat.pow_pos (by decide)
    simp only [belowF]
    rw [Nat.pow_succ]
    split
    · simp only [List.length_cons, List.length_nil]; omega
    · cases e : aget v x with
      | none => simp only [List.length_nil]; omega
      | some p =>
        have h4 := (hv _ (aget_mem e)).fm.four
        have := sum_bound (belowF s v n) (2 * 4 ^ n - 1) p.1.ins fun y _ => by have := ih y; omega
        have h5 := Nat.mul_le_mul_right (2 * 4 ^ n - 1) h4
        simp only [List.length_append, List.length_cons, List.length_nil]
        have h6 : List.length p.1.ins * (2 * 4 ^ n - 1) ≤ 4 * (2 * 4 ^ n - 1) := h5
        omega
def okP : List Str → Vws → Prop
  | _, [] => True
  | seen, e :: r => e.1 ∉ seen ∧ (∀ z ∈ e.2.1.ins, z ∈ seen) ∧ okP (seen ++ [e.1]) r
theorem okV_P : ∀ {v : Vws} {seen free : List Str}, (∀ x ∈ free, x ∈ seen) → okV seen free v → okP seen v
  | [], _, _, _, _ => True.intro
  | (n, f, c) :: r, seen, free, hf, h => by
    simp only [okV] at h
    refine ⟨h.1, fun z hz => hf z (h.2.2.1 z hz), okV_P (fun x hx => ?_) h.2.2.2⟩
    rcases List.mem_append.mp hx with z | z
    · exact List.mem_append_left _ (hf x (List.mem_filter.mp z).1)
    · exact List.mem_append_right _ z
theorem okP_app : ∀ {a b : Vws} {seen : List Str}, okP seen (a ++ b) → okP seen a ∧ okP (seen ++ a.map (·.1)) b
  | [], b, seen, h => ⟨True.intro, by simpa using h⟩
  | e :: a, b, seen, h => by
    obtain ⟨h1, h2, h3⟩ := (show okP seen (e :: (a ++ b)) from h)
    obtain ⟨h4, h5⟩ := okP_app h3
    refine ⟨⟨h1, h2, h4⟩, ?_⟩
    rw [List.append_assoc] at h5
    exact h5
theorem okP_new : ∀ {a : Vws} {seen : List Str}, okP seen a → ∀ e ∈ a, e.1 ∉ seen
  | x :: a, seen, h, e, he => by
    rcases List.mem_cons.mp he with z | z
    · rw [z]; exact h.1
    · exact fun q => okP_new h.2.2 e z (List.mem_append_left _ q)
theorem okP_ins : ∀ {a : Vws} {seen : List Str}, okP seen a → ∀ e ∈ a, ∀ z ∈ e.2.1.ins, z ∈ seen ++ a.map (·.1)
  | x :: a, seen, h, e, he, z, hz => by
    rcases List.mem_cons.mp he with q | q
    · rw [q] at hz; exact List.mem_append_left _ (h.2.1 z hz)
    · have := okP_ins h.2.2 e q z hz
      rw [List.append_assoc] at this
      exact this
inductive Bel (v : Vws) : Str → Str → Prop
  | refl (x : Str) : Bel v x x
  | step {x z y : Str} {p : Fm × Int} : aget v x = some p → z ∈ p.1.ins → Bel v z y → Bel v x y
theorem aget_app {α : Type} : ∀ (a b : List (Str × α)) (x : Str), aget (a ++ b) x = (aget a x).or (aget b x)
  | [], b, x => by simp [aget]
  | (y, n) :: a, b, x => by
    simp only [List.cons_append, aget]
    by_cases z : y = x
    · rw [if_pos z, if_pos z]; rfl
    · rw [if_neg z, if_neg z]; exact aget_app a b x
theorem aget_none {α : Type} {l : List (Str × α)} {x : Str} (h : x ∉ l.map (·.1)) : aget l x = none := by
  cases e : aget l x with
  | none => rfl
  | some a => have := aget_isSome (l := l) (x := x); rw [e] at this; exact absurd (of_decide_eq_true this.symm) h
theorem bel_more {a b : Vws} {x y : Str} (h : Bel a x y) : Bel (a ++ b) x y := by
  induction h with
  | refl x => exact .refl x
  | step h1 h2 _ ih => exact .step (by rw [aget_app, h1]; rfl) h2 ih
theorem bel_less {a : Vws} {e : Str × Fm × Int} (h : ∀ c ∈ a, e.1 ∉ c.2.1.ins) {x y : Str} (hb : Bel (a ++ [e]) x y) : x ≠ e.1 → Bel a x y := by
  induction hb with
  | refl x => exact fun _ => .refl x
  | @step x z y p h1 h2 _ ih =>
    intro hx
    have h3 : aget a x = some p := by
      rw [aget_app] at h1
      cases q : aget a x with
      | some p' => rw [q] at h1; exact h1
      | none =>
        rw [q] at h1
        have h1 : aget [e] x = some p := h1
        simp only [aget] at h1
        rw [if_neg (fun z => hx z.symm)] at h1
        cases h1
    exact .step h3 h2 (ih fun z => h _ (aget_mem h3) (z ▸ h2))
theorem reach_bel (y : Str) {seen : List Str} : ∀ (r : Vws) (l : List Str), okP seen r.reverse → (y ∈ reach l r ↔ ∃ x ∈ l, Bel r.reverse x y)
  | [], l, _ => by
    simp only [reach, List.foldl_nil, List.reverse_nil]
    refine ⟨fun h => ⟨y, h, .refl y⟩, fun ⟨x, hx, hb⟩ => ?_⟩
    cases hb with
    | refl => exact hx
    | step h _ _ => simp [aget] at h
  | e :: r, l, ho => by
    rw [List.reverse_cons] at ho ⊢
    obtain ⟨o1, o2⟩ := okP_app ho
    have he : e.1 ∉ seen ++ r.reverse.map (·.1) := o2.1
    have hin : ∀ z ∈ e.2.1.ins, z ∈ seen ++ r.reverse.map (·.1) := o2.2.1
    have hno : ∀ c ∈ r.reverse, e.1 ∉ c.2.1.ins := fun c hc q => he (okP_ins o1 c hc _ q)
    have hag : aget (r.reverse ++ [e]) e.1 = some e.2 := by
      rw [aget_app, aget_none (fun q => he (List.mem_append_right _ q))]
      simp [aget]
    have hne : ∀ z ∈ e.2.1.ins, z ≠ e.1 := fun z hz q => he (q ▸ hin z hz)
    have ih := reach_bel y (seen := seen) r (if e.1 ∈ l then l ++ e.2.1.ins else l) o1
    show y ∈ reach (if e.1 ∈ l then l ++ e.2.1.ins else l) r ↔ _
    rw [ih]
    constructor
    · rintro ⟨x, hx, hb⟩
      by_cases z : e.1 ∈ l
      · rw [if_pos z] at hx
        rcases List.mem_append.mp hx with q | q
        · exact ⟨x, q, bel_more hb⟩
        · exact ⟨e.1, z, .step hag q (bel_more hb)⟩
      · rw [if_neg z] at hx
        exact ⟨x, hx, bel_more hb⟩
    · rintro ⟨x, hx, hb⟩
      by_cases z : x = e.1
      · subst z
        rw [if_pos hx]
        cases hb with
        | refl => exact ⟨_, List.mem_append_left _ hx, .refl _⟩
        | step h1 h2 h3 =>
          rw [hag] at h1
          cases h1
          exact ⟨_, List.mem_append_right _ h2, bel_less hno h3 (hne _ h2)⟩
      · refine ⟨x, ?_, bel_less hno hb z⟩
        split
        · exact List.mem_append_left _ hx
        · exact hx
theorem bel_src {v : Vws} {x y : Str} (h : x ∉ v.map (·.1)) (hb : Bel v x y) : y = x := by
  cases hb with
  | refl => rfl
  | step h1 _ _ => rw [aget_none h] at h1; cases h1
theorem below_bel {s : Srcs} {v : Vws} (hs : ∀ x ∈ s.map (·.1), x ∉ v.map (·.1)) (y : Str) {n : Nat} {x : Str} (h : Lvl s v n x) : y ∈ belowF s v n x ↔ Bel v x y := by
  have hsrc : ∀ {x : Str}, x ∈ s.map (·.1) → (y ∈ [x] ↔ Bel v x y) := fun {x} hx => by
    rw [List.mem_singleton]
    exact ⟨fun e => e ▸ .refl _, bel_src (hs x hx)⟩
  induction h with
  | @src n x hx =>
    cases n with
    | zero => exact hsrc hx
    | succ n =>
      simp only [belowF]
      rw [if_pos hx]
      exact hsrc hx
  | @vw n x p h hn hi ih =>
    simp only [belowF]
    rw [if_neg hn, h]
    simp only [List.mem_append, List.mem_flatMap, List.mem_singleton]
    constructor
    · rintro (⟨z, hz, q⟩ | rfl)
      · exact .step h hz ((ih z hz).mp q)
      · exact .refl _
    · intro hb
      cases hb with
      | refl => exact .inr rfl
      | step h1 h2 h3 =>
        rw [h] at h1
        cases h1
        exact .inl ⟨_, h2, (ih _ h2).mpr h3⟩
theorem bel_closed {v : Vws} {S : List Str} (hc : ∀ e ∈ v, e.1 ∈ S → ∀ z ∈ e.2.1.ins, z ∈ S) {x y : Str} (hb : Bel v x y) : x ∈ S → y ∈ S := by
  induction hb with
  | refl => exact id
  | step h1 h2 _ ih => exact fun hx => ih (hc _ (aget_mem h1) hx _ h2)
theorem below_eq {s : Srcs} {v : Vws} (h : NetOk s v) {x : Str} (hx : x ∈ nds s v) : ((nds s v).filter fun y => decide (y ∈ (belowF s v 7 x).dropLast)) = belowL s v x := by
  have hP := okV_P (fun x hx => hx) h.ord
  have hs : ∀ x ∈ s.map (·.1), x ∉ v.map (·.1) := fun x hx q => by
    obtain ⟨e, he, rfl⟩ := List.mem_map.mp q
    exact okP_new hP e he hx
  have hP' : okP (s.map (·.1)) v.reverse.reverse := by rw [List.reverse_reverse]; exact hP
  unfold belowL
  refine List.filter_congr fun y _ => ?_
  have hr := reach_bel y v.reverse [x] hP'
  rw [List.reverse_reverse] at hr
  rw [Bool.eq_iff_iff]
  simp only [Bool.and_eq_true, Bool.not_eq_true', decide_eq_true_eq, decide_eq_false_iff_not]
  rw [hr]
  have hone : (∃ z ∈ [x], Bel v z y) ↔ Bel v x y := ⟨fun ⟨z, hz, q⟩ => List.mem_singleton.mp hz ▸ q, fun q => ⟨x, List.mem_singleton.mpr rfl, q⟩⟩
  rw [hone]
  by_cases z : x ∈ s.map (·.1)
  · have : belowF s v 7 x = [x] := by simp only [belowF]; rw [if_pos z]
    rw [this]
    exact ⟨fun q => (List.not_mem_nil q).elim, fun ⟨q, ne⟩ => absurd (bel_src (hs x z) q) ne⟩
  · have hxv : x ∈ v.map (·.1) := (List.mem_append.mp hx).resolve_left z
    obtain ⟨e, he, rfl⟩ := List.mem_map.mp hxv
    have hag : aget v e.1 = some e.2 := aget_nd (okV_nd h.ord).2 e he
    have hb : belowF s v 7 e.1 = e.2.1.ins.flatMap (belowF s v 6) ++ [e.1] := by
      simp only [belowF]; rw [if_neg z, hag]
    rw [hb, List.dropLast_concat, List.mem_flatMap]
    have hlv : ∀ w ∈ e.2.1.ins, Lvl s v 6 w := by
      have := h.lvl hx
      cases this with
      | src q => exact absurd q z
      | vw q _ hi => rw [hag] at q; cases q; exact hi
    obtain ⟨a, c, hac⟩ := List.append_of_mem he
    have hPa := hP
    rw [hac] at hPa
    obtain ⟨p1, p2⟩ := okP_app hPa
    have hclosed : ∀ w ∈ v, w.1 ∈ s.map (·.1) ++ a.map (·.1) → ∀ u ∈ w.2.1.ins, u ∈ s.map (·.1) ++ a.map (·.1) := fun w hw hS u hu => by
      rw [hac] at hw
      rcases List.mem_append.mp hw with q | q
      · exact okP_ins p1 w q u hu
      · exact absurd hS (okP_new p2 w q)
    constructor
    · rintro ⟨w, hw, q⟩
      have hb' := (below_bel hs y (hlv w hw)).mp q
      refine ⟨.step hag hw hb', fun ye => ?_⟩
      exact p2.1 (ye ▸ bel_closed hclosed hb' (p2.2.1 w hw))
    · rintro ⟨q, ne⟩
      cases q with
      | refl => exact absurd rfl ne
      | step h1 h2 h3 =>
        rw [hag] at h1
        cases h1
        exact ⟨_, h2, (below_bel hs y (hlv _ h2)).mpr h3⟩
end KX
set_option Elab.async false
set_option linter.all false
set_option maxRecDepth 100000
set_option maxHeartbeats 1000000
namespace KX
open PySem L2 PL
abbrev sLawInputs : Stmt := top 62
theorem scLawInputs : FnScope ["_law_parts", "_law_name", "_law_word", "_law_inputs_here", "_law_one"] ["_law_parts", "_law_name"] (defScope sLawInputs) := ⟨rfl, rfl, rfl, by decide +kernel, rfl, by decide +kernel, by decide +kernel⟩
abbrev sLawUnder : Stmt := top 63
theorem scLawUnder : FnScope ["_law_parts", "_law_name", "_law_found", "_law_one"] ["_law_parts", "_law_name"] (defScope sLawUnder) := ⟨rfl, rfl, rfl, by decide +kernel, rfl, by decide +kernel, by decide +kernel⟩
/-! ### nodes below, by the law -/
def insOf (v : Vws) (x : Str) : List Str := match aget v x with
  | some p => p.1.ins
  | none => []
def underF (v : Vws) : Nat → Str → List Str
  | 0, x => [x]
  | n + 1, x => x :: (insOf v x).flatMap (underF v n)
def LInputs : List D → Sl → Prop := fun ds r => ∃ s v x, NetOk s v ∧ ds = [netp s v, .str x] ∧ r = .ol ((insOf v x).map D.str)
def LUnder (n : Nat) : List D → Sl → Prop := fun ds r => ∃ s v x, NetOk s v ∧ n ≤ 7 ∧ Lvl s v n x ∧ ds = [netp s v, .str x] ∧ r = .ol ((underF v n x).map D.str)
theorem NetOk.apart {s : Srcs} {v : Vws} (h : NetOk s v) : ∀ x ∈ s.map (·.1), x ∉ v.map (·.1) := fun x hx q => by
  obtain ⟨e, he, rfl⟩ := List.mem_map.mp q
  exact (okV_nd h.ord).1 e he hx
theorem ins_src {s : Srcs} {v : Vws} (h : NetOk s v) {x : Str} (hx : x ∈ s.map (·.1)) : insOf v x = [] := by
  unfold insOf
  rw [aget_none (h.apart x hx)]
theorem under_src {s : Srcs} {v : Vws} (h : NetOk s v) {x : Str} (hx : x ∈ s.map (·.1)) : ∀ n, underF v n x = [x]
  | 0 => rfl
  | n + 1 => by simp only [underF, ins_src h hx, List.flatMap_nil]
theorem ins_len {s : Srcs} {v : Vws} (h : NetOk s v) (x : Str) : (insOf v x).length ≤ 4 := by
  unfold insOf
  cases e : aget v x with
  | none => simp
  | some p => exact (h.vw _ (aget_mem e)).fm.four
theorem len_under {s : Srcs} {v : Vws} (h : NetOk s v) : ∀ (n : Nat) (x : Str), (underF v n x).length + 1 ≤ 2 * 4 ^ n
  | 0, x => by simp [underF]
  | n + 1, x => by
    have ih := len_under h n
    have hp : 0 < 4 ^ n := Nat.pow_pos (by decide)
    have h1 := sum_bound (underF v n) (2 * 4 ^ n - 1) (insOf v x) fun y _ => by have := ih y; omega
    have h5 := Nat.mul_le_mul_right (2 * 4 ^ n - 1) (ins_len h x)
    simp only [underF, List.length_cons]
    rw [Nat.pow_succ]
    omega
theorem under_mem {s : Srcs} {v : Vws} (hs : NetOk s v) (y : Str) {n : Nat} {x : Str} (h : Lvl s v n x) : y ∈ underF v n x ↔ y ∈ belowF s v n x := by
  induction h with
  | @src n x hx =>
    rw [under_src hs hx]
    cases n with
    | zero => rfl
    | succ n => simp only [belowF]; rw [if_pos hx]
  | @vw n x p h hn hi ih =>
    simp only [belowF, underF, insOf]
    rw [if_neg hn, h]
    simp only [List.mem_cons, List.mem_append, List.mem_flatMap, List.not_mem_nil, or_false]
    constructor
    · rintro (rfl | ⟨z, hz, q⟩)
      · exact .inr rfl
      · exact .inl ⟨z, hz, (ih z hz).mp q⟩
    · rintro (⟨z, hz, q⟩ | rfl)
      · exact .inr ⟨z, hz, (ih z hz).mpr q⟩
      · exact .inl rfl
theorem under_eq {s : Srcs} {v : Vws} (h : NetOk s v) {x : Str} (hx : x ∈ nds s v) : ((nds s v).filter fun y => decide (y ∈ (underF v 7 x).drop 1)) = belowL s v x := by
  rw [← below_eq h hx]
  refine List.filter_congr fun y _ => decide_eq_decide.mpr ?_
  have hl := h.lvl hx
  cases hl with
  | src q => rw [under_src h q]; simp only [belowF]; rw [if_pos q]; simp
  | @vw n _ p ha hn hi =>
    simp only [belowF, underF, insOf]
    rw [if_neg hn, ha]
    simp only [List.drop_succ_cons, List.drop_zero, List.dropLast_concat, List.mem_flatMap]
    exact ⟨fun ⟨z, hz, q⟩ => ⟨z, hz, (under_mem h y (hi z hz)).mp q⟩, fun ⟨z, hz, q⟩ => ⟨z, hz, (under_mem h y (hi z hz)).mpr q⟩⟩
section
variable {P : Program} {w : World} {K : PySem.W.Frag} {mg : Str → Option Value} {base : Heap} {N : Addr}
theorem ok_lawInputs {f : Addr} {fd : FuncData} (F : Fun K "_law_inputs" "_law_inputs" sLawInputs f fd) (B : Bl mg) : FnOk P w K mg base CX0 1 f fd ["_law_parts", "_law_name"] (spR K LInputs) := by
  refine fn_ok F scLawInputs (fun ds r h => ?_) fun cdv A outer s H E hr ds r h => ?_
  · obtain ⟨s, v, x, _, rfl, _⟩ := h
    rfl
  · obtain ⟨ss, vv, x, hs, rfl, rfl⟩ := h
    have hu := hu_of hr
    refine hf_r ?_
    have hlk := look_vw vv x
    cases ha : aget vv x with
    | none =>
      rw [ha] at hlk
      refine hr_when (t := true) (ht_eq (ht_cmpG (hg_var 1 rfl) (hg_ix (hg_var 0 rfl) hg_int rfl rfl) (v_ninD (k := Sum.inr x) hu rfl)) (by rw [hlk]; rfl)) (fun _ => ?_) fun z => by cases z
      exact hr_ret (he_eq (he_lst hea_nil (Nat.le_of_ble_eq_true rfl)) (by simp [insOf, ha]))
    | some p =>
      rw [ha] at hlk
      have hv := hs.vw _ (aget_mem ha)
      have h4 := hv.fm.four
      refine hr_when (t := false) (ht_eq (ht_cmpG (hg_var 1 rfl) (hg_ix (hg_var 0 rfl) hg_int rfl rfl) (v_ninD (k := Sum.inr x) hu rfl)) (by rw [hlk]; rfl)) (fun z => by cases z) fun _ => ?_
      refine hr_cons (hs_asg (he_hg (hg_ix (hg_get (ky := Sum.inr x) hu (hg_ix (hg_var 0 rfl) hg_int rfl rfl) (hg_var 1 rfl) rfl hlk) hg_int rfl rfl)) (hb_tup (hbs_cons (hb_name 2 scLawInputs.nd) (hbs_cons (hb_name 3 scLawInputs.nd) hbs_nil)))) ?_
      have hins : insOf vv x = p.1.ins := by simp [insOf, ha]
      rw [hins]
      obtain ⟨fm, co⟩ := p
      cases fm with
      | sum ts =>
        refine hr_ret (he_if (t := true) (ht_eq (ht_cmpG (hg_var 2 rfl) hg_str v_eqS) (by simp [Fm.kind])) (fun _ => he_eq (he_map (f := fun d => match d with | .tup [_, x] => x | _ => .non) [("_law_one", 4)] [4] (hi_seq (he_hg (hg_var 3 rfl)) (.inr rfl)) scLawInputs.nd (blkOk_by (N := ["_law_parts", "_law_name", "_law_word", "_law_inputs_here", "_law_one"]) (sc := defScope sLawInputs) (by decide +kernel)) ?_ (fun i d hd => ?_)) ?_) fun z => by cases z)
        · simp only [Fm.ins, List.length_map] at h4 ⊢; omega
        · obtain ⟨t, h1, rfl⟩ := List.mem_map.mp (List.mem_of_getElem? hd)
          exact ⟨_, fun s H C cl fp => hb_name 4 scLawInputs.nd, _, fun s H C cl fp => he_hg (hg_ix (hg_var 4 rfl) hg_int rfl rfl), rfl⟩
        · simp [Fm.ins, termD, Function.comp_def]
      | mn xs =>
        exact hr_ret (he_if (t := false) (ht_eq (ht_cmpG (hg_var 2 rfl) hg_str v_eqS) (by simp [Fm.kind, nms, nxs])) (fun z => by cases z) fun _ => he_list (hg_var 3 rfl) rfl B.list)
      | mx xs =>
        exact hr_ret (he_if (t := false) (ht_eq (ht_cmpG (hg_var 2 rfl) hg_str v_eqS) (by simp [Fm.kind, nms, nxs])) (fun z => by cases z) fun _ => he_list (hg_var 3 rfl) rfl B.list)
theorem ok_lawUnder {f : Addr} {fd : FuncData} (F : Fun K "_law_under" "_law_under" sLawUnder f fd) (c1 : Fd P w K mg base 1 "_law_inputs" LInputs) (n : Nat) (cS : ∀ m, n = m + 1 → Fd P w K mg base (2 + m) "_law_under" (LUnder m)) : FnOk P w K mg base CX0 (2 + n) f fd ["_law_parts", "_law_name"] (spR K (LUnder n)) := by
  rw [show 2 + n = (1 + n) + 1 by omega]
  refine fn_ok F scLawUnder (fun ds r h => ?_) fun cdv A outer s H E hr ds r h => ?_
  · obtain ⟨s, v, x, _, _, _, rfl, _⟩ := h
    rfl
  · obtain ⟨ss, vv, x, hs, hn, hl, rfl, rfl⟩ := h
    have hu := hu_of hr
    refine hf_r ?_
    refine hr_cons (hs_set 2 (s := .ol ([x].map D.str)) (he_lst (hea_cons (he_hg (hg_var 1 rfl)) hea_nil) (Nat.le_of_ble_eq_true rfl)) scLawUnder.nd) ?_
    cases n with
    | zero =>
      have hx : x ∈ ss.map (·.1) := by cases hl with | src h => exact h
      refine hr_cons (hs_for (is := [3]) (hi_seq (he_sh (s := .ol ((insOf vv x).map D.str)) (he_call c1 (hr.mono (by omega)) (hea_cons (he_hg (hg_var 0 rfl)) (hea_cons (he_hg (hg_var 1 rfl)) hea_nil)) ⟨ss, vv, x, hs, rfl, rfl⟩)) (.inl rfl)) (fun _ => [some (.sh (netp ss vv)), some (.sh (.str x)), some (.ol ([x].map D.str)), none]) rfl fun j d hd => ?_) ?_
      · rw [ins_src hs hx] at hd
        simp at hd
      · exact hr_ret (he_take 2 rfl)
    | succ m =>
      have cS := cS m rfl
      have hi : ∀ y ∈ insOf vv x, Lvl ss vv m y := fun y hy => by
        cases hl with
        | src h => rw [ins_src hs h] at hy; cases hy
        | vw h hn hi => unfold insOf at hy; rw [h] at hy; exact hi y hy
      have h4 := ins_len hs x
      have h6 : 4 ^ m ≤ 4 ^ 6 := Nat.pow_le_pow_right (by decide) (by omega)
      have h6 : 4 ^ m ≤ 4096 := h6
      have hb : ∀ l : List Str, l.length ≤ 4 → (l.flatMap (underF vv m)).length ≤ 4 * (2 * 4 ^ m) := fun l hl => by
        have h1 := sum_bound (underF vv m) (2 * 4 ^ m) l fun y _ => by have := len_under hs m y; omega
        exact Nat.le_trans h1 (Nat.mul_le_mul_right _ hl)
      refine hr_cons (hs_for (is := [3]) (hi_seq (he_sh (s := .ol ((insOf vv x).map D.str)) (he_call c1 (hr.mono (by omega)) (hea_cons (he_hg (hg_var 0 rfl)) (hea_cons (he_hg (hg_var 1 rfl)) hea_nil)) ⟨ss, vv, x, hs, rfl, rfl⟩)) (.inl rfl)) (fun j => [some (.sh (netp ss vv)), some (.sh (.str x)), some (.ol ((x :: ((insOf vv x).take j).flatMap (underF vv m)).map D.str)), none]) rfl fun j d hd => ?_) ?_
      · obtain ⟨y, h5, rfl⟩ : ∃ y, (insOf vv x)[j]? = some y ∧ D.str y = d := by
          simp only [List.getElem?_map, Option.map_eq_some_iff] at hd
          exact hd
        have hb1 := hb ((insOf vv x).take j) (by rw [List.length_take]; omega)
        have hb2 := len_under hs m y
        refine ⟨_, hb_name 3 scLawUnder.nd, .inl ?_⟩
        refine hs_le (hs_one (hs_set 2 (he_share 2 rfl rfl (he_cat (he_hg (hg_var 2 rfl)) (he_sh (s := .ol ((underF vv m y).map D.str)) (he_call cS (hr.mono (by omega)) (hea_cons (he_hg (hg_var 0 rfl)) (hea_cons (he_hg (hg_var 3 rfl)) hea_nil)) ⟨ss, vv, y, hs, by omega, hi y (List.mem_of_getElem? h5), rfl, rfl⟩)) ?_)) scLawUnder.nd)) ?_
        · simp only [List.length_map, List.length_cons]; omega
        · rw [List.take_add_one, h5, List.flatMap_append]
          simp only [Option.toList, List.flatMap_cons, List.flatMap_nil, List.append_nil, List.map_cons, List.map_append, List.cons_append]
          exact .s (.s (.s (.w .n)))
      rw [List.length_map, List.take_length]
      exact hr_ret (he_take 2 rfl)
end
end KX
set_option Elab.async false
set_option linter.all false
set_option maxRecDepth 100000
set_option maxHeartbeats 1000000
namespace KX
open PySem L2 PL
abbrev sLawPlan : Stmt := top 68
theorem scLawPlan : FnScope ["_law_state", "_law_parts", "_law_horizon", "_law_luck", "_law_found", "_law_tick", "_law_name"] ["_law_state", "_law_parts", "_law_horizon", "_law_luck"] (defScope sLawPlan) := ⟨rfl, rfl, rfl, by decide +kernel, rfl, by decide +kernel, by decide +kernel⟩
abbrev sLawQuery : Stmt := top 69
theorem scLawQuery : FnScope ["_law_state", "_law_parts", "_law_horizon", "_law_name", "_law_tick"] ["_law_state", "_law_parts", "_law_horizon"] (defScope sLawQuery) := ⟨rfl, rfl, rfl, by decide +kernel, rfl, by decide +kernel, by decide +kernel⟩
/-! ### plans, drawn -/
def planRow (ws : List Int) (b luck t : Int) (st : Pl × Int) (x : Str) : Pl × Int := (if nextV ws b st.2 luck = 0 then st.1 ++ [(t, x)] else st.1, st.2 + 1)
def planTick (ws : List Int) (b luck : Int) (ns : List Str) (st : Pl × Int) (i : Nat) : Pl × Int := ns.foldl (planRow ws b luck (1 + (i : Int))) st
def planW (ws : List Int) (b luck : Int) (ns : List Str) (n : Nat) (k : Int) : Pl × Int := (List.range n).foldl (planTick ws b luck ns) ([], k)
def fullRow (ns : List Str) (i : Nat) : Pl := ns.map fun x => (1 + (i : Int), x)
def fullRefs (ns : List Str) (n : Nat) : Pl := (List.range n).flatMap (fullRow ns)
theorem planRow_k (ws : List Int) (b luck t : Int) : ∀ (l : List Str) (st : Pl × Int), (l.foldl (planRow ws b luck t) st).2 = st.2 + (l.length : Int) ∧ st.2 ≤ (l.foldl (planRow ws b luck t) st).2
  | [], st => by simp
  | a :: r, st => by
    have := planRow_k ws b luck t r (planRow ws b luck t st a)
    simp only [List.foldl_cons, List.length_cons]
    have e : (planRow ws b luck t st a).2 = st.2 + 1 := rfl
    omega
theorem planRow_sub (ws : List Int) (b luck t : Int) : ∀ (l : List Str) (st : Pl × Int) (m : Pl), st.1.Sublist m → ((l.foldl (planRow ws b luck t) st).1).Sublist (m ++ l.map fun x => (t, x))
  | [], st, m, h => by simpa using h
  | a :: r, st, m, h => by
    have h1 : ((planRow ws b luck t st a).1).Sublist (m ++ [(t, a)]) := by
      unfold planRow
      dsimp only
      split
      · exact h.append (List.Sublist.refl _)
      · exact h.trans (List.sublist_append_left _ _)
    have := planRow_sub ws b luck t r _ _ h1
    rw [List.append_assoc] at this
    simpa using this
theorem planW_all (ws : List Int) (b luck : Int) (ns : List Str) (k : Int) : ∀ n, ((planW ws b luck ns n k).1).Sublist (fullRefs ns n) ∧ k ≤ (planW ws b luck ns n k).2
  | 0 => ⟨List.Sublist.refl _, Int.le_refl _⟩
  | n + 1 => by
    obtain ⟨h1, h2⟩ := planW_all ws b luck ns k n
    have e : planW ws b luck ns (n + 1) k = planTick ws b luck ns (planW ws b luck ns n k) n := by
      unfold planW
      rw [List.range_succ, List.foldl_append]
      rfl
    have e2 : fullRefs ns (n + 1) = fullRefs ns n ++ fullRow ns n := by
      unfold fullRefs
      rw [List.range_succ, List.flatMap_append]
      simp
    rw [e, e2]
    refine ⟨planRow_sub ws b luck _ ns _ _ h1, ?_⟩
    have := (planRow_k ws b luck (1 + (n : Int)) ns (planW ws b luck ns n k)).2
    unfold planTick
    omega
def refLt (ns : List Str) (a b : Int × Str) : Prop := a.1 < b.1 ∨ (a.1 = b.1 ∧ place ns a.2 < place ns b.2)
theorem place_get {ns : List Str} (h : ns.Nodup) {i : Nat} {x : Str} (e : ns[i]? = some x) : place ns x = i := by
  have hm := List.mem_of_getElem? e
  obtain ⟨h1, h2⟩ := place_at hm
  rcases Nat.lt_trichotomy i (place ns x) with z | z | z
  · exact absurd e (h2 i z)
  · exact z.symm
  · obtain ⟨a1, a2⟩ := List.getElem?_eq_some_iff.mp h1
    obtain ⟨b1, b2⟩ := List.getElem?_eq_some_iff.mp e
    have := (List.getElem_inj h).mp (a2.trans b2.symm)
    omega
theorem names_pw {ns : List Str} (h : ns.Nodup) : ns.Pairwise fun a b => place ns a < place ns b := by
  rw [List.pairwise_iff_getElem]
  intro i j hi hj hij
  rw [place_get h (List.getElem?_eq_getElem hi), place_get h (List.getElem?_eq_getElem hj)]
  exact hij
theorem full_in {ns : List Str} {n : Nat} {r : Int × Str} (h : r ∈ fullRefs ns n) : 1 ≤ r.1 ∧ r.1 ≤ n ∧ r.2 ∈ ns := by
  obtain ⟨i, hi, hr⟩ := List.mem_flatMap.mp h
  obtain ⟨x, hx, rfl⟩ := List.mem_map.mp hr
  have := List.mem_range.mp hi
  exact ⟨by dsimp only; omega, by dsimp only; omega, hx⟩
theorem full_pw {ns : List Str} (h : ns.Nodup) : ∀ n, (fullRefs ns n).Pairwise (refLt ns)
  | 0 => List.Pairwise.nil
  | n + 1 => by
    have e2 : fullRefs ns (n + 1) = fullRefs ns n ++ fullRow ns n := by
      unfold fullRefs
      rw [List.range_succ, List.flatMap_append]
      simp
    rw [e2, List.pairwise_append]
    refine ⟨full_pw h n, ?_, fun a ha b hb => .inl ?_⟩
    · exact List.pairwise_map.mpr ((names_pw h).imp fun q => .inr ⟨rfl, q⟩)
    · obtain ⟨_, h2, _⟩ := full_in ha
      obtain ⟨x, _, rfl⟩ := List.mem_map.mp hb
      dsimp only
      omega
theorem full_len (ns : List Str) : ∀ n, (fullRefs ns n).length = n * ns.length
  | 0 => by simp [fullRefs]
  | n + 1 => by
    have e2 : fullRefs ns (n + 1) = fullRefs ns n ++ fullRow ns n := by
      unfold fullRefs
      rw [List.range_succ, List.flatMap_append]
      simp
    rw [e2, List.length_append, full_len ns n, Nat.succ_mul]
    simp [fullRow]
theorem plan_ok (ws : List Int) (b luck : Int) {ns : List Str} (hnd : ns.Nodup) (h8 : ns.length ≤ 8) {h : Int} (h0 : 0 ≤ h) (h12 : h ≤ 12) (k : Int) : PlanOk ns h (planW ws b luck ns h.toNat k).1 := by
  have hs := (planW_all ws b luck ns k h.toNat).1
  have hp := (full_pw hnd h.toNat).sublist hs
  refine ⟨fun r hr => ?_, ?_, fun i a c ha hc => ?_⟩
  · obtain ⟨h1, h2, h3⟩ := full_in (hs.subset hr)
    exact ⟨h1, by omega, h3⟩
  · have h1 := hs.length_le
    rw [full_len] at h1
    have h2 : h.toNat * ns.length ≤ 12 * 8 := Nat.mul_le_mul (by omega) h8
    omega
  · obtain ⟨a1, a2⟩ := List.getElem?_eq_some_iff.mp ha
    obtain ⟨c1, c2⟩ := List.getElem?_eq_some_iff.mp hc
    have := List.pairwise_iff_getElem.mp hp i (i + 1) a1 c1 (by omega)
    rw [a2, c2] at this
    exact this
def LPlan : List D → List D → Sl → List D → Prop := fun l ds r l' => ∃ (s : Srcs) (v : Vws) (ws : List Int) (b k h luck : Int), NetOk s v ∧ 0 ≤ b ∧ 0 ≤ k ∧ 1 ≤ h ∧ h ≤ 12 ∧ 1 ≤ luck ∧ luck ≤ 100 ∧ l = stD ws b k ∧ ds = [netp s v, .int h, .int luck] ∧
  r = .ol ((planW ws b luck (nds s v) h.toNat k).1.map refD) ∧ l' = stD ws b (planW ws b luck (nds s v) h.toNat k).2
def tolW : List Int := [0, 1, 3, 8, 20, 60]
def qryNs (s : Srcs) (v : Vws) : List Str := nds s v ++ v.map (·.1)
def qryW (ws : List Int) (b : Int) (ns : List Str) (h k : Int) : Int × Str × Int := (nthI [h, nextV ws b (k + 1) (h + 1)] (nextV ws b (k + 1 + 1) 2), nthS ns (nextV ws b k ns.length), nthI tolW (nextV ws b (k + 1 + 1 + 1) 6))
def LQuery : List D → List D → Sl → List D → Prop := fun l ds r l' => ∃ (s : Srcs) (v : Vws) (ws : List Int) (b k h : Int), NetOk s v ∧ 0 ≤ b ∧ 0 ≤ k ∧ 1 ≤ h ∧ h ≤ 12 ∧ l = stD ws b k ∧ ds = [netp s v, .int h] ∧ r = .sh (qryD (qryW ws b (qryNs s v) h k)) ∧ l' = stD ws b (k + 1 + 1 + 1 + 1)
theorem qry_ok (ws : List Int) (b : Int) {s : Srcs} {v : Vws} (hs : NetOk s v) {h : Int} (h1 : 1 ≤ h) (h12 : h ≤ 12) (k : Int) : 0 ≤ (qryW ws b (qryNs s v) h k).1 ∧ (qryW ws b (qryNs s v) h k).1 ≤ h ∧ (qryW ws b (qryNs s v) h k).2.1 ∈ nds s v ∧ 0 ≤ (qryW ws b (qryNs s v) h k).2.2 ∧ (qryW ws b (qryNs s v) h k).2.2 ≤ 999 := by
  have hone := hs.src.one
  have hln : (1 : Int) ≤ (qryNs s v).length := by simp only [qryNs, nds, List.length_append, List.length_map]; omega
  have t1 := nextV_at ws b k (m := (qryNs s v).length) (by omega)
  have t2 := nextV_at ws b (k + 1) (m := h + 1) (by omega)
  have t3 := nextV_at ws b (k + 1 + 1) (m := 2) (by decide)
  have t4 := nextV_at ws b (k + 1 + 1 + 1) (m := 6) (by decide)
  have a := at_range (l := [h, nextV ws b (k + 1) (h + 1)]) (n := 2) rfl (P := fun x => 0 ≤ x ∧ x ≤ h) (fun x hx => by
    rcases List.mem_cons.mp hx with z | z
    · rw [z]; omega
    · rw [List.mem_singleton.mp z]; omega) t3.1 (by exact t3.2)
  have c := at_range (l := tolW) (n := 6) rfl (P := fun x => 0 ≤ x ∧ x ≤ 999) (by decide) t4.1 (by exact t4.2)
  have m := nthS_mem t1.1 t1.2
  refine ⟨a.1, a.2, ?_, c.1, c.2⟩
  rcases List.mem_append.mp m with z | z
  · exact z
  · exact List.mem_append_right _ z
section
variable {P : Program} {w : World} {K : PySem.W.Frag} {mg : Str → Option Value} {base : Heap} {N : Addr}
theorem ok_lawPlan {f : Addr} {fd : FuncData} (F : Fun K "_law_plan" "_law_plan" sLawPlan f fd) (B : Bl mg) (c1 : Fio P w K mg base 3 "_law_next" LNext) : FnOk P w K mg base CX0 4 f fd ["_law_state", "_law_parts", "_law_horizon", "_law_luck"] (spIo K LPlan) := by
  refine fn_okI F scLawPlan (fun l ds r l' h => ?_) fun cdv A outer s H E hr l ds r l' h => ?_
  · obtain ⟨_, _, _, _, _, _, _, _, _, _, _, _, _, _, _, rfl, _⟩ := h
    rfl
  · obtain ⟨ss, vv, ws, b, k, h, luck, hs, b0, k0, h1, h12, u1, u2, rfl, rfl, rfl, rfl⟩ := h
    have hlen := hs.len
    have hnl : (nds ss vv).length ≤ 8 := by simp only [nds, List.length_append, List.length_map]; omega
    refine (?_ : HRI _ _ _ _ _)
    refine hri_cons (hs_set 4 (he_lst hea_nil (Nat.le_of_ble_eq_true rfl)) scLawPlan.nd) ?_
    refine hri_cons (hs_for (is := [5]) (hi_range2 (he_hg hg_int) (he_hg (hg_op (hg_var 2 rfl) hg_int v_add)) (by omega) (by rfl) B.range) (fun n => [some (.io (stD ws b (planW ws b luck (nds ss vv) n k).2)), some (.sh (netp ss vv)), some (.sh (.int h)), some (.sh (.int luck)), some (.ol ((planW ws b luck (nds ss vv) n k).1.map refD)), none, none]) rfl fun n d hd => ?_) ?_
    · simp only [rngD, List.getElem?_map, Option.map_eq_some_iff] at hd
      obtain ⟨i', hi, rfl⟩ := hd
      obtain ⟨hi1, hi2⟩ := List.getElem?_eq_some_iff.mp hi
      rw [List.getElem_range] at hi2
      subst hi2
      rw [List.length_range] at hi1
      obtain ⟨q1, q2⟩ := planW_all ws b luck (nds ss vv) k n
      have q3 := q1.length_le
      rw [full_len] at q3
      have q4 : n * (nds ss vv).length ≤ 12 * 8 := Nat.mul_le_mul (by omega) hnl
      have e : planW ws b luck (nds ss vv) (n + 1) k = planTick ws b luck (nds ss vv) (planW ws b luck (nds ss vv) n k) n := by
        unfold planW
        rw [List.range_succ, List.foldl_append]
        rfl
      rw [e]
      unfold planTick
      generalize planW ws b luck (nds ss vv) n k = st0 at q2 q3 ⊢
      refine ⟨_, hb_name 5 scLawPlan.nd, .inl ?_⟩
      refine hs_le (hs_one (hs_for (is := [6]) (hi_seq (he_sh (s := .ol ((nds ss vv).map D.str)) (he_eq (he_cat (he_sh (s := .ol (keysD (srcD ss))) (he_listD (hg_ix (hg_var 1 rfl) hg_int rfl rfl) rfl B.list)) (he_sh (s := .ol (keysD (vwD vv))) (he_listD (hg_ix (hg_var 1 rfl) hg_int rfl rfl) rfl B.list)) ?_) (congrArg Sl.ol (keys_all ss vv)))) (.inl rfl)) (fun j => [some (.io (stD ws b (((nds ss vv).take j).foldl (planRow ws b luck (1 + (n : Int))) st0).2)), some (.sh (netp ss vv)), some (.sh (.int h)), some (.sh (.int luck)), some (.ol ((((nds ss vv).take j).foldl (planRow ws b luck (1 + (n : Int))) st0).1.map refD)), some (.sh (.int (1 + (n : Int)))), none]) rfl fun j d hd => ?_)) ?_
      · simp only [keysD, srcD, vwD, List.length_map]; omega
      · obtain ⟨x, h5, rfl⟩ : ∃ x, (nds ss vv)[j]? = some x ∧ D.str x = d := by
          simp only [List.getElem?_map, Option.map_eq_some_iff] at hd
          exact hd
        have r1 := (planRow_k ws b luck (1 + (n : Int)) ((nds ss vv).take j) st0).2
        have r2 := (planRow_sub ws b luck (1 + (n : Int)) ((nds ss vv).take j) st0 st0.1 (List.Sublist.refl _)).length_le
        rw [List.length_append, List.length_map, List.length_take] at r2
        rw [List.take_add_one, h5, Option.toList_some, List.foldl_append, List.foldl_cons, List.foldl_nil]
        generalize ((nds ss vv).take j).foldl (planRow ws b luck (1 + (n : Int))) st0 = st at r1 r2 ⊢
        have tn := nextV_at ws b st.2 (m := luck) (by omega)
        refine ⟨_, hb_name 6 scLawPlan.nd, .inl ?_⟩
        by_cases z : nextV ws b st.2 luck = 0
        · have e1 : planRow ws b luck (1 + (n : Int)) st x = (st.1 ++ [(1 + (n : Int), x)], st.2 + 1) := by unfold planRow; rw [if_pos z]
          rw [e1]
          refine hs_le (hs_one (hs_if (t := true) (ht_eq (ht_cmp (he_callIo 0 c1 (hr.mono (by decide)) rfl rfl (hea_cons (he_hg (hg_var 3 rfl)) hea_nil) rfl rfl ⟨ws, b, st.2, luck, b0, by omega, by omega, by omega, rfl, rfl, rfl, rfl⟩) (he_hg hg_int) v_eqI) (by simp [z])) (fun _ => hs_one (hs_append 4 (he_tup (hea_cons (he_hg (hg_var 5 rfl)) (hea_cons (he_hg (hg_var 6 rfl)) hea_nil)) (Nat.le_of_ble_eq_true rfl)) rfl rfl rfl ?_ (hsl := rfl))) fun z => by cases z)) ?_
          · rw [List.length_map]; omega
          · rw [List.map_append]
            exact .s (.s (.s (.s (.s (.s (.w .n))))))
        · have e1 : planRow ws b luck (1 + (n : Int)) st x = (st.1, st.2 + 1) := by unfold planRow; rw [if_neg z]
          rw [e1]
          refine hs_le (hs_one (hs_if (t := false) (ht_eq (ht_cmp (he_callIo 0 c1 (hr.mono (by decide)) rfl rfl (hea_cons (he_hg (hg_var 3 rfl)) hea_nil) rfl rfl ⟨ws, b, st.2, luck, b0, by omega, by omega, by omega, rfl, rfl, rfl, rfl⟩) (he_hg hg_int) v_eqI) (by simp [z])) (fun z => by cases z) fun _ => hs_nil)) ?_
          exact .s (.s (.s (.s (.s (.s (.w .n))))))
      · rw [List.length_map, List.take_length]
        exact .s (.s (.s (.s (.s (.w (.s .n))))))
    rw [rngD, List.length_map, List.length_range, show h + 1 - 1 = h by omega]
    exact hri_ret (he_take 4 rfl) rfl
theorem ok_lawQuery {f : Addr} {fd : FuncData} (F : Fun K "_law_query" "_law_query" sLawQuery f fd) (B : Bl mg) (c1 : Fio P w K mg base 3 "_law_next" LNext) (c2 : Fio P w K mg base 4 "_law_pick" LPick) : FnOk P w K mg base CX0 5 f fd ["_law_state", "_law_parts", "_law_horizon"] (spIo K LQuery) := by
  refine fn_okI F scLawQuery (fun l ds r l' h => ?_) fun cdv A outer s H E hr l ds r l' h => ?_
  · obtain ⟨_, _, _, _, _, _, _, _, _, _, _, _, rfl, _⟩ := h
    rfl
  · obtain ⟨ss, vv, ws, b, k, h, hs, b0, k0, h1, h12, rfl, rfl, rfl, rfl⟩ := h
    have hlen := hs.len
    have hone := hs.src.one
    have hln : 1 ≤ (qryNs ss vv).length ∧ (qryNs ss vv).length ≤ 16 := by simp only [qryNs, nds, List.length_append, List.length_map]; omega
    refine (?_ : HRI _ _ _ _ _)
    refine hri_cons (hs_set 3 (he_eq (he_callIo 0 c2 (hr.mono (by decide)) rfl rfl (hea_cons (he_sh (s := .ol ((qryNs ss vv).map D.str)) (he_eq (he_cat (he_sh (s := .ol ((nds ss vv).map D.str)) (he_eq (he_cat (he_sh (s := .ol (keysD (srcD ss))) (he_listD (hg_ix (hg_var 1 rfl) hg_int rfl rfl) rfl B.list)) (he_sh (s := .ol (keysD (vwD vv))) (he_listD (hg_ix (hg_var 1 rfl) hg_int rfl rfl) rfl B.list)) ?_) (congrArg Sl.ol (keys_all ss vv)))) (he_sh (s := .ol (keysD (vwD vv))) (he_listD (hg_ix (hg_var 1 rfl) hg_int rfl rfl) rfl B.list)) ?_) ?_)) hea_nil) rfl rfl ⟨ws, b, k, (qryNs ss vv).map D.str, b0, by omega, by rw [List.length_map]; omega, by rw [List.length_map]; omega, rfl, rfl, rfl, rfl⟩) (by rw [pick_strs _ _ _ (by omega)])) scLawQuery.nd) ?_
    · simp only [keysD, srcD, vwD, List.length_map]; omega
    · simp only [nds, keysD, srcD, vwD, List.length_map, List.length_append]; omega
    · simp only [qryNs, List.map_append, keysD, vwD, List.map_map]
      rfl
    refine hri_cons (hs_set 4 (he_eq (he_callIo 0 c2 (hr.mono (by decide)) rfl rfl (hea_cons (he_sh (s := .ol (([h, nextV ws b (k + 1) (h + 1)] : List Int).map D.int)) (he_eq (he_lst (hea_cons (he_hg (hg_var 2 rfl)) (hea_cons (he_callIo 0 c1 (hr.mono (by decide)) rfl rfl (hea_cons (he_hg (hg_op (hg_var 2 rfl) hg_int v_add)) hea_nil) rfl rfl ⟨ws, b, k + 1, h + 1, b0, by omega, by omega, by omega, rfl, rfl, rfl, rfl⟩) hea_nil)) (Nat.le_of_ble_eq_true rfl)) rfl)) hea_nil) rfl rfl ⟨ws, b, k + 1 + 1, ([h, nextV ws b (k + 1) (h + 1)] : List Int).map D.int, b0, by omega, Nat.zero_lt_succ _, Nat.le_of_ble_eq_true rfl, rfl, rfl, rfl, rfl⟩) (by rw [pick_ints (l := [h, nextV ws b (k + 1) (h + 1)]) _ _ _ (Nat.zero_lt_succ _)])) scLawQuery.nd) ?_
    exact hri_ret (he_eq (he_tup (hea_cons (he_hg (hg_var 4 rfl)) (hea_cons (he_hg (hg_var 3 rfl)) (hea_cons (he_eq (he_callIo 0 c2 (hr.mono (by decide)) rfl rfl (hea_cons (he_sh (s := .ol (tolW.map D.int)) (he_eq (he_lst (hea_cons (he_hg hg_int) (hea_cons (he_hg hg_int) (hea_cons (he_hg hg_int) (hea_cons (he_hg hg_int) (hea_cons (he_hg hg_int) (hea_cons (he_hg hg_int) hea_nil)))))) (Nat.le_of_ble_eq_true rfl)) rfl)) hea_nil) rfl rfl ⟨ws, b, k + 1 + 1 + 1, tolW.map D.int, b0, by omega, by decide, by decide, rfl, rfl, rfl, rfl⟩) (by rw [pick_ints _ _ _ (by decide)]; rfl)) hea_nil))) (Nat.le_of_ble_eq_true rfl)) rfl) rfl
end
end KX
set_option Elab.async false
set_option linter.all false
set_option maxRecDepth 100000
set_option maxHeartbeats 1000000
namespace KX
open PySem L2 PL
abbrev sLawWorld : Stmt := top 67
theorem scLawWorld : FnScope ["_law_state", "_law_parts", "_law_horizon", "_law_found", "_law_name", "_law_values", "_law_way", "_law_tick", "_law_drift", "_law_base", "_law_step"] ["_law_state", "_law_parts", "_law_horizon"] (defScope sLawWorld) := ⟨rfl, rfl, rfl, by decide +kernel, rfl, by decide +kernel, by decide +kernel⟩
/-! ### worlds, drawn -/
def oneW : List Int := [1, 1, 100]
def wayW : List Int := [1, -1, 0]
def lastI (l : List Int) : Int := nthI l ((l.length : Int) - 1)
def valStep (ws : List Int) (b dr way : Int) (st : List Int × Int) : List Int × Int :=
  if nextV ws b st.2 3 > 0 then (st.1 ++ [lastI st.1 + way * dr], st.2 + 1) else (st.1 ++ [lastI st.1 + (nextV ws b (st.2 + 1) (2 * dr + 1) - dr)], st.2 + 1 + 1)
def valsN (ws : List Int) (b dr way : Int) (st : List Int × Int) : Nat → List Int × Int
  | 0 => st
  | n + 1 => valStep ws b dr way (valsN ws b dr way st n)
def wayOf (ws : List Int) (b k : Int) : Int := nthI wayW (nextV ws b (k + 1 + 1) 3)
def val0 (ws : List Int) (b k : Int) : List Int := [(nextV ws b k 60 - 30) * nthI oneW (nextV ws b (k + 1) 3)]
def wdStep (ws : List Int) (b : Int) (n : Nat) (st : Wd × Int) (x : Str × Int × Int) : Wd × Int :=
  (st.1 ++ [(x.1, (valsN ws b x.2.1 (wayOf ws b st.2) (val0 ws b st.2, st.2 + 1 + 1 + 1) n).1)], (valsN ws b x.2.1 (wayOf ws b st.2) (val0 ws b st.2, st.2 + 1 + 1 + 1) n).2)
def worldW (ws : List Int) (b : Int) (n : Nat) (l : Srcs) (k : Int) : Wd × Int := l.foldl (wdStep ws b n) ([], k)
theorem worldW_succ (ws : List Int) (b : Int) (m : Nat) (l : Srcs) (k : Int) (n : Nat) (x : Str × Int × Int) (h : l[n]? = some x) : worldW ws b m (l.take (n + 1)) k = wdStep ws b m (worldW ws b m (l.take n) k) x := by
  unfold worldW
  rw [List.take_add_one, h, List.foldl_append]
  rfl
theorem oneW_at {t : Int} (h0 : 0 ≤ t) (h1 : t < 3) : 1 ≤ nthI oneW t ∧ nthI oneW t ≤ 100 := at_range (l := oneW) (n := 3) rfl (P := fun x => 1 ≤ x ∧ x ≤ 100) (by decide) h0 (by exact h1)
theorem wayW_at {t : Int} (h0 : 0 ≤ t) (h1 : t < 3) : -1 ≤ nthI wayW t ∧ nthI wayW t ≤ 1 := at_range (l := wayW) (n := 3) rfl (P := fun x => -1 ≤ x ∧ x ≤ 1) (by decide) h0 (by exact h1)
theorem last_app (l : List Int) (a : Int) : lastI (l ++ [a]) = a := by
  unfold lastI nthI
  rw [List.length_append, List.length_singleton, show (((l.length + 1 : Nat) : Int) - 1).toNat = l.length by omega]
  simp
theorem at_lastI {l : List Int} (h : 0 < l.length) : atI (l.map D.int) (-1) = some (.int (lastI l)) := by
  refine atI_last (by rw [List.length_map]; exact h) ?_
  rw [List.length_map, List.getElem?_map]
  unfold lastI nthI
  rw [show ((l.length : Int) - 1).toNat = l.length - 1 by omega, List.getElem?_eq_getElem (by omega)]
  rfl
/-- neighbours are near -/
def Near (dr : Int) (l : List Int) : Prop := ∀ (i : Nat) (x y : Int), l[i]? = some x → l[i + 1]? = some y → absI (y - x) ≤ dr
theorem near_app {dr : Int} {l : List Int} (h : Near dr l) (hl : 0 < l.length) {a : Int} (ha : absI (a - lastI l) ≤ dr) : Near dr (l ++ [a]) := fun i x y hx hy => by
  rcases Nat.lt_trichotomy (i + 1) l.length with z | z | z
  · rw [List.getElem?_append_left (by omega)] at hx
    rw [List.getElem?_append_left z] at hy
    exact h i x y hx hy
  · rw [List.getElem?_append_left (by omega)] at hx
    rw [List.getElem?_append_right (by omega)] at hy
    have e : i + 1 - l.length = 0 := by omega
    rw [e] at hy
    cases hy
    have e2 : lastI l = x := by
      unfold lastI nthI
      rw [show ((l.length : Int) - 1).toNat = i by omega, hx]
      rfl
    rw [← e2]
    exact ha
  · rw [List.getElem?_append_right (by omega)] at hy
    rw [List.getElem?_eq_none (by simp; omega)] at hy
    cases hy
theorem valsN_all (ws : List Int) (b : Int) {dr way : Int} (d0 : 0 ≤ dr) (w1 : -1 ≤ way) (w2 : way ≤ 1) {st : List Int × Int} (h1 : st.1.length = 1) : ∀ n, (valsN ws b dr way st n).1.length = n + 1 ∧ st.2 ≤ (valsN ws b dr way st n).2 ∧ Near dr (valsN ws b dr way st n).1
  | 0 => ⟨h1, Int.le_refl _, fun i x y hx hy => by
      have := (List.getElem?_eq_some_iff.mp hy).1
      simp only [valsN] at this
      omega⟩
  | n + 1 => by
    obtain ⟨a1, a2, a3⟩ := valsN_all ws b d0 w1 w2 h1 n
    simp only [valsN, valStep]
    have hd : way * dr = dr ∨ way * dr = -dr ∨ way * dr = 0 := by
      rcases (show way = 1 ∨ way = -1 ∨ way = 0 by omega) with z | z | z <;> subst z
      · exact .inl (Int.one_mul _)
      · exact .inr (.inl (by rw [Int.neg_mul, Int.one_mul]))
      · exact .inr (.inr (Int.zero_mul _))
    have t2 := nextV_at ws b ((valsN ws b dr way st n).2 + 1) (m := 2 * dr + 1) (by omega)
    generalize valsN ws b dr way st n = q at a1 a2 a3 t2 ⊢
    split
    · refine ⟨by simp [a1], by dsimp only; omega, near_app a3 (by omega) ?_⟩
      rw [show lastI q.1 + way * dr - lastI q.1 = way * dr by omega]
      exact absI_le (by omega) (by omega)
    · refine ⟨by simp [a1], by dsimp only; omega, near_app a3 (by omega) ?_⟩
      rw [show lastI q.1 + (nextV ws b (q.2 + 1) (2 * dr + 1) - dr) - lastI q.1 = nextV ws b (q.2 + 1) (2 * dr + 1) - dr by omega]
      exact absI_le (by omega) (by omega)
theorem near_course {dr h : Int} {l : List Int} (h0 : 0 ≤ h) (hl : l.length = h.toNat + 1) (hn : Near dr l) : courseB l h dr = true := by
  unfold courseB stepsB
  rw [Bool.and_eq_true]
  refine ⟨decide_eq_true (by omega), List.all_eq_true.mpr fun t ht => decide_eq_true ?_⟩
  have ht := List.mem_range.mp ht
  unfold nthI
  rw [show (1 + (t : Int)).toNat = t + 1 by omega, show (1 + (t : Int) - 1).toNat = t by omega]
  have l1 : t + 1 < l.length := by omega
  have l2 : t < l.length := by omega
  rw [List.getElem?_eq_getElem l1, List.getElem?_eq_getElem l2]
  exact hn t _ _ (List.getElem?_eq_getElem l2) (List.getElem?_eq_getElem l1)
def WdGood (n : Nat) (l : Srcs) (w : Wd) : Prop := w.map (·.1) = l.map (·.1) ∧ ∀ x ∈ w, ∃ y ∈ l, x.1 = y.1 ∧ x.2.length = n + 1 ∧ Near y.2.1 x.2
theorem worldW_all (ws : List Int) (b : Int) (n : Nat) {k : Int} : ∀ (m : Nat) (l : Srcs), m = l.length → (∀ x ∈ l, 0 ≤ x.2.1) → WdGood n l (worldW ws b n l k).1 ∧ k ≤ (worldW ws b n l k).2
  | 0, l, hl, _ => by
    have : l = [] := List.length_eq_zero_iff.mp hl.symm
    subst this
    exact ⟨⟨rfl, fun x h => by cases h⟩, Int.le_refl _⟩
  | m + 1, l, hl, hd => by
    obtain ⟨l', a, rfl⟩ : ∃ l' a, l = l' ++ [a] := ⟨l.dropLast, l.getLast (by intro z; subst z; simp at hl), (List.dropLast_concat_getLast _).symm⟩
    obtain ⟨⟨h1, h2⟩, h3⟩ := worldW_all ws b n (k := k) m l' (by simpa using hl) fun x hx => hd x (List.mem_append_left _ hx)
    have e : worldW ws b n (l' ++ [a]) k = wdStep ws b n (worldW ws b n l' k) a := by
      unfold worldW
      rw [List.foldl_append]
      rfl
    rw [e]
    generalize worldW ws b n l' k = st at h1 h2 h3 ⊢
    have t3 := nextV_at ws b (st.2 + 1 + 1) (m := 3) (by decide)
    obtain ⟨w1, w2⟩ := wayW_at t3.1 t3.2
    obtain ⟨v1, v2, v3⟩ := valsN_all ws b (hd a (List.mem_append_right _ List.mem_cons_self)) w1 w2 (st := (val0 ws b st.2, st.2 + 1 + 1 + 1)) rfl n
    refine ⟨⟨?_, fun x hx => ?_⟩, ?_⟩
    · simp only [wdStep, List.map_append, h1, List.map_cons, List.map_nil]
    · rcases List.mem_append.mp hx with z | z
      · obtain ⟨y, hy, q⟩ := h2 x z
        exact ⟨y, List.mem_append_left _ hy, q⟩
      · rw [List.mem_singleton.mp z]
        exact ⟨a, List.mem_append_right _ List.mem_cons_self, rfl, v1, v3⟩
    · simp only [wdStep]
      dsimp only at v2
      unfold wayOf
      omega
theorem good_wd {s : Srcs} {h : Int} {w : Wd} (hnd : (s.map (·.1)).Nodup) (h1 : 1 ≤ h) (h12 : h ≤ 12) (hl : s.length ≤ 8) (g : WdGood h.toNat s.reverse w) : WdOk s h w := by
  have hlen : w.length = s.length := by
    have := congrArg List.length g.1
    rw [List.length_map, List.length_map, List.length_reverse] at this
    exact this
  have hkn : (w.map (·.1)).Nodup := by rw [g.1, List.map_reverse]; exact (List.reverse_perm _).nodup_iff.mpr hnd
  refine ⟨h1, h12, ⟨by omega, fun x hx => ?_⟩, ?_⟩
  · obtain ⟨y, _, _, q, _⟩ := g.2 x hx
    omega
  · unfold worldB
    rw [Bool.and_eq_true]
    refine ⟨decide_eq_true hlen, List.all_eq_true.mpr fun x hx => ?_⟩
    have hm : x.1 ∈ w.map (·.1) := by rw [g.1, List.map_reverse, List.mem_reverse]; exact List.mem_map.mpr ⟨x, hx, rfl⟩
    obtain ⟨u, hu, e⟩ := List.mem_map.mp hm
    have ha := aget_nd hkn u hu
    rw [e] at ha
    unfold srcB
    rw [ha]
    obtain ⟨y, hy, e1, e2, e3⟩ := g.2 u hu
    have e4 : y = x := by
      have h5 := aget_nd (l := s) hnd y (List.mem_reverse.mp hy)
      have h6 := aget_nd (l := s) hnd x hx
      rw [← e1, e, h6] at h5
      exact (Prod.ext (by rw [← e1, e]) (Option.some.inj h5).symm)
    subst e4
    exact near_course (by omega) e2 e3
theorem put_wd {w : Wd} {x : Str} (h : x ∉ w.map (·.1)) (xs : List Int) : putD (wdD w) (Sum.inr x) (.lst (xs.map D.int)) = wdD (w ++ [(x, xs)]) := by
  unfold putD
  have : (look (wdD w) (Sum.inr x)).isSome = false := by
    rw [look_wd, Option.isSome_map, aget_isSome]
    simpa using h
  rw [if_neg (by rw [this]; exact Bool.false_ne_true)]
  simp [wdD]
def LWorld : List D → List D → Sl → List D → Prop := fun l ds r l' => ∃ (s : Srcs) (v : Vws) (ws : List Int) (b k h : Int), NetOk s v ∧ 0 ≤ b ∧ 0 ≤ k ∧ 1 ≤ h ∧ h ≤ 12 ∧ l = stD ws b k ∧ ds = [netp s v, .int h] ∧ r = .od (wdD (worldW ws b h.toNat s.reverse k).1) ∧ l' = stD ws b (worldW ws b h.toNat s.reverse k).2
section
variable {P : Program} {w : World} {K : PySem.W.Frag} {mg : Str → Option Value} {base : Heap} {N : Addr}
theorem ok_lawWorld {f : Addr} {fd : FuncData} (F : Fun K "_law_world" "_law_world" sLawWorld f fd) (B : Bl mg) (c1 : Fio P w K mg base 3 "_law_next" LNext) (c2 : Fio P w K mg base 4 "_law_pick" LPick) : FnOk P w K mg base CX0 5 f fd ["_law_state", "_law_parts", "_law_horizon"] (spIo K LWorld) := by
  refine fn_okI F scLawWorld (fun l ds r l' h => ?_) fun cdv A outer s H E hr l ds r l' h => ?_
  · obtain ⟨_, _, _, _, _, _, _, _, _, _, _, _, rfl, _⟩ := h
    rfl
  · obtain ⟨ss, vv, ws, b, k, h, hs, b0, k0, h1, h12, rfl, rfl, rfl, rfl⟩ := h
    have hu := hu_of hr
    have hlen := hs.len
    refine (?_ : HRI _ _ _ _ _)
    refine hri_cons (hs_set 3 he_dict0 scLawWorld.nd) ?_
    have hdr0 : ∀ x ∈ ss.reverse, 0 ≤ x.2.1 := fun x hx => (hs.src.ok x (List.mem_reverse.mp hx)).drift.1
    have hrev : (keysD (srcD ss)).reverse = (ss.reverse.map (·.1)).map D.str := by
      simp only [keysD, srcD, List.map_map, ← List.map_reverse]
      rfl
    have hrnd : (ss.reverse.map (·.1)).Nodup := by rw [List.map_reverse]; exact (List.reverse_perm _).nodup_iff.mpr hs.src.nd
    refine hri_cons (hs_for (is := [4]) (hi_seq (he_sh (s := .ol ((ss.reverse.map (·.1)).map D.str)) (he_eq (he_revL (he_sh (s := .ol (keysD (srcD ss))) (he_listD (hg_ix (hg_var 1 rfl) hg_int rfl rfl) rfl B.list))) (congrArg Sl.ol hrev))) (.inl rfl)) (fun n => [some (.io (stD ws b (worldW ws b h.toNat (ss.reverse.take n) k).2)), some (.sh (netp ss vv)), some (.sh (.int h)), some (.od (wdD (worldW ws b h.toNat (ss.reverse.take n) k).1)), none, none, none, none, none, none, none]) rfl fun n d hd => ?_) ?_
    · obtain ⟨x, h5, rfl⟩ : ∃ x, ss.reverse[n]? = some x ∧ D.str x.1 = d := by
        simp only [List.getElem?_map, Option.map_eq_some_iff] at hd
        obtain ⟨y, ⟨x, hx, rfl⟩, rfl⟩ := hd
        exact ⟨x, hx, rfl⟩
      have hx : x ∈ ss := List.mem_reverse.mp (List.mem_of_getElem? h5)
      obtain ⟨q1, q2⟩ := worldW_all ws b h.toNat (k := k) _ (ss.reverse.take n) rfl fun y hy => hdr0 y (List.mem_of_mem_take hy)
      rw [worldW_succ _ _ _ _ _ _ _ h5]
      have hno := nd_take hrnd (n := n) (x := x.1) (by rw [List.getElem?_map, h5]; rfl)
      rw [← List.map_take, ← q1.1] at hno
      have hln : (worldW ws b h.toNat (ss.reverse.take n) k).1.length ≤ 8 := by
        have := congrArg List.length q1.1
        rw [List.length_map, List.length_map, List.length_take, List.length_reverse] at this
        omega
      generalize worldW ws b h.toNat (ss.reverse.take n) k = st at hno hln q2 ⊢
      clear q1
      have hr2 : look (srcD ss) (Sum.inr x.1) = some (.tup [.int x.2.1, .int x.2.2]) := by
        have := look_map (fun (p : Int × Int) => D.tup [.int p.1, .int p.2]) ss x.1
        unfold srcD
        rw [this, aget_nd hs.src.nd x hx]
        rfl
      obtain ⟨d0, d20⟩ := (hs.src.ok x hx).drift
      have t60 := nextV_at ws b st.2 (m := 60) (by decide)
      have t1 := nextV_at ws b (st.2 + 1) (m := 3) (by decide)
      have t2 := nextV_at ws b (st.2 + 1 + 1) (m := 3) (by decide)
      obtain ⟨o1, o2⟩ := oneW_at t1.1 t1.2
      obtain ⟨w1, w2⟩ := wayW_at t2.1 t2.2
      refine ⟨_, hb_name 4 scLawWorld.nd, .inl ?_⟩
      refine hs_cons (hs_par (i := 8) (j := 9) (hea_cons (he_hg (hg_ix (hg_get (ky := Sum.inr x.1) hu (hg_ix (hg_var 1 rfl) hg_int rfl rfl) (hg_var 4 rfl) rfl hr2) hg_int rfl rfl)) (hea_cons (he_op (he_callIo 0 c1 (hr.mono (by decide)) rfl rfl (hea_cons (he_hg hg_int) hea_nil) rfl rfl ⟨ws, b, st.2, 60, b0, by omega, by decide, by decide, rfl, rfl, rfl, rfl⟩) (he_hg hg_int) v_sub) hea_nil)) (fun h => ps_par rfl scLawWorld.nd rfl rfl (by decide) rfl rfl h rfl)) ?_
      refine hs_cons (hs_set 5 (s := .ol ((val0 ws b st.2).map D.int)) (he_eq (he_lst (hea_cons (he_op (he_hg (hg_var 9 rfl)) (he_eq (he_callIo 0 c2 (hr.mono (by decide)) rfl rfl (hea_cons (he_sh (s := .ol (oneW.map D.int)) (he_eq (he_lst (hea_cons (he_hg hg_int) (hea_cons (he_hg hg_int) (hea_cons (he_hg hg_int) hea_nil))) (Nat.le_of_ble_eq_true rfl)) rfl)) hea_nil) rfl rfl ⟨ws, b, st.2 + 1, oneW.map D.int, b0, by omega, by decide, by decide, rfl, rfl, rfl, rfl⟩) (by rw [pick_ints _ _ _ (by decide)]; rfl)) (v_mul (.inl ⟨by omega, by omega⟩))) hea_nil) (Nat.le_of_ble_eq_true rfl)) rfl) scLawWorld.nd) ?_
      refine hs_cons (hs_set 6 (s := .sh (.int (wayOf ws b st.2))) (he_eq (he_callIo 0 c2 (hr.mono (by decide)) rfl rfl (hea_cons (he_sh (s := .ol (wayW.map D.int)) (he_eq (he_lst (hea_cons (he_hg hg_int) (hea_cons (he_hg (hg_neg hg_int)) (hea_cons (he_hg hg_int) hea_nil))) (Nat.le_of_ble_eq_true rfl)) rfl)) hea_nil) rfl rfl ⟨ws, b, st.2 + 1 + 1, wayW.map D.int, b0, by omega, by decide, by decide, rfl, rfl, rfl, rfl⟩) (by rw [pick_ints _ _ _ (by decide)]; rfl)) scLawWorld.nd) ?_
      change -1 ≤ wayOf ws b st.2 at w1
      change wayOf ws b st.2 ≤ 1 at w2
      simp only [wdStep]
      generalize wayOf ws b st.2 = way at w1 w2 ⊢
      have hvl : (val0 ws b st.2).length = 1 := rfl
      generalize val0 ws b st.2 = vals0 at hvl ⊢
      refine hs_cons (hs_for (is := [7]) (hi_range1 (he_hg (hg_var 2 rfl)) (by omega) (by omega) (by rfl) B.range) (fun j => [some (.io (stD ws b (valsN ws b x.2.1 way (vals0, st.2 + 1 + 1 + 1) j).2)), some (.sh (netp ss vv)), some (.sh (.int h)), some (.od (wdD st.1)), some (.sh (.str x.1)), some (.ol ((valsN ws b x.2.1 way (vals0, st.2 + 1 + 1 + 1) j).1.map D.int)), some (.sh (.int way)), none, some (.sh (.int x.2.1)), some (.sh (.int (nextV ws b st.2 60 - 30))), none]) rfl fun j d hd => ?_) ?_
      · simp only [rngD, List.getElem?_map, Option.map_eq_some_iff] at hd
        obtain ⟨i', hi, rfl⟩ := hd
        have hj := (List.getElem?_eq_some_iff.mp hi).1
        rw [List.length_range] at hj
        obtain ⟨v1, v2, _⟩ := valsN_all ws b d0 w1 w2 (st := (vals0, st.2 + 1 + 1 + 1)) hvl j
        simp only [valsN]
        dsimp only at v2
        generalize valsN ws b x.2.1 way (vals0, st.2 + 1 + 1 + 1) j = u at v1 v2 ⊢
        have tu := nextV_at ws b u.2 (m := 3) (by decide)
        have tu2 := nextV_at ws b (u.2 + 1) (m := 2 * x.2.1 + 1) (by omega)
        refine ⟨_, hb_name 7 scLawWorld.nd, .inl ?_⟩
        by_cases z : nextV ws b u.2 3 > 0
        · have e1 : valStep ws b x.2.1 way u = (u.1 ++ [lastI u.1 + way * x.2.1], u.2 + 1) := by unfold valStep; rw [if_pos z]
          rw [e1]
          refine hs_cons (hs_set 10 (he_if (t := true) (ht_eq (ht_cmp (he_callIo 0 c1 (hr.mono (by decide)) rfl rfl (hea_cons (he_hg hg_int) hea_nil) rfl rfl ⟨ws, b, u.2, 3, b0, by omega, by decide, by decide, rfl, rfl, rfl, rfl⟩) (he_hg hg_int) v_gt) (by simpa using z)) (fun _ => he_hg (hg_op (hg_var 6 rfl) (hg_var 8 rfl) (v_mul (.inl ⟨by omega, by omega⟩)))) fun z => by cases z) scLawWorld.nd) ?_
          refine hs_le (hs_one (hs_append 5 (he_hg (hg_op (hg_ix (hg_var 5 rfl) (hg_neg hg_int) rfl (at_lastI (by omega))) (hg_var 10 rfl) v_add)) rfl rfl rfl (by rw [List.length_map]; omega) (hsl := rfl))) ?_
          rw [List.map_append]
          exact .s (.s (.s (.s (.s (.s (.s (.w (.s (.s (.w .n))))))))))
        · have e1 : valStep ws b x.2.1 way u = (u.1 ++ [lastI u.1 + (nextV ws b (u.2 + 1) (2 * x.2.1 + 1) - x.2.1)], u.2 + 1 + 1) := by unfold valStep; rw [if_neg z]
          rw [e1]
          refine hs_cons (hs_set 10 (he_if (t := false) (ht_eq (ht_cmp (he_callIo 0 c1 (hr.mono (by decide)) rfl rfl (hea_cons (he_hg hg_int) hea_nil) rfl rfl ⟨ws, b, u.2, 3, b0, by omega, by decide, by decide, rfl, rfl, rfl, rfl⟩) (he_hg hg_int) v_gt) (by simpa using z)) (fun z => by cases z) fun _ => he_op (he_callIo 0 c1 (hr.mono (by decide)) rfl rfl (hea_cons (he_hg (hg_op (hg_op hg_int (hg_var 8 rfl) (v_mul (.inl ⟨by omega, by omega⟩))) hg_int v_add)) hea_nil) rfl rfl ⟨ws, b, u.2 + 1, 2 * x.2.1 + 1, b0, by omega, by omega, by omega, rfl, rfl, rfl, rfl⟩) (he_hg (hg_var 8 rfl)) v_sub) scLawWorld.nd) ?_
          refine hs_le (hs_one (hs_append 5 (he_hg (hg_op (hg_ix (hg_var 5 rfl) (hg_neg hg_int) rfl (at_lastI (by omega))) (hg_var 10 rfl) v_add)) rfl rfl rfl (by rw [List.length_map]; omega) (hsl := rfl))) ?_
          rw [List.map_append]
          exact .s (.s (.s (.s (.s (.s (.s (.w (.s (.s (.w .n))))))))))
      refine hs_le (hs_one (hs_dput 3 (ky := Sum.inr x.1) hu (he_sh (he_take 5 rfl)) rfl (hg_var 4 rfl) ?_)) ?_
      · simp only [wdD, List.length_map]; omega
      · rw [rngD, List.length_map, List.length_range]
        have e9 := put_wd hno (valsN ws b x.2.1 way (vals0, st.2 + 1 + 1 + 1) h.toNat).1
        simp only [Sl.data, e9]
        repeat (first | exact Le.n | refine Le.s ?_ | refine Le.w ?_)
    rw [List.length_map, List.length_map, List.take_length]
    exact hri_ret (he_take 3 rfl) rfl
end
end KX
set_option Elab.async false
set_option linter.all false
set_option maxRecDepth 100000
set_option maxHeartbeats 1000000
namespace KX
open PySem L2 PL
abbrev sLawCaches : Stmt := top 66
theorem scLawCaches : FnScope ["_law_parts", "_law_horizon", "_law_world_here", "_law_plan_here", "_law_found", "_law_tick", "_law_late", "_law_name"] ["_law_parts", "_law_horizon", "_law_world_here", "_law_plan_here"] (defScope sLawCaches) := ⟨rfl, rfl, rfl, by decide +kernel, rfl, by decide +kernel, by decide +kernel⟩
/-! ### a tick of a plan, by names -/
theorem chain_pw {α : Type} {R : α → α → Prop} (tr : ∀ a b c, R a b → R b c → R a c) : ∀ {l : List α}, (∀ (i : Nat) (a b : α), l[i]? = some a → l[i + 1]? = some b → R a b) → l.Pairwise R
  | [], _ => List.Pairwise.nil
  | [a], _ => List.pairwise_singleton _ _
  | a :: b :: r, h => by
    have ih := chain_pw tr (l := b :: r) fun i x y hx hy => h (i + 1) x y (by simpa using hx) (by simpa using hy)
    refine List.pairwise_cons.mpr ⟨fun c hc => ?_, ih⟩
    have h1 := h 0 a b rfl rfl
    rcases List.mem_cons.mp hc with z | z
    · rw [z]; exact h1
    · exact tr a b c h1 ((List.pairwise_cons.mp ih).1 c z)
theorem plan_pw {ns : List Str} {h : Int} {pl : Pl} (p : PlanOk ns h pl) : pl.Pairwise (refLt ns) := chain_pw (fun a b c h1 h2 => by
  unfold refLt at *
  omega) p.asc
def namesAt (ns : List Str) (pl : Pl) (t : Int) : List Str := ns.filter fun x => decide ((t, x) ∈ pl)
theorem tick_names {ns : List Str} {h : Int} {pl : Pl} (hnd : ns.Nodup) (p : PlanOk ns h pl) (t : Int) : (pl.filter fun r => decide (r.1 = t)).map (·.2) = namesAt ns pl t := by
  have pw1 : ((pl.filter fun r => decide (r.1 = t)).map (·.2)).Pairwise fun a b => place ns a < place ns b := by
    rw [List.pairwise_map]
    refine ((plan_pw p).filter _).imp_of_mem fun {a b} ha hb q => ?_
    have ha := of_decide_eq_true (List.mem_filter.mp ha).2
    have hb := of_decide_eq_true (List.mem_filter.mp hb).2
    unfold refLt at q
    omega
  have pw2 : (namesAt ns pl t).Pairwise fun a b => place ns a < place ns b := (names_pw hnd).filter _
  have nd1 : ((pl.filter fun r => decide (r.1 = t)).map (·.2)).Nodup := pw1.imp fun q e => by subst e; omega
  have nd2 : (namesAt ns pl t).Nodup := hnd.filter _
  have mem1 : ∀ x, x ∈ (pl.filter fun r => decide (r.1 = t)).map (·.2) ↔ (t, x) ∈ pl := fun x => by
    constructor
    · intro q
      obtain ⟨r, hr, rfl⟩ := List.mem_map.mp q
      obtain ⟨h1, h2⟩ := List.mem_filter.mp hr
      have := of_decide_eq_true h2
      rw [← this]
      exact h1
    · intro q
      exact List.mem_map.mpr ⟨(t, x), List.mem_filter.mpr ⟨q, decide_eq_true rfl⟩, rfl⟩
  have mem2 : ∀ x, x ∈ namesAt ns pl t ↔ (t, x) ∈ pl := fun x => by
    unfold namesAt
    rw [List.mem_filter]
    exact ⟨fun q => of_decide_eq_true q.2, fun q => ⟨(p.ok _ q).2.2, decide_eq_true q⟩⟩
  have hp : ((pl.filter fun r => decide (r.1 = t)).map (·.2)).Perm (namesAt ns pl t) := (List.perm_ext_iff_of_nodup nd1 nd2).mpr fun x => by rw [mem1, mem2]
  refine hp.eq_of_pairwise (le := fun a b => place ns a < place ns b) (fun a b _ _ h1 h2 => ?_) pw1 pw2
  omega
def putAt (v : Vws) (w : Wd) (t : Int) (kn : Nums) (x : Str) : Nums := kn.put x (refr v w kn x t)
def stepL (v : Vws) (w : Wd) (t : Int) (pl : Pl) (l : List Str) (kn : Nums) : Nums := l.foldl (fun kn x => if (t, x) ∈ pl then putAt v w t kn x else kn) kn
theorem step_names {ns : List Str} {h : Int} {pl : Pl} (hnd : ns.Nodup) (p : PlanOk ns h pl) (v : Vws) (w : Wd) (t : Int) (kn : Nums) : stepL v w t pl ns kn = stepH v w t pl kn := by
  have e1 : stepH v w t pl kn = ((pl.filter fun r => decide (r.1 = t)).map (·.2)).foldl (putAt v w t) kn := by
    unfold stepH putAt
    rw [List.foldl_map, List.foldl_filter]
    simp only [decide_eq_true_eq]
  have e2 : stepL v w t pl ns kn = (namesAt ns pl t).foldl (putAt v w t) kn := by
    unfold stepL namesAt
    rw [List.foldl_filter]
    simp only [decide_eq_true_eq]
  rw [e1, e2, tick_names hnd p]
theorem stepL_cov {v : Vws} {w : Wd} {t : Int} {pl : Pl} {ns : List Str} : ∀ {l : List Str} {kn : Nums}, (∀ x ∈ l, x ∈ ns) → Cov kn ns → Cov (stepL v w t pl l kn) ns ∧ (stepL v w t pl l kn).length = kn.length
  | [], kn, _, h => ⟨h, rfl⟩
  | a :: r, kn, hl, h => by
    have hr : ∀ x ∈ r, x ∈ ns := fun x hx => hl x (List.mem_cons_of_mem _ hx)
    simp only [stepL, List.foldl_cons]
    split
    · have h2 := cov_in h (hl a List.mem_cons_self) (refr v w kn a t)
      obtain ⟨q1, q2⟩ := stepL_cov (t := t) (v := v) (w := w) (pl := pl) hr h2
      refine ⟨q1, q2.trans ?_⟩
      exact len_in h (hl a List.mem_cons_self) _
    · exact stepL_cov hr h
theorem stepL_succ (v : Vws) (w : Wd) (t : Int) (pl : Pl) (l : List Str) (kn : Nums) (n : Nat) (x : Str) (h : l[n]? = some x) : stepL v w t pl (l.take (n + 1)) kn = if (t, x) ∈ pl then putAt v w t (stepL v w t pl (l.take n) kn) x else stepL v w t pl (l.take n) kn := by
  unfold stepL
  rw [List.take_add_one, h, List.foldl_append]
  rfl
theorem in_plan (t : Int) (x : Str) : ∀ pl : Pl, ((pdL (pl.map refD)).any fun z => PyData.eqv z (pdD (.tup [.int t, .str x]))) = decide ((t, x) ∈ pl)
  | [] => rfl
  | a :: r => by
    have ih := in_plan t x r
    obtain ⟨u, y⟩ := a
    simp only [List.map_cons, pdL, List.any_cons, ih]
    simp only [refD, pdD, pdL, PyData.eqv, PyData.eqvAll]
    by_cases z : u = t
    · subst z
      by_cases q : y = x
      · subst q; simp
      · have q' : ¬ x = y := fun e => q e.symm
        simp [q, q']
    · have z' : ¬ t = u := fun e => z e.symm
      simp [z, z']
theorem sd_plan {ns : List Str} {h : Int} {pl : Pl} (p : PlanOk ns h pl) (hn : ∀ x ∈ ns, NameOk x) : Sd 3 (.lst (pl.map refD)) := sd_lst fun d hd => by
  obtain ⟨r, hr, rfl⟩ := List.mem_map.mp hd
  exact sd2 (sd_int _) (sd_name (hn _ (p.ok r hr).2.2))
def LCaches : List D → Sl → Prop := fun ds r => ∃ s v h w pl, NetOk s v ∧ WdOk s h w ∧ PlanOk (nds s v) h pl ∧ ds = [netp s v, .int h, .dct (wdD w), .lst (pl.map refD)] ∧ r = .ol (rowsD s v w pl (h.toNat + 1))
theorem rows_succ (s : Srcs) (v : Vws) (w : Wd) (pl : Pl) (n : Nat) : rowsD s v w pl (n + 1) = rowsD s v w pl n ++ [.dct (numD (heldAt s v w pl n))] := by
  unfold rowsD
  rw [List.range_succ, List.map_append]
  rfl
section
variable {P : Program} {w : World} {K : PySem.W.Frag} {mg : Str → Option Value} {base : Heap} {N : Addr}
theorem ok_lawCaches {f : Addr} {fd : FuncData} (F : Fun K "_law_caches" "_law_caches" sLawCaches f fd) (B : Bl mg) (c1 : Fd P w K mg base 2 "_law_true" LTrue) (c2 : Fd P w K mg base 1 "_law_formula" FComputed) : FnOk P w K mg base CX0 3 f fd ["_law_parts", "_law_horizon", "_law_world_here", "_law_plan_here"] (spR K LCaches) := by
  refine fn_ok F scLawCaches (fun ds r h => ?_) fun cdv A outer s H E hr ds r h => ?_
  · obtain ⟨_, _, _, _, _, _, _, _, rfl, _⟩ := h
    rfl
  · obtain ⟨ss, vv, h, wd, pl, hs, hw, hp, rfl, rfl⟩ := h
    have hu := hu_of hr
    have hu65 : (A.deeper (PyProof.Rows.envOfC "_law_caches" (defScope sLawCaches) s.heap.objs.size f cdv)).units + 65 < cLine := by
      have := (Room.in1 hr).units
      show _ + 1 + 64 < cLine
      exact this
    have h1 := hw.one
    have h12 := hw.twelve
    have hlen := hs.len
    have hnl : (nds ss vv).length ≤ 8 := by simp only [nds, List.length_append, List.length_map]; omega
    have sdp := sd_plan hp (node_names hs)
    refine hf_r ?_
    refine hr_cons (hs_set 4 (s := .ol (rowsD ss vv wd pl 1)) (he_eq (he_lst (hea_cons (he_sh (s := .od (numD (valsAt ss vv wd 0))) (he_call c1 (hr.mono (by decide)) (hea_cons (he_hg (hg_var 0 rfl)) (hea_cons (he_hg (hg_var 2 rfl)) (hea_cons (he_hg hg_int) hea_nil))) ⟨ss, vv, wd, 0, hs, hw.fits (by decide) (by omega), rfl, rfl⟩)) hea_nil) (Nat.le_of_ble_eq_true rfl)) rfl) scLawCaches.nd) ?_
    refine hr_cons (hs_for (is := [5]) (hi_range2 (he_hg hg_int) (he_hg (hg_op (hg_var 1 rfl) hg_int v_add)) (by omega) (by rfl) B.range) (fun n => [some (.sh (netp ss vv)), some (.sh (.int h)), some (.sh (.dct (wdD wd))), some (.sh (.lst (pl.map refD))), some (.ol (rowsD ss vv wd pl (n + 1))), none, none, none]) rfl fun n d hd => ?_) ?_
    · simp only [rngD, List.getElem?_map, Option.map_eq_some_iff] at hd
      obtain ⟨i', hi, rfl⟩ := hd
      obtain ⟨hi1, hi2⟩ := List.getElem?_eq_some_iff.mp hi
      rw [List.getElem_range] at hi2
      subst hi2
      rw [List.length_range] at hi1
      obtain ⟨hc1, hc2⟩ := held_cov (s := ss) (v := vv) (w := wd) (pl := pl) (fun r hr => (hp.ok r hr).2.2) n
      have hvl := len_vals vv (base0 ss wd 0)
      simp only [base0, List.length_map] at hvl
      have hkl : (heldAt ss vv wd pl n).length ≤ 8 := by
        rw [hc2]
        show (valsFrom (base0 ss wd 0) vv).length ≤ 8
        simp only [base0]
        omega
      have hfit := hw.fits (t := 1 + (n : Int)) (by omega) (by omega)
      refine ⟨_, hb_name 5 scLawCaches.nd, .inl ?_⟩
      refine hs_cons (hs_set 6 (he_dictD (ks := numD (heldAt ss vv wd pl n)) (hg_ix (d := .dct (numD (heldAt ss vv wd pl n))) (hg_var 4 rfl) (hg_neg hg_int) rfl (atI_last (by simp [rowsD]) (by rw [rows_succ]; simp))) rfl B.dict) scLawCaches.nd) ?_
      have hheld : heldAt ss vv wd pl (n + 1) = stepL vv wd (1 + (n : Int)) pl (nds ss vv) (heldAt ss vv wd pl n) := (step_names hs.nd hp vv wd _ _).symm
      rw [rows_succ _ _ _ _ (n + 1), hheld]
      generalize heldAt ss vv wd pl n = kn0 at hc1 hkl ⊢
      refine hs_cons (hs_for (is := [7]) (hi_seq (he_sh (s := .ol ((nds ss vv).map D.str)) (he_eq (he_cat (he_sh (s := .ol (keysD (srcD ss))) (he_listD (hg_ix (hg_var 0 rfl) hg_int rfl rfl) rfl B.list)) (he_sh (s := .ol (keysD (vwD vv))) (he_listD (hg_ix (hg_var 0 rfl) hg_int rfl rfl) rfl B.list)) ?_) (congrArg Sl.ol (keys_all ss vv)))) (.inl rfl)) (fun j => [some (.sh (netp ss vv)), some (.sh (.int h)), some (.sh (.dct (wdD wd))), some (.sh (.lst (pl.map refD))), some (.ol (rowsD ss vv wd pl (n + 1))), some (.sh (.int (1 + (n : Int)))), some (.od (numD (stepL vv wd (1 + (n : Int)) pl ((nds ss vv).take j) kn0))), none]) rfl fun j d hd => ?_) ?_
      · simp only [keysD, srcD, vwD, List.length_map]; omega
      · obtain ⟨x, h5, rfl⟩ : ∃ x, (nds ss vv)[j]? = some x ∧ D.str x = d := by
          simp only [List.getElem?_map, Option.map_eq_some_iff] at hd
          exact hd
        have hxn := List.mem_of_getElem? h5
        obtain ⟨q1, q2⟩ := stepL_cov (v := vv) (w := wd) (t := 1 + (n : Int)) (pl := pl) (l := (nds ss vv).take j) (fun x hx => List.mem_of_mem_take hx) hc1
        rw [stepL_succ _ _ _ _ _ _ _ _ h5]
        generalize stepL vv wd (1 + (n : Int)) pl ((nds ss vv).take j) kn0 = kn at q1 q2 ⊢
        refine ⟨_, hb_name 7 scLawCaches.nd, .inl ?_⟩
        have sdr : Sd 3 (.tup [.int (1 + (n : Int)), .str x]) := (sd2 (sd_int _) (sd_name (node_names hs x hxn)) : Sd 1 _).mono (by decide)
        by_cases z : (1 + (n : Int), x) ∈ pl
        · rw [if_pos z]
          unfold putAt
          by_cases hsrc : x ∈ ss.map (·.1)
          · obtain ⟨y, hy, rfl⟩ := List.mem_map.mp hsrc
            obtain ⟨xs, h3, h4⟩ := hfit.2 y hy
            have hlk := look_wd wd y.1
            rw [h3] at hlk
            refine hs_le (hs_one (hs_if (t := true) (ht_eq (ht_cmp (he_tup (hea_cons (he_hg (hg_var 5 rfl)) (hea_cons (he_hg (hg_var 7 rfl)) hea_nil)) (Nat.le_of_ble_eq_true rfl)) (he_hg (hg_var 3 rfl)) (v_inDp hu65 sdr.1 (by have := sdp.1; simpa only [okD] using this) (sdr.shaped (by decide)) (sdp.shaped (by decide)))) (by rw [in_plan]; exact decide_eq_true z)) (fun _ => hs_one (hs_dput 6 (ky := Sum.inr y.1) hu (d := .int (refr vv wd kn y.1 (1 + (n : Int)))) (he_if (t := true) (ht_eq (ht_cmpG (hg_var 7 rfl) (hg_ix (hg_var 0 rfl) hg_int rfl rfl) (v_inD (k := Sum.inr y.1) hu rfl)) (by rw [look_src]; exact decide_eq_true hsrc)) (fun _ => he_eq (he_hg (hg_ix (hg_get (ky := Sum.inr y.1) hu (hg_var 2 rfl) (hg_var 7 rfl) rfl hlk) (hg_var 5 rfl) rfl (at_nth hfit.1 h4))) (by unfold refr; rw [aget_none (hs.apart _ hsrc), h3]; rfl)) fun z => by cases z) rfl (hg_var 7 rfl) ?_)) fun z => by cases z)) ?_
            · simp only [numD, List.length_map]; omega
            · rw [put_num]
              exact .s (.s (.s (.s (.s (.s (.s (.w .n)))))))
          · have hv : x ∈ vv.map (·.1) := (List.mem_append.mp hxn).resolve_left hsrc
            obtain ⟨y, hy, rfl⟩ := List.mem_map.mp hv
            have hin : ∀ u ∈ y.2.1.ins, (kn.get? u).isSome = true := fun u hu' => by
              rw [q1 u]
              exact decide_eq_true (okV_ins (fun x hx => hx) hs.ord y hy u hu')
            refine hs_le (hs_one (hs_if (t := true) (ht_eq (ht_cmp (he_tup (hea_cons (he_hg (hg_var 5 rfl)) (hea_cons (he_hg (hg_var 7 rfl)) hea_nil)) (Nat.le_of_ble_eq_true rfl)) (he_hg (hg_var 3 rfl)) (v_inDp hu65 sdr.1 (by have := sdp.1; simpa only [okD] using this) (sdr.shaped (by decide)) (sdp.shaped (by decide)))) (by rw [in_plan]; exact decide_eq_true z)) (fun _ => hs_one (hs_dput 6 (ky := Sum.inr y.1) hu (d := .int (refr vv wd kn y.1 (1 + (n : Int)))) (he_if (t := false) (ht_eq (ht_cmpG (hg_var 7 rfl) (hg_ix (hg_var 0 rfl) hg_int rfl rfl) (v_inD (k := Sum.inr y.1) hu rfl)) (by rw [look_src]; exact decide_eq_false hsrc)) (fun z => by cases z) fun _ => he_eq (he_callS c2 (hr.mono (by decide)) (hga_cons (hg_ix (hg_get (ky := Sum.inr y.1) hu (hg_ix (hg_var 0 rfl) hg_int rfl rfl) (hg_var 7 rfl) rfl (hs.look hy)) hg_int rfl rfl) (hga_cons (hg_var 6 rfl) hga_nil)) ⟨y.2.1, kn, (hs.vw y hy).fm, hin, rfl, rfl⟩ rfl) (by unfold refr; rw [aget_nd (okV_nd hs.ord).2 y hy])) rfl (hg_var 7 rfl) ?_)) fun z => by cases z)) ?_
            · simp only [numD, List.length_map]; omega
            · rw [put_num]
              exact .s (.s (.s (.s (.s (.s (.s (.w .n)))))))
        · rw [if_neg z]
          refine hs_le (hs_one (hs_if (t := false) (ht_eq (ht_cmp (he_tup (hea_cons (he_hg (hg_var 5 rfl)) (hea_cons (he_hg (hg_var 7 rfl)) hea_nil)) (Nat.le_of_ble_eq_true rfl)) (he_hg (hg_var 3 rfl)) (v_inDp hu65 sdr.1 (by have := sdp.1; simpa only [okD] using this) (sdr.shaped (by decide)) (sdp.shaped (by decide)))) (by rw [in_plan]; exact decide_eq_false z)) (fun z => by cases z) fun _ => hs_nil)) ?_
          exact .s (.s (.s (.s (.s (.s (.s (.w .n)))))))
      rw [List.length_map, List.take_length]
      refine hs_le (hs_one (hs_append 4 (he_sh (he_take 6 rfl)) rfl rfl rfl ?_ (hsl := rfl))) ?_
      · simp only [rowsD, List.length_map, List.length_range]; omega
      · exact .s (.s (.s (.s (.s (.w (.s (.s .n)))))))
    rw [rngD, List.length_map, List.length_range, show h + 1 - 1 = h by omega]
    exact hr_ret (he_take 4 rfl)
end
end KX
set_option Elab.async false
set_option linter.all false
set_option maxRecDepth 100000
set_option maxHeartbeats 1000000
namespace KX
open PySem L2 PL
theorem all_zip {xs : List Int} {h : Nat} (hl : xs.length = h + 1) (dr : Int) : ((xs.zip (xs.drop 1)).map fun p => decide (absI (p.1 - p.2) ≤ dr)).all id = stepsB xs h dr := by
  have ab : ∀ a b : Int, absI (a - b) = absI (b - a) := fun a b => by unfold absI; split <;> split <;> omega
  rw [Bool.eq_iff_iff]
  unfold stepsB
  simp only [List.all_map, List.all_eq_true, Function.comp_apply, id, decide_eq_true_eq, List.mem_range, Int.toNat_natCast]
  constructor
  · intro H t ht
    have h1 : (xs.zip (xs.drop 1))[t]? = some (nthI xs t, nthI xs (1 + (t : Int))) := by
      refine List.getElem?_zip_eq_some.mpr ⟨?_, ?_⟩
      · simp [nthI, List.getElem?_eq_getElem (show t < xs.length by omega)]
      · rw [List.getElem?_drop]
        simp [nthI, show (1 + (t : Int)).toNat = 1 + t by omega, List.getElem?_eq_getElem (show 1 + t < xs.length by omega)]
    have := H _ (List.mem_of_getElem? h1)
    rw [show (1 + (t : Int) - 1) = (t : Int) by omega, ab]
    exact this
  · intro H p hp
    obtain ⟨t, ht⟩ := List.mem_iff_getElem?.mp hp
    obtain ⟨h1, h2⟩ := List.getElem?_zip_eq_some.mp ht
    rw [List.getElem?_drop] at h2
    have hlt := (List.getElem?_eq_some_iff.mp h2).1
    have := H t (by omega)
    rw [show (1 + (t : Int) - 1) = (t : Int) by omega, ab] at this
    simp only [nthI, show (1 + (t : Int)).toNat = 1 + t by omega, Int.toNat_natCast, h1, h2, Option.getD_some] at this
    exact this
def aput (w : Wd) (x : Str) (xs : List Int) : Wd := w.map fun y => if y.1 = x then (x, xs) else y
theorem putD_wd {w : Wd} {x : Str} (h : x ∈ w.map (·.1)) (xs : List Int) : putD (wdD w) (Sum.inr x) (.lst (xs.map .int)) = wdD (aput w x xs) := by
  unfold putD
  rw [look_wd]
  rw [if_pos (by rw [Option.isSome_map, aget_isSome]; simpa using h)]
  simp only [wdD, aput, List.map_map]
  refine List.map_congr_left fun y _ => ?_
  simp only [Function.comp_apply]
  by_cases z : y.1 = x
  · rw [if_pos (by rw [z]), if_pos z]
    simp [z]
  · rw [if_neg (fun e => z (Sum.inr.inj e)), if_neg z]
theorem aget_aput {w : Wd} {x : Str} {xs : List Int} : ∀ (y : Str), x ∈ w.map (·.1) → aget (aput w x xs) y = if y = x then some xs else aget w y := by
  intro y h
  by_cases z : y = x
  · subst z
    rw [if_pos rfl]
    induction w with
    | nil => cases h
    | cons a r ih =>
      simp only [aput, List.map_cons, aget] at ih ⊢
      by_cases q : a.1 = y
      · rw [if_pos q]; simp
      · rw [if_neg q, if_neg q]
        refine ih ?_
        rcases List.mem_cons.mp h with e | e
        · exact absurd e.symm q
        · exact e
  · rw [if_neg z]
    clear h
    induction w with
    | nil => rfl
    | cons a r ih =>
      simp only [aput, List.map_cons, aget] at ih ⊢
      by_cases q : a.1 = x
      · rw [if_pos q, if_neg (fun e : (x, xs).1 = y => z e.symm), if_neg (fun e : a.1 = y => z (e.symm.trans q))]
        exact ih
      · rw [if_neg q]
        by_cases q' : a.1 = y
        · rw [if_pos q', if_pos q']
        · rw [if_neg q', if_neg q']
          exact ih
theorem drop_wd {w : Wd} {x : Str} : dropD (wdD w) (Sum.inr x) = wdD (w.filter fun y => decide (y.1 ≠ x)) := by
  simp only [dropD, wdD, List.filter_map]
  congr 1
  refine List.filter_congr fun y _ => ?_
  simp only [Function.comp_apply]
  refine decide_eq_decide.mpr ⟨fun h z => h (by rw [z]), fun h z => h (Sum.inr.inj z)⟩
theorem cut1 (xs : List D) : cutD xs (some 1) none = xs.drop 1 := by
  unfold cutD
  have h1 : HT.sIx xs.length 0 (some 1) = min 1 xs.length := by
    unfold HT.sIx
    simp
    try omega
  have h2 : HT.sIx xs.length xs.length none = xs.length := by
    unfold HT.sIx
    simp
  rw [h1, h2]
  rcases Nat.lt_or_ge xs.length 1 with z | z
  · have : xs = [] := List.eq_nil_of_length_eq_zero (by omega)
    subst this
    rfl
  · rw [show min 1 xs.length = 1 by omega]
    exact List.take_of_length_le (by rw [List.length_drop]; omega)
end KX
set_option Elab.async false
set_option linter.all false
set_option maxRecDepth 100000
set_option maxHeartbeats 1000000
namespace KX
open PySem L2 PL
/-! ### worlds, by the law -/
def spD (s : Srcs) (x : Str) : Int := ((aget s x).getD (0, 0)).1
def stepsZ (dr : Int) (xs : List Int) : Bool := ((xs.zip (xs.drop 1)).map fun p => decide (absI (p.1 - p.2) ≤ dr)).all id
def lworldB (s : Srcs) (h : Int) (w : Wd) : Bool := decide ((w.map (·.1)).Perm (s.map (·.1))) && (w.all (fun x => decide ((x.2.length : Int) = h + 1)) && w.all fun x => stepsZ (spD s x.1) x.2)
theorem nd_len : ∀ {l m : List Str}, l.Nodup → (∀ x ∈ l, x ∈ m) → l.length ≤ m.length
  | [], m, _, _ => Nat.zero_le _
  | a :: r, m, h, hs => by
    rw [List.nodup_cons] at h
    have ha := hs a List.mem_cons_self
    have := nd_len (l := r) (m := m.erase a) h.2 fun x hx => (List.mem_erase_of_ne (fun e : x = a => h.1 (by rw [← e]; exact hx))).mpr (hs x (List.mem_cons_of_mem _ hx))
    rw [List.length_erase_of_mem ha] at this
    have := List.length_pos_of_mem ha
    simp only [List.length_cons]
    omega
theorem nd_perm {l m : List Str} (hl : l.Nodup) (hm : m.Nodup) (hs : ∀ x ∈ l, x ∈ m) (e : m.length = l.length) : m.Perm l := by
  refine (List.perm_ext_iff_of_nodup hm hl).mpr fun x => ⟨fun hx => ?_, hs x⟩
  refine Classical.byContradiction fun hn => ?_
  have := nd_len (l := x :: l) (m := m) (List.nodup_cons.mpr ⟨hn, hl⟩) fun y hy => by
    rcases List.mem_cons.mp hy with z | z
    · rw [z]; exact hx
    · exact hs y z
  simp only [List.length_cons] at this
  omega
theorem lworld_eq {s : Srcs} {h : Int} {w : Wd} (h0 : 0 ≤ h) (hs : (s.map (·.1)).Nodup) (hw : (w.map (·.1)).Nodup) : lworldB s h w = worldB s h w := by
  have hsp : ∀ x ∈ s, spD s x.1 = x.2.1 := fun x hx => by unfold spD; rw [aget_nd hs x hx]; rfl
  have hz : ∀ {xs : List Int}, (xs.length : Int) = h + 1 → ∀ dr, stepsZ dr xs = stepsB xs h dr := fun {xs} e dr => by
    have := all_zip (xs := xs) (h := h.toNat) (by omega) dr
    rw [show ((h.toNat : Nat) : Int) = h by omega] at this
    exact this
  rw [Bool.eq_iff_iff]
  unfold lworldB worldB
  simp only [Bool.and_eq_true, decide_eq_true_eq, List.all_eq_true]
  constructor
  · rintro ⟨hp, h1, h2⟩
    refine ⟨by have := hp.length_eq; simpa using this, fun x hx => ?_⟩
    have hm : x.1 ∈ w.map (·.1) := hp.mem_iff.mpr (List.mem_map.mpr ⟨x, hx, rfl⟩)
    obtain ⟨u, hu, e⟩ := List.mem_map.mp hm
    have ha := aget_nd hw u hu
    rw [e] at ha
    have q1 := h1 u hu
    have q2 := h2 u hu
    rw [e, hsp x hx, hz q1] at q2
    unfold srcB
    rw [ha]
    unfold courseB
    simp [q1, q2]
  · rintro ⟨hl, h1⟩
    have hin : ∀ y ∈ s.map (·.1), y ∈ w.map (·.1) := fun y hy => by
      obtain ⟨x, hx, rfl⟩ := List.mem_map.mp hy
      have := h1 x hx
      unfold srcB at this
      cases e : aget w x.1 with
      | none => rw [e] at this; cases this
      | some xs => exact List.mem_map.mpr ⟨_, aget_mem e, rfl⟩
    have hp := nd_perm hs hw hin (by rw [List.length_map, List.length_map]; exact hl)
    have each : ∀ u ∈ w, ∃ x ∈ s, u.1 = x.1 ∧ courseB u.2 h x.2.1 = true := fun u hu => by
      obtain ⟨x, hx, e⟩ := List.mem_map.mp (hp.mem_iff.mp (List.mem_map.mpr ⟨u, hu, rfl⟩))
      have := h1 x hx
      unfold srcB at this
      have ha := aget_nd hw u hu
      rw [← e] at ha
      rw [ha] at this
      exact ⟨x, hx, e.symm, this⟩
    refine ⟨hp, fun u hu => ?_, fun u hu => ?_⟩
    · obtain ⟨x, hx, e, q⟩ := each u hu
      unfold courseB at q
      rw [Bool.and_eq_true] at q
      exact of_decide_eq_true q.1
    · obtain ⟨x, hx, e, q⟩ := each u hu
      unfold courseB at q
      rw [Bool.and_eq_true] at q
      rw [e, hsp x hx, hz (of_decide_eq_true q.1)]
      exact q.2
theorem any_not_all {α : Type} (p : α → Bool) : ∀ l : List α, ((l.map fun x => !p x).any id) = !(l.all p)
  | [] => rfl
  | a :: r => by
    simp only [List.map_cons, List.any_cons, List.all_cons, any_not_all p r, id]
    cases p a <;> rfl
theorem first_false {α : Type} {p : α → Bool} : ∀ {l : List α}, l.all p = false → ∃ (n : Nat) (x : α), l[n]? = some x ∧ p x = false ∧ ∀ (i : Nat) (y : α), i < n → l[i]? = some y → p y = true
  | [], h => by cases h
  | a :: r, h => by
    by_cases z : p a = true
    · rw [List.all_cons, z, Bool.true_and] at h
      obtain ⟨n, x, h1, h2, h3⟩ := first_false h
      refine ⟨n + 1, x, by simpa using h1, h2, fun i y hi hy => ?_⟩
      cases i with
      | zero => simp only [List.getElem?_cons_zero, Option.some.injEq] at hy; rw [← hy]; exact z
      | succ i => exact h3 i y (by omega) (by simpa using hy)
    · exact ⟨0, a, rfl, by simpa using z, fun i y hi => by omega⟩
def pairI (p : Int × Int) : D := .tup [.int p.1, .int p.2]
theorem zip_ints (xs ys : List Int) : zipD (xs.map D.int) (ys.map D.int) = (xs.zip ys).map pairI := by
  unfold zipD
  rw [List.zip_map, List.map_map]
  rfl
structure WdFine (w : Wd) : Prop where
  few : okWd w
  nd : (w.map (·.1)).Nodup
  nm : ∀ x ∈ w.map (·.1), NameOk x
  l10 : w.length ≤ 10
def LIsWorld : List D → Sl → Prop := fun ds r => ∃ s v h w, NetOk s v ∧ 1 ≤ h ∧ h ≤ 12 ∧ WdFine w ∧ ds = [netp s v, .int h, .dct (wdD w)] ∧ r = .sh (.bl (lworldB s h w))
theorem wd_keys (w : Wd) : (wdD w).map (·.1) = (w.map (·.1)).map Sum.inr := by
  simp only [wdD, List.map_map]
  rfl
theorem src_keys (s : Srcs) : (srcD s).map (·.1) = (s.map (·.1)).map Sum.inr := by
  simp only [srcD, List.map_map]
  rfl
theorem hr_for {X : Cx} {tg iter : Expr} {body rest : List Stmt} {ρ ρ' : Rh} {r : Sl} {pos : Pos} (h : HS1 X (.For tg iter body [] pos) ρ (.rt r ρ')) : HR X (.For tg iter body [] pos :: rest) ρ r := ⟨ρ', hs_stop h fun _ z => by cases z⟩
section
variable {P : Program} {w : World} {K : PySem.W.Frag} {mg : Str → Option Value} {base : Heap} {N : Addr}
end
end KX
set_option Elab.async false
set_option linter.all false
set_option maxRecDepth 100000
set_option maxHeartbeats 1000000
namespace KX
open PySem L2 PL
theorem vals_keys {s : Srcs} {v : Vws} (h : NetOk s v) (w : Wd) (t : Int) : (valsAt s v w t).map (·.1) = nds s v := by
  obtain ⟨h1, h2⟩ := okV_nd h.ord
  have hb : (base0 s w t).map (·.1) = s.map (·.1) := by simp [base0, Function.comp_def]
  have := keys_vals (v := v) (kn := base0 s w t) (fun x hx => by rw [hb]; exact h1 x hx) h2
  rw [hb] at this
  exact this
theorem step_keys (v : Vws) (w : Wd) (t : Int) {l : List Str} : ∀ {pl : Pl} {kn : Nums}, kn.map (·.1) = l → (∀ r ∈ pl, r.2 ∈ l) → (stepH v w t pl kn).map (·.1) = l
  | [], kn, h, _ => h
  | a :: r, kn, h, hp => by
    simp only [stepH, List.foldl_cons]
    by_cases z : a.1 = t
    · rw [if_pos z]
      exact step_keys v w t (pl := r) (by rw [keys_in (by rw [h]; exact hp a List.mem_cons_self)]; exact h) fun x hx => hp x (List.mem_cons_of_mem _ hx)
    · rw [if_neg z]
      exact step_keys v w t (pl := r) h fun x hx => hp x (List.mem_cons_of_mem _ hx)
theorem held_keys {s : Srcs} {v : Vws} {w : Wd} {h : Int} {pl : Pl} (hs : NetOk s v) (q : PlanOk (nds s v) h pl) : ∀ n, (heldAt s v w pl n).map (·.1) = nds s v
  | 0 => vals_keys hs w 0
  | n + 1 => step_keys v w _ (held_keys hs q n) fun r hr => (q.ok r hr).2.2
theorem sd_ans {s : Srcs} {v : Vws} {w : Wd} {pl : Pl} (qs : Qs) : Sd 3 (.lst (qs.map (ansD s v w pl))) := sd_lst fun d hd => by
  obtain ⟨x, _, rfl⟩ := List.mem_map.mp hd
  exact sd2 (sd_int _) (sd_int _)
end KX
set_option Elab.async false
set_option linter.all false
set_option maxRecDepth 100000
set_option maxHeartbeats 1000000
namespace KX
open PySem L2 PL
abbrev sMarked : Stmt := top 46
theorem scMarked : FnScope ["plan", "refresh"] ["plan"] (defScope sMarked) := ⟨rfl, rfl, rfl, by decide +kernel, rfl, by decide +kernel, by decide +kernel⟩
abbrev sLastRefresh : Stmt := top 47
theorem scLastRefresh : FnScope ["done", "name", "tick"] ["done", "name", "tick"] (defScope sLastRefresh) := ⟨rfl, rfl, rfl, by decide +kernel, rfl, by decide +kernel, by decide +kernel⟩
/-! ### plans as dicts -/
def keyR (r : Int × Str) : List Key := [Sum.inl r.1, Sum.inr r.2]
def refG (r : Int × Str) : D := .gtup [.int r.1, .str r.2]
theorem keyR_inj {a b : Int × Str} (h : keyR a = keyR b) : a = b := by
  obtain ⟨x, y⟩ := a
  obtain ⟨u, v⟩ := b
  simp only [keyR, List.cons.injEq, Sum.inl.injEq, Sum.inr.injEq, and_true] at h
  rw [h.1, h.2]
theorem ref_le (r : Int × Str) : DLe (refG r) (refD r) := dle_gtup (dle_same _)
def doneD (pl : Pl) : TKs := pl.map fun r => (keyR r, D.bl true)
theorem look_done (x : Int × Str) : ∀ pl : Pl, (lookT (doneD pl) (keyR x)).isSome = decide (x ∈ pl)
  | [] => rfl
  | a :: r => by
    simp only [doneD, List.map_cons, lookT]
    by_cases z : a = x
    · subst z
      rw [if_pos rfl]
      simp
    · rw [if_neg fun e => z (keyR_inj e)]
      have := look_done x r
      simp only [doneD] at this
      rw [this]
      simp [Ne.symm z]
def kkR : D → List Key
  | .gtup [.int t, .str x] => keyR (t, x)
  | _ => []
def seqG (t : Bool) (l : List D) : D := if t then .tup l else .lst l
def LMarked : List D → Sl → Prop := fun ds r => ∃ (pl : Pl) (t : Bool), pl.Nodup ∧ pl.length ≤ 1000 ∧ ds = [seqG t (pl.map refG)] ∧ r = .ot (doneD pl)
/-- the tick of the last refresh of a node up to a tick -/
def lastR (pl : Pl) (x : Str) : Nat → Nat
  | 0 => 0
  | n + 1 => if (((n : Int) + 1), x) ∈ pl then n + 1 else lastR pl x n
theorem lastR_le (pl : Pl) (x : Str) : ∀ n, lastR pl x n ≤ n
  | 0 => Nat.le_refl _
  | n + 1 => by
    simp only [lastR]
    split
    · exact Nat.le_refl _
    · exact Nat.le_trans (lastR_le pl x n) (Nat.le_succ n)
theorem lastR_in {pl : Pl} {x : Str} : ∀ {n : Nat}, 0 < lastR pl x n → (((lastR pl x n : Nat) : Int), x) ∈ pl
  | 0, h => by cases h
  | n + 1, h => by
    simp only [lastR] at h ⊢
    split
    · rename_i z
      rw [show ((n + 1 : Nat) : Int) = (n : Int) + 1 by omega]
      exact z
    · rename_i z
      rw [if_neg z] at h
      exact lastR_in h
theorem lastR_no {pl : Pl} {x : Str} : ∀ {n m : Nat}, lastR pl x n < m → m ≤ n → ((m : Int), x) ∉ pl
  | 0, m, h, hm => by omega
  | n + 1, m, h, hm => by
    simp only [lastR] at h
    split at h
    · omega
    · rename_i z
      by_cases e : m = n + 1
      · subst e
        rw [show ((n + 1 : Nat) : Int) = (n : Int) + 1 by omega]
        exact z
      · exact lastR_no h (by omega)
def LLast : List D → Sl → Prop := fun ds r => ∃ (pl : Pl) (x : Str) (n : Nat), n ≤ 1000 ∧ ds = [.dtt (doneD pl), .str x, .int n] ∧ r = .sh (.int (lastR pl x n))
section
variable {P : Program} {w : World} {K : PySem.W.Frag} {mg : Str → Option Value} {base : Heap} {N : Addr}
theorem ok_marked {f : Addr} {fd : FuncData} (F : Fun K "marked" "marked" sMarked f fd) : FnOk P w K mg base CX0 1 f fd ["plan"] (spR K LMarked) := by
  refine fn_ok F scMarked (fun ds r h => ?_) fun cdv A outer s H E hr ds r h => ?_
  · obtain ⟨_, _, _, _, rfl, _⟩ := h
    rfl
  · obtain ⟨pl, t, hnd, hz, rfl, rfl⟩ := h
    have hu := hu_of hr
    refine hf_r ?_
    have hk : (pl.map refG).map kkR = pl.map keyR := by rw [List.map_map]; rfl
    have hg : ((pl.map refG).map fun d => (kkR d, D.bl true)) = doneD pl := by unfold doneD; rw [List.map_map]; rfl
    refine hr_ret (he_eq (he_dmapT (kk := kkR) (f := fun _ => D.bl true) [("refresh", 1)] [1] hu (ds := pl.map refG) (hi_seq (d := seqG t (pl.map refG)) (he_hg (hg_var 0 rfl)) (by cases t <;> first | exact .inl rfl | exact .inr rfl)) scMarked.nd (blkOk_by (N := ["plan", "refresh"]) (sc := defScope sMarked) (by decide +kernel)) (by rw [List.length_map]; omega) (by rw [hk]; exact List.Pairwise.map _ (fun a b h z => h (keyR_inj z)) hnd) fun i d hd => ?_) (congrArg Sl.ot hg))
    obtain ⟨r, _, rfl⟩ := List.mem_map.mp (List.mem_of_getElem? hd)
    exact ⟨_, fun s H C cl fp => hb_name 1 scMarked.nd, fun s H C cl fp => he_hg (hg_var 1 rfl), _, fun s H C cl fp => he_hg hg_bl, rfl⟩
theorem ok_lastRefresh {f : Addr} {fd : FuncData} (F : Fun K "last_refresh" "last_refresh" sLastRefresh f fd) : FnOk P w K mg base CX0 1 f fd ["done", "name", "tick"] (spR K LLast) := by
  refine fn_ok F scLastRefresh (fun ds r h => ?_) fun cdv A outer s H E hr ds r h => ?_
  · obtain ⟨_, _, _, _, rfl, _⟩ := h
    rfl
  · obtain ⟨pl, x, n, hn, rfl, rfl⟩ := h
    have hu := hu_of hr
    refine hf_r ?_
    have hle := lastR_le pl x n
    refine hr_cons (hs_while (fun i => [some (.sh (.dtt (doneD pl))), some (.sh (.str x)), some (.sh (.int ((n : Int) - i)))]) (n - lastR pl x n) (by rw [show (n : Int) - ((0 : Nat) : Int) = n by omega]; rfl) (fun i hi => ?_) (ρ' := [some (.sh (.dtt (doneD pl))), some (.sh (.str x)), some (.sh (.int ((lastR pl x n : Nat) : Int)))]) ?_) (hr_ret (he_hg (hg_var 2 rfl)))
    · have hno := lastR_no (pl := pl) (x := x) (n := n) (m := n - i) (by omega) (by omega)
      refine ⟨_, ht_hw (ht_and (t := true) (u := true) (ht_eq (ht_cmpG (hg_var 2 rfl) hg_int v_gt) (decide_eq_true (by omega))) fun _ => hw_and1 (ht_eq (ht_cmp (he_gtup (hea_cons (he_hg (hg_var 2 rfl)) (hea_cons (he_hg (hg_var 1 rfl)) hea_nil)) (Nat.le_of_ble_eq_true rfl)) (he_hg (hg_var 0 rfl)) (v_ninTk (k := keyR ((n : Int) - i, x)) hu rfl)) ?_)), .inl (hs_le (hs_one (hs_subI 2 rfl hg_int scLastRefresh.nd)) ?_)⟩
      · rw [look_done, decide_eq_false (by rw [show (n : Int) - i = ((n - i : Nat) : Int) by omega]; exact hno)]
        rfl
      · rw [show ((i + 1 : Nat) : Int) = (i : Int) + 1 by omega, show (n : Int) - ((i : Int) + 1) = (n : Int) - i - 1 by omega]
        exact .s (.s (.s .n))
    · rw [show (n : Int) - ((n - lastR pl x n : Nat) : Int) = ((lastR pl x n : Nat) : Int) by omega]
      by_cases z : 0 < lastR pl x n
      · have hin := lastR_in z
        refine ht_eq (ht_hw (ht_and (t := true) (u := false) (ht_eq (ht_cmpG (hg_var 2 rfl) hg_int v_gt) (decide_eq_true (by omega))) fun _ => hw_and1 (ht_eq (ht_cmp (he_gtup (hea_cons (he_hg (hg_var 2 rfl)) (hea_cons (he_hg (hg_var 1 rfl)) hea_nil)) (Nat.le_of_ble_eq_true rfl)) (he_hg (hg_var 0 rfl)) (v_ninTk (k := keyR (((lastR pl x n : Nat) : Int), x)) hu rfl)) ?_))) rfl
        rw [look_done, decide_eq_true hin]
        rfl
      · exact ht_eq (ht_hw (ht_and (t := false) (u := false) (ht_eq (ht_cmpG (hg_var 2 rfl) hg_int v_gt) (decide_eq_false (by omega))) fun z => by cases z)) rfl
end
end KX
set_option Elab.async false
set_option linter.all false
set_option maxRecDepth 100000
set_option maxHeartbeats 1000000
namespace KX
open PySem L2 PL
/-! ### a node and the nodes below it, in order -/
def lowL (s : Srcs) (v : Vws) (x : Str) : List Str := belowL s v x ++ [x]
theorem mem_belowL {s : Srcs} {v : Vws} (h : NetOk s v) {x y : Str} : y ∈ belowL s v x ↔ y ∈ nds s v ∧ Bel v x y ∧ y ≠ x := by
  have hp : okP (s.map (·.1)) v.reverse.reverse := by rw [List.reverse_reverse]; exact okV_P (fun y hy => hy) h.ord
  have hb := reach_bel y v.reverse [x] hp
  rw [List.reverse_reverse] at hb
  unfold belowL
  rw [List.mem_filter, Bool.and_eq_true, Bool.not_eq_true', decide_eq_true_eq, decide_eq_false_iff_not, hb]
  simp
theorem nds_before {s : Srcs} {v : Vws} (h : NetOk s v) {i : Nat} {y z : Str} {p : Fm × Int} (hi : (nds s v)[i]? = some y) (hp : aget v y = some p) (hz : z ∈ p.1.ins) : z ∈ (nds s v).take i := by
  have hm := aget_mem hp
  obtain ⟨a, b, e⟩ := List.append_of_mem hm
  have ho : okP (s.map (·.1)) v := okV_P (fun y hy => hy) h.ord
  rw [e] at ho
  have h2 := (okP_app ho).2.2.1 z hz
  have hj : (nds s v)[(s.map (·.1) ++ a.map (·.1)).length]? = some y := by
    unfold nds
    rw [e, List.map_append, ← List.append_assoc, List.getElem?_append_right (Nat.le_refl _), Nat.sub_self]
    rfl
  have hij : i = (s.map (·.1) ++ a.map (·.1)).length := by
    obtain ⟨h1, e1⟩ := List.getElem?_eq_some_iff.mp hi
    obtain ⟨h2, e2⟩ := List.getElem?_eq_some_iff.mp hj
    exact (List.getElem_inj h.nd).mp (e1.trans e2.symm)
  have ht : (nds s v).take i = s.map (·.1) ++ a.map (·.1) := by
    rw [hij]
    unfold nds
    rw [e, List.map_append, ← List.append_assoc, List.take_left]
  rw [ht]
  exact h2
theorem bel_before {s : Srcs} {v : Vws} (h : NetOk s v) {x y : Str} (hb : Bel v x y) : ∀ {j : Nat}, (nds s v)[j]? = some x → y = x ∨ y ∈ (nds s v).take j := by
  induction hb with
  | refl x => exact fun _ => .inl rfl
  | @step x z y p h1 h2 _ ih =>
    intro j hj
    have hz := nds_before h hj h1 h2
    obtain ⟨k, hk⟩ := List.mem_iff_getElem?.mp hz
    have hkj : k < j := by
      have := (List.getElem?_eq_some_iff.mp hk).1
      rw [List.length_take] at this
      omega
    rw [List.getElem?_take_of_lt hkj] at hk
    rcases ih hk with e | e
    · exact .inr (e ▸ hz)
    · have : (nds s v).take k = ((nds s v).take j).take k := by rw [List.take_take, Nat.min_eq_left (by omega)]
      rw [this] at e
      exact .inr (List.mem_of_mem_take e)
theorem bel_snoc {v : Vws} {x y z : Str} {p : Fm × Int} (h : Bel v x y) (hp : aget v y = some p) (hz : z ∈ p.1.ins) : Bel v x z := by
  induction h with
  | refl x => exact .step hp hz (.refl z)
  | step h1 h2 _ ih => exact .step h1 h2 (ih hp)
theorem nd_not_take {l : List Str} (h : l.Nodup) {j : Nat} {x : Str} (e : l[j]? = some x) : x ∉ l.take j := fun hm => by
  obtain ⟨k, hk⟩ := List.mem_iff_getElem?.mp hm
  have hkj : k < j := by
    have := (List.getElem?_eq_some_iff.mp hk).1
    rw [List.length_take] at this
    omega
  rw [List.getElem?_take_of_lt hkj] at hk
  obtain ⟨h1, e1⟩ := List.getElem?_eq_some_iff.mp hk
  obtain ⟨h2, e2⟩ := List.getElem?_eq_some_iff.mp e
  have := (List.getElem_inj h).mp (e1.trans e2.symm)
  omega
theorem filt_take {g : Str → Bool} : ∀ {xs : List Str} {n : Nat} {y : Str}, (xs.filter g)[n]? = some y → ∃ i, xs[i]? = some y ∧ (xs.filter g).take n = (xs.take i).filter g
  | [], n, y, h => by simp at h
  | a :: r, n, y, h => by
    by_cases z : g a = true
    · rw [List.filter_cons_of_pos z] at h ⊢
      cases n with
      | zero =>
        simp only [List.getElem?_cons_zero, Option.some.injEq] at h
        exact ⟨0, by simp [h], by simp⟩
      | succ n =>
        simp only [List.getElem?_cons_succ] at h
        obtain ⟨i, h1, h2⟩ := filt_take h
        exact ⟨i + 1, by simpa using h1, by rw [List.take_succ_cons, List.take_succ_cons, List.filter_cons_of_pos z, h2]⟩
    · rw [List.filter_cons_of_neg z] at h ⊢
      obtain ⟨i, h1, h2⟩ := filt_take h
      exact ⟨i + 1, by simpa using h1, by rw [List.take_succ_cons, List.filter_cons_of_neg z, h2]⟩
theorem low_nds {s : Srcs} {v : Vws} {x : Str} (hx : x ∈ nds s v) : ∀ y ∈ lowL s v x, y ∈ nds s v := fun y hy => by
  rcases List.mem_append.mp hy with z | z
  · exact (List.mem_filter.mp z).1
  · rw [List.mem_singleton.mp z]; exact hx
theorem low_nd {s : Srcs} {v : Vws} (h : NetOk s v) (x : Str) : (lowL s v x).Nodup := by
  unfold lowL
  refine List.nodup_append.mpr ⟨h.nd.filter _, by simp, fun a ha b hb e => ?_⟩
  rw [List.mem_singleton] at hb
  exact ((mem_belowL h).mp ha).2.2 (e.trans hb)
theorem low_len {s : Srcs} {v : Vws} (h : NetOk s v) {x : Str} (hx : x ∈ nds s v) : (lowL s v x).length ≤ 8 := by
  have := nd_len (low_nd h x) (low_nds hx)
  have hl := h.len
  simp only [nds, List.length_append, List.length_map] at this
  omega
/-- inputs come first -/
theorem low_ins {s : Srcs} {v : Vws} (h : NetOk s v) {x : Str} (hx : x ∈ nds s v) {n : Nat} {y z : Str} {p : Fm × Int} (hy : (lowL s v x)[n]? = some y) (hp : aget v y = some p) (hz : z ∈ p.1.ins) : z ∈ (lowL s v x).take n := by
  obtain ⟨j, hj⟩ := List.mem_iff_getElem?.mp hx
  unfold lowL at hy ⊢
  by_cases hn : n < (belowL s v x).length
  · rw [List.getElem?_append_left hn] at hy
    rw [List.take_append_of_le_length (by omega)]
    have hyb := List.mem_of_getElem? hy
    obtain ⟨b1, b2, b3⟩ := (mem_belowL h).mp hyb
    have hyj : y ∈ (nds s v).take j := (bel_before h b2 hj).resolve_left b3
    unfold belowL at hy
    obtain ⟨i, h1, h2⟩ := filt_take hy
    have hzi := nds_before h h1 hp hz
    have hzx : z ≠ x := fun e => by
      have hxi : x ∈ (nds s v).take i := e ▸ hzi
      obtain ⟨k, hk⟩ := List.mem_iff_getElem?.mp hyj
      have hkj : k < j := by
        have := (List.getElem?_eq_some_iff.mp hk).1
        rw [List.length_take] at this
        omega
      rw [List.getElem?_take_of_lt hkj] at hk
      obtain ⟨a1, a2⟩ := List.getElem?_eq_some_iff.mp hk
      obtain ⟨c1, c2⟩ := List.getElem?_eq_some_iff.mp h1
      have hki : k = i := (List.getElem_inj h.nd).mp (a2.trans c2.symm)
      refine nd_not_take h.nd hj ?_
      have : (nds s v).take i = ((nds s v).take j).take i := by rw [List.take_take, Nat.min_eq_left (by omega)]
      rw [this] at hxi
      exact List.mem_of_mem_take hxi
    have hzb : z ∈ belowL s v x := (mem_belowL h).mpr ⟨List.mem_of_mem_take hzi, bel_snoc b2 hp hz, hzx⟩
    have h2' : (belowL s v x).take n = ((nds s v).take i).filter fun y => decide (y ∈ reach [x] v.reverse) && !decide (y = x) := h2
    rw [h2']
    exact List.mem_filter.mpr ⟨hzi, (List.mem_filter.mp hzb).2⟩
  · have hn' : n = (belowL s v x).length := by
      have := (List.getElem?_eq_some_iff.mp hy).1
      rw [List.length_append, List.length_singleton] at this
      omega
    subst hn'
    rw [List.getElem?_append_right (Nat.le_refl _), Nat.sub_self] at hy
    cases hy
    rw [List.take_left]
    have hzi := nds_before h hj hp hz
    exact (mem_belowL h).mpr ⟨List.mem_of_mem_take hzi, .step hp hz (.refl z), fun e => nd_not_take h.nd hj (e ▸ hzi)⟩
end KX
set_option Elab.async false
set_option linter.all false
set_option maxRecDepth 100000
set_option maxHeartbeats 1000000
namespace KX
open PySem L2 PL
abbrev sWidened : Stmt := top 21
theorem scWidened : FnScope ["formula", "known", "kind", "parts", "name", "factor"] ["formula", "known"] (defScope sWidened) := ⟨rfl, rfl, rfl, by decide +kernel, rfl, by decide +kernel, by decide +kernel⟩
/-- how far off a formula can be -/
def Fm.wid (f : Fm) (env : Str → Int) : Int := match f with
  | .sum ts => (ts.map fun t => absI t.1 * env t.2).sum
  | .mn xs => maxI (xs.map env)
  | .mx xs => maxI (xs.map env)
def FWidened : List D → Sl → Prop := fun ds r => ∃ (f : Fm) (kn : Nums), FmOk f ∧ (∀ x ∈ f.ins, (kn.get? x).isSome = true) ∧ ds = [f.d, .dct (numD kn)] ∧ r = .sh (.int (f.wid fun x => (kn.get? x).getD 0))
section
variable {P : Program} {w : World} {K : PySem.W.Frag} {mg : Str → Option Value} {base : Heap} {N : Addr}
theorem ok_widened {f : Addr} {fd : FuncData} (F : Fun K "widened" "widened" sWidened f fd) (B : Bl mg) : FnOk P w K mg base CX0 1 f fd ["formula", "known"] (spR K FWidened) := by
  refine fn_ok F scWidened (fun ds r h => ?_) fun cdv A outer s H E hr ds r h => ?_
  · obtain ⟨fm, kn, _, _, rfl, _⟩ := h
    rfl
  · obtain ⟨fm, kn, ht, hk, rfl, rfl⟩ := h
    refine hf_r ?_
    have hu := hu_of hr
    have hlook : ∀ x ∈ fm.ins, look (numD kn) (Sum.inr x) = some (.int ((kn.get? x).getD 0)) := fun x hx => by
      rw [look_num]
      obtain ⟨n, hn⟩ := Option.isSome_iff_exists.mp (hk x hx)
      rw [hn]
      rfl
    refine hr_cons (hs_asg (he_hg (hg_var 0 rfl)) (hb_tup (hbs_cons (hb_name 2 scWidened.nd) (hbs_cons (hb_name 3 scWidened.nd) hbs_nil)))) ?_
    cases fm with
    | sum ts =>
      refine hr_when (t := true) (ht_eq (ht_cmpG (hg_var 2 rfl) hg_str v_eqS) (by simp [Fm.kind])) (fun _ => ?_) fun z => by cases z
      refine hr_ret (he_callB (hea_cons (he_sh (he_eq (he_map (f := fun d => match d with | .tup [.int n, .str x] => .int (absI n * (kn.get? x).getD 0) | _ => .non) [("factor", 5), ("name", 4)] [5, 4] (hi_seq (he_hg (hg_var 3 rfl)) (.inr rfl)) scWidened.nd (blkOk_by (N := ["formula", "known", "kind", "parts", "name", "factor"]) (sc := defScope sWidened) (by decide +kernel)) ?_ (fun i d hd => ?_)) (?_ : _ = Sl.ol ((ts.map fun t => absI t.1 * (kn.get? t.2).getD 0).map D.int)))) hea_nil) (c_sum rfl) (by rfl) B.sum PyProof.Rows.boot_sum)
      · have := ht.four; simp only [Fm.ins, List.length_map] at this ⊢; omega
      · obtain ⟨t, h1, rfl⟩ := List.mem_map.mp (List.mem_of_getElem? hd)
        obtain ⟨f1, f2, _⟩ := ht.fac ts rfl t h1
        exact ⟨_, fun s H C cl fp => hb_tup (hbs_cons (hb_name 5 scWidened.nd) (hbs_cons (hb_name 4 scWidened.nd) hbs_nil)), _, fun s H C cl fp => he_hg (hg_op (hg_callB (hga_cons (hg_var 5 rfl) hga_nil) c_abs (by rfl) B.abs PyProof.Rows.boot_abs) (hg_get (ky := Sum.inr t.2) hu (hg_var 1 rfl) (hg_var 4 rfl) rfl (hlook t.2 (List.mem_map.mpr ⟨t, h1, rfl⟩))) (v_mul (.inl ⟨by split <;> omega, by split <;> omega⟩))), rfl⟩
      · simp [termD, Function.comp_def]
    | mn xs =>
      refine hr_when (t := false) (ht_eq (ht_cmpG (hg_var 2 rfl) hg_str v_eqS) (by simp [Fm.kind, nms, nxs])) (fun z => by cases z) fun _ => ?_
      refine hr_ret (he_callB (hea_cons (he_sh (he_eq (he_map (f := fun d => match d with | .str x => .int ((kn.get? x).getD 0) | _ => .non) [("name", 4)] [4] (hi_seq (he_hg (hg_var 3 rfl)) (.inr rfl)) scWidened.nd (blkOk_by (N := ["formula", "known", "kind", "parts", "name", "factor"]) (sc := defScope sWidened) (by decide +kernel)) ?_ (fun i d hd => ?_)) (?_ : _ = Sl.ol ((xs.map fun x => (kn.get? x).getD 0).map D.int)))) hea_nil) (c_maxL rfl (by have := ht.one; simp only [Fm.ins] at this; rw [List.length_map]; omega)) (by rfl) B.max PyProof.Rows.boot_max)
      · have := ht.four; simp only [Fm.ins, List.length_map] at this ⊢; omega
      · obtain ⟨x, h1, rfl⟩ := List.mem_map.mp (List.mem_of_getElem? hd)
        exact ⟨_, fun s H C cl fp => hb_name 4 scWidened.nd, _, fun s H C cl fp => he_hg (hg_get (ky := Sum.inr x) hu (hg_var 1 rfl) (hg_var 4 rfl) rfl (hlook x h1)), rfl⟩
      · simp [Function.comp_def]
    | mx xs =>
      refine hr_when (t := false) (ht_eq (ht_cmpG (hg_var 2 rfl) hg_str v_eqS) (by simp [Fm.kind, nms, nxs])) (fun z => by cases z) fun _ => ?_
      refine hr_ret (he_callB (hea_cons (he_sh (he_eq (he_map (f := fun d => match d with | .str x => .int ((kn.get? x).getD 0) | _ => .non) [("name", 4)] [4] (hi_seq (he_hg (hg_var 3 rfl)) (.inr rfl)) scWidened.nd (blkOk_by (N := ["formula", "known", "kind", "parts", "name", "factor"]) (sc := defScope sWidened) (by decide +kernel)) ?_ (fun i d hd => ?_)) (?_ : _ = Sl.ol ((xs.map fun x => (kn.get? x).getD 0).map D.int)))) hea_nil) (c_maxL rfl (by have := ht.one; simp only [Fm.ins] at this; rw [List.length_map]; omega)) (by rfl) B.max PyProof.Rows.boot_max)
      · have := ht.four; simp only [Fm.ins, List.length_map] at this ⊢; omega
      · obtain ⟨x, h1, rfl⟩ := List.mem_map.mp (List.mem_of_getElem? hd)
        exact ⟨_, fun s H C cl fp => hb_name 4 scWidened.nd, _, fun s H C cl fp => he_hg (hg_get (ky := Sum.inr x) hu (hg_var 1 rfl) (hg_var 4 rfl) rfl (hlook x h1)), rfl⟩
      · simp [Function.comp_def]
end
end KX
set_option Elab.async false
set_option linter.all false
set_option maxRecDepth 100000
set_option maxHeartbeats 1000000
namespace KX
open PySem L2 PL
abbrev sWorstErrors : Stmt := top 49
theorem scWorstErrors : FnScope ["network", "name", "ages", "sources", "views", "known", "node"] ["network", "name", "ages"] (defScope sWorstErrors) := ⟨rfl, rfl, rfl, by decide +kernel, rfl, by decide +kernel, by decide +kernel⟩
/-! ### worst errors, node by node -/
def drD (s : Srcs) (x : Str) : Int := ((aget s x).getD (0, 0)).1
def errStep (s : Srcs) (v : Vws) (ag kn : Nums) (y : Str) : Nums := match aget v y with
  | some p => kn.put y (p.1.wid fun z => (kn.get? z).getD 0)
  | none => kn.put y (drD s y * (ag.get? y).getD 0)
def errsL (s : Srcs) (v : Vws) (ag : Nums) (l : List Str) : Nums := l.foldl (errStep s v ag) []
theorem errsL_succ (s : Srcs) (v : Vws) (ag : Nums) (l : List Str) (n : Nat) (y : Str) (h : l[n]? = some y) : errsL s v ag (l.take (n + 1)) = errStep s v ag (errsL s v ag (l.take n)) y := by
  unfold errsL
  rw [List.take_add_one, h, List.foldl_append]
  rfl
theorem errs_keys (s : Srcs) (v : Vws) (ag : Nums) : ∀ (l : List Str) (kn : Nums), (kn.map (·.1) ++ l).Nodup → (l.foldl (errStep s v ag) kn).map (·.1) = kn.map (·.1) ++ l
  | [], kn, _ => by simp
  | a :: r, kn, h => by
    have hn : a ∉ kn.map (·.1) := fun z => (List.nodup_append.mp h).2.2 a z a List.mem_cons_self rfl
    have hk : (errStep s v ag kn a).map (·.1) = kn.map (·.1) ++ [a] := by
      unfold errStep
      split <;> exact keys_new hn
    rw [List.foldl_cons, errs_keys s v ag r _ (by rw [hk, List.append_assoc]; exact h), hk, List.append_assoc]
    rfl
theorem errs_key {s : Srcs} {v : Vws} {ag : Nums} {l : List Str} (h : l.Nodup) : (errsL s v ag l).map (·.1) = l := by
  exact errs_keys s v ag l [] (by simpa using h)
theorem drift_of {s : Srcs} {v : Vws} (h : NetOk s v) {x : Str} (hx : x ∈ s.map (·.1)) : look (srcD s) (Sum.inr x) = some (.tup [.int (drD s x), .int ((aget s x).getD (0, 0)).2]) ∧ 0 ≤ drD s x ∧ drD s x ≤ 20 := by
  have := look_map (fun (p : Int × Int) => D.tup [.int p.1, .int p.2]) s x
  unfold srcD drD
  rw [this]
  obtain ⟨y, hy, rfl⟩ := List.mem_map.mp hx
  rw [aget_nd h.src.nd y hy]
  exact ⟨rfl, (h.src.ok y hy).drift⟩
def LWorst (N : Addr) : List D → Sl → Prop := fun ds r => ∃ (s : Srcs) (v : Vws) (x : Str) (ag : Nums), NetOk s v ∧ x ∈ nds s v ∧ (∀ y ∈ lowL s v x, y ∈ s.map (·.1) → (ag.get? y).isSome = true) ∧ ds = [netD N s v, .str x, .dct (numD ag)] ∧ r = .od (numD (errsL s v ag (lowL s v x)))
section
variable {P : Program} {w : World} {K : PySem.W.Frag} {mg : Str → Option Value} {base : Heap} {N : Addr}
theorem ok_worst_errors {f : Addr} {fd : FuncData} (F : Fun K "worst_errors" "worst_errors" sWorstErrors f fd) (nc : NetC K N) (c1 : Fd P w K mg base 1 "widened" FWidened) (m1 : Md P w K mg base 1 N "sources" (NSources N)) (m2 : Md P w K mg base 1 N "views" (NViews N)) (m3 : Md P w K mg base 2 N "below" (NBelow N)) : FnOk P w K mg base CX0 3 f fd ["network", "name", "ages"] (spR K (LWorst N)) := by
  refine fn_ok F scWorstErrors (fun ds r h => ?_) fun cdv A outer s H E hr ds r h => ?_
  · obtain ⟨_, _, _, _, _, _, _, rfl, _⟩ := h
    rfl
  · obtain ⟨ss, vv, x, ag, hs, hx, hag, rfl, rfl⟩ := h
    have hu := hu_of hr
    have hll := low_len hs hx
    have hnd := low_nd hs x
    refine hf_r ?_
    refine hr_cons (hs_set 3 (he_meth0 m1 nc.cl (hr.mono (by decide)) (he_hg (hg_var 0 rfl)) (net_no (by decide +kernel) (by decide +kernel)) ⟨ss, vv, hs, rfl, rfl⟩) scWorstErrors.nd) ?_
    refine hr_share 3 rfl rfl ?_
    refine hr_cons (hs_set 4 (he_meth0 m2 nc.cl (hr.mono (by decide)) (he_hg (hg_var 0 rfl)) (net_no (by decide +kernel) (by decide +kernel)) ⟨ss, vv, hs, rfl, rfl⟩) scWorstErrors.nd) ?_
    refine hr_share 4 rfl rfl ?_
    refine hr_cons (hs_set 5 he_dict0 scWorstErrors.nd) ?_
    refine hr_cons (hs_for (is := [6]) (hi_seq (he_sh (s := .ol ((lowL ss vv x).map D.str)) (he_eq (he_cat (he_sh (s := .ol ((belowL ss vv x).map D.str)) (he_meth m3 nc.cl (hr.mono (by decide)) (he_hg (hg_var 0 rfl)) (fun _ _ => trivial) (net_no (by decide +kernel) (by decide +kernel)) (hea_cons (he_hg (hg_var 1 rfl)) hea_nil) ⟨ss, vv, x, hs, hx, rfl, rfl⟩)) (he_sh (s := .ol [D.str x]) (he_lst (hea_cons (he_hg (hg_var 1 rfl)) hea_nil) (Nat.le_of_ble_eq_true rfl))) ?_) ?_)) (.inl rfl)) (fun n => [some (.sh (netD N ss vv)), some (.sh (.str x)), some (.sh (.dct (numD ag))), some (.sh (.dct (srcD ss))), some (.sh (.dct (vwD vv))), some (.od (numD (errsL ss vv ag ((lowL ss vv x).take n)))), none]) rfl fun n d hd => ?_) ?_
    · have : (lowL ss vv x).length = (belowL ss vv x).length + 1 := by simp [lowL]
      simp only [List.length_map, List.length_singleton]; omega
    · rw [lowL, List.map_append]; rfl
    · obtain ⟨y, hy, rfl⟩ : ∃ y, (lowL ss vv x)[n]? = some y ∧ D.str y = d := by
        simp only [List.getElem?_map, Option.map_eq_some_iff] at hd
        exact hd
      have hym := List.mem_of_getElem? hy
      have hyn := low_nds hx y hym
      have hkeys := errs_key (s := ss) (v := vv) (ag := ag) (l := (lowL ss vv x).take n) (hnd.sublist (List.take_sublist _ _))
      have hkl : (errsL ss vv ag ((lowL ss vv x).take n)).length ≤ 8 := by
        have := congrArg List.length hkeys
        rw [List.length_map, List.length_take] at this
        omega
      rw [errsL_succ _ _ _ _ _ _ hy]
      refine ⟨_, hb_name 6 scWorstErrors.nd, .inl ?_⟩
      by_cases hv : y ∈ vv.map (·.1)
      · obtain ⟨e, he, rfl⟩ := List.mem_map.mp hv
        have hav := aget_nd (okV_nd hs.ord).2 e he
        have hin : ∀ z ∈ e.2.1.ins, ((errsL ss vv ag ((lowL ss vv x).take n)).get? z).isSome = true := fun z hz => by
          rw [num_isSome, hkeys]
          exact decide_eq_true (low_ins hs hx hy hav hz)
        unfold errStep
        rw [hav]
        generalize errsL ss vv ag ((lowL ss vv x).take n) = kn at hin hkl ⊢
        refine hs_le (hs_one (hs_if (t := true) (ht_eq (ht_cmpG (hg_var 6 rfl) (hg_var 4 rfl) (v_inD (k := Sum.inr e.1) hu rfl)) (by rw [hs.look he]; rfl)) (fun _ => hs_one (hs_dput 5 (ky := Sum.inr e.1) hu (he_callS c1 (hr.mono (by decide)) (hga_cons (hg_ix (hg_get (ky := Sum.inr e.1) hu (hg_var 4 rfl) (hg_var 6 rfl) rfl (hs.look he)) hg_int rfl rfl) (hga_cons (hg_var 5 rfl) hga_nil)) ⟨e.2.1, kn, (hs.vw e he).fm, hin, rfl, rfl⟩ rfl) rfl (hg_var 6 rfl) ?_)) fun z => by cases z)) ?_
        · simp only [numD, List.length_map]; omega
        · rw [put_num]
          repeat (first | exact Le.n | refine Le.s ?_ | refine Le.w ?_)
      · have hsrc : y ∈ ss.map (·.1) := (List.mem_append.mp hyn).resolve_right hv
        have hnv := aget_none (hs.apart _ hsrc)
        obtain ⟨l1, d0, d20⟩ := drift_of hs hsrc
        have hlk := look_num ag y
        obtain ⟨k, hk⟩ := Option.isSome_iff_exists.mp (hag y hym hsrc)
        rw [hk] at hlk
        have hvl : look (vwD vv) (Sum.inr y) = none := by
          have := look_vw vv y
          rw [hnv] at this
          exact this
        unfold errStep
        rw [hnv]
        simp only [hk, Option.getD_some]
        generalize errsL ss vv ag ((lowL ss vv x).take n) = kn at hkl ⊢
        refine hs_le (hs_one (hs_if (t := false) (ht_eq (ht_cmpG (hg_var 6 rfl) (hg_var 4 rfl) (v_inD (k := Sum.inr y) hu rfl)) (by rw [hvl]; rfl)) (fun z => by cases z) fun _ => hs_one (hs_dput 5 (ky := Sum.inr y) hu (he_hg (hg_op (hg_ix (hg_get (ky := Sum.inr y) hu (hg_var 3 rfl) (hg_var 6 rfl) rfl l1) hg_int rfl rfl) (hg_get (ky := Sum.inr y) hu (hg_var 2 rfl) (hg_var 6 rfl) rfl hlk) (v_mul (.inl ⟨by omega, by omega⟩)))) rfl (hg_var 6 rfl) ?_))) ?_
        · simp only [numD, List.length_map]; omega
        · rw [put_num]
          repeat (first | exact Le.n | refine Le.s ?_ | refine Le.w ?_)
    rw [List.length_map, List.take_length]
    exact hr_ret (he_take 5 rfl)
end
end KX
set_option Elab.async false
set_option linter.all false
set_option maxRecDepth 100000
set_option maxHeartbeats 1000000
namespace KX
open PySem L2 PL
abbrev sQueryAges : Stmt := top 48
abbrev qaN : List Str := ["network", "done", "query", "tick", "name", "tolerance", "views", "seen", "node", "lower", "source"]
theorem scQueryAges : FnScope qaN ["network", "done", "query"] (defScope sQueryAges) := ⟨rfl, rfl, rfl, by decide +kernel, rfl, by decide +kernel, by decide +kernel⟩
/-! ### ages -/
def putAll (kn : Nums) (l : List Str) (t : Int) : Nums := l.foldl (fun kn z => kn.put z t) kn
def seenStep (v : Vws) (pl : Pl) (st : Nums) (y : Str) : Nums := match aget v y with
  | some p => putAll (st.put y (lastR pl y ((st.get? y).getD 0).toNat)) p.1.ins (lastR pl y ((st.get? y).getD 0).toNat)
  | none => st.put y (lastR pl y ((st.get? y).getD 0).toNat)
def seenL (v : Vws) (pl : Pl) (x : Str) (t : Int) (l : List Str) : Nums := l.foldl (seenStep v pl) [(x, t)]
def agesL (s : Srcs) (v : Vws) (pl : Pl) (q : Int × Str × Int) : Nums :=
  ((s.map (·.1)).filter fun y => ((seenL v pl q.2.1 q.1 (lowL s v q.2.1).reverse).get? y).isSome).map fun y => (y, q.1 - ((seenL v pl q.2.1 q.1 (lowL s v q.2.1).reverse).get? y).getD 0)
theorem seenL_succ (v : Vws) (pl : Pl) (x : Str) (t : Int) (l : List Str) (n : Nat) (y : Str) (h : l[n]? = some y) : seenL v pl x t (l.take (n + 1)) = seenStep v pl (seenL v pl x t (l.take n)) y := by
  unfold seenL
  rw [List.take_add_one, h, List.foldl_append]
  rfl
theorem merge_all (t : Int) : ∀ (l : List Str) (kn : Nums), mergeD (numD kn) (l.map fun z => (Sum.inr z, D.int t)) = numD (putAll kn l t)
  | [], kn => rfl
  | a :: r, kn => by
    show mergeD (putD (numD kn) (Sum.inr a) (.int t)) (r.map fun z => (Sum.inr z, D.int t)) = _
    rw [put_num, merge_all t r (kn.put a t)]
    rfl
theorem get_all (t : Int) (y : Str) : ∀ (l : List Str) (kn : Nums), (putAll kn l t).get? y = if y ∈ l then some t else kn.get? y
  | [], kn => by simp [putAll]
  | a :: r, kn => by
    show (putAll (kn.put a t) r t).get? y = _
    rw [get_all t y r, get_put]
    by_cases z : y ∈ r
    · rw [if_pos z, if_pos (List.mem_cons_of_mem _ z)]
    · rw [if_neg z]
      by_cases e : y = a
      · rw [if_pos e, if_pos (e ▸ List.mem_cons_self)]
      · rw [if_neg e, if_neg (fun q => (List.mem_cons.mp q).elim e z)]
theorem len_all (t : Int) : ∀ (l : List Str) (kn : Nums), (putAll kn l t).length ≤ kn.length + l.length
  | [], kn => Nat.le_refl _
  | a :: r, kn => by
    have h1 := len_all t r (kn.put a t)
    have h2 := len_nput kn a t
    show (putAll (kn.put a t) r t).length ≤ _
    simp only [List.length_cons]
    omega
theorem get_seen {v : Vws} {pl : Pl} {st : Nums} {y z : Str} : (seenStep v pl st y).get? z = if (∃ p, aget v y = some p ∧ z ∈ p.1.ins) ∨ z = y then some (lastR pl y ((st.get? y).getD 0).toNat : Int) else st.get? z := by
  unfold seenStep
  cases e : aget v y with
  | none =>
    simp only [reduceCtorEq, false_and, exists_false, false_or]
    rw [get_put]
  | some p =>
    simp only [Option.some.injEq, exists_eq_left']
    rw [get_all, get_put]
    by_cases h1 : z ∈ p.1.ins
    · rw [if_pos h1, if_pos (.inl h1)]
    · rw [if_neg h1]
      by_cases h2 : z = y
      · rw [if_pos h2, if_pos (.inr h2)]
      · rw [if_neg h2, if_neg (fun q => q.elim h1 h2)]
/-- what the seen ticks are, ahead of each turn -/
structure SeenOk (s : Srcs) (v : Vws) (x : Str) (t : Int) (done : List Str) (st : Nums) : Prop where
  top : (st.get? x).isSome = true
  ins : ∀ u ∈ done, ∀ p, aget v u = some p → ∀ z ∈ p.1.ins, (st.get? z).isSome = true
  num : ∀ z n, st.get? z = some n → 0 ≤ n ∧ n ≤ t
theorem seen_ok {s : Srcs} {v : Vws} {pl : Pl} {x : Str} {t : Int} (t0 : 0 ≤ t) : ∀ (l : List Str) (n : Nat), SeenOk s v x t (l.take n) (seenL v pl x t (l.take n))
  | l, 0 => by
    refine ⟨?_, fun u hu => by simp at hu, fun z n h => ?_⟩
    · simp [seenL, Nums.get?]
    · simp only [seenL, List.take_zero, List.foldl_nil, Nums.get?] at h
      by_cases e : x = z
      · rw [if_pos e] at h; cases h; omega
      · rw [if_neg e] at h; cases h
  | l, n + 1 => by
    have ih := seen_ok (s := s) (v := v) (pl := pl) (x := x) t0 l n
    cases e : l[n]? with
    | none =>
      have : l.take (n + 1) = l.take n := by rw [List.take_add_one, e]; simp
      rw [this]
      exact ih
    | some y =>
      rw [seenL_succ _ _ _ _ _ _ _ e]
      generalize seenL v pl x t (l.take n) = st at ih ⊢
      have more : ∀ z, (st.get? z).isSome = true → ((seenStep v pl st y).get? z).isSome = true := fun z h => by
        rw [get_seen]
        split
        · rfl
        · exact h
      refine ⟨more x ih.top, fun u hu p hp z hz => ?_, fun z m h => ?_⟩
      · rw [List.take_add_one, e] at hu
        rcases List.mem_append.mp hu with q | q
        · exact more z (ih.ins u q p hp z hz)
        · have : u = y := by simpa using q
          subst this
          rw [get_seen, if_pos (.inl ⟨p, hp, hz⟩)]
          rfl
      · rw [get_seen] at h
        split at h
        · cases h
          have h1 := lastR_le pl y ((st.get? y).getD 0).toNat
          cases q : st.get? y with
          | none => rw [q] at h1; simp at h1 ⊢; omega
          | some k =>
            have := ih.num y k q
            rw [q] at h1
            simp only [Option.getD_some] at h1 ⊢
            omega
        · exact ih.num z m h
theorem seen_len (v : Vws) (pl : Pl) (x : Str) (t : Int) (hv : ∀ y p, aget v y = some p → p.1.ins.length ≤ 4) : ∀ (l : List Str) (n : Nat), (seenL v pl x t (l.take n)).length ≤ 1 + 5 * n
  | l, 0 => by simp [seenL]
  | l, n + 1 => by
    have ih := seen_len v pl x t hv l n
    cases e : l[n]? with
    | none =>
      have : l.take (n + 1) = l.take n := by rw [List.take_add_one, e]; simp
      rw [this]; omega
    | some y =>
      rw [seenL_succ _ _ _ _ _ _ _ e]
      generalize seenL v pl x t (l.take n) = st at ih ⊢
      have h1 := len_nput st y (lastR pl y ((st.get? y).getD 0).toNat)
      unfold seenStep
      cases q : aget v y with
      | none => dsimp only; omega
      | some p =>
        have h2 := len_all (lastR pl y ((st.get? y).getD 0).toNat) p.1.ins (st.put y (lastR pl y ((st.get? y).getD 0).toNat))
        have := hv y p q
        dsimp only
        omega
theorem bel_last {v : Vws} {x y : Str} (h : Bel v x y) : y = x ∨ ∃ u p, Bel v x u ∧ aget v u = some p ∧ y ∈ p.1.ins := by
  induction h with
  | refl x => exact .inl rfl
  | @step x z y p h1 h2 h3 ih =>
    rcases ih with e | ⟨u, p', b, hu, hy⟩
    · subst e
      exact .inr ⟨x, p, .refl x, h1, h2⟩
    · exact .inr ⟨u, p', .step h1 h2 b, hu, hy⟩
theorem low_mem {s : Srcs} {v : Vws} (h : NetOk s v) {x : Str} (hx : x ∈ nds s v) {y : Str} : y ∈ lowL s v x ↔ Bel v x y := by
  obtain ⟨j, hj⟩ := List.mem_iff_getElem?.mp hx
  unfold lowL
  rw [List.mem_append, List.mem_singleton, mem_belowL h]
  constructor
  · rintro (⟨_, b, _⟩ | rfl)
    · exact b
    · exact .refl y
  · intro b
    rcases bel_before h b hj with e | e
    · exact .inr e
    · exact .inl ⟨List.mem_of_mem_take e, b, fun z => nd_not_take h.nd hj (z ▸ e)⟩
/-- a node but the last is an input of a later one -/
theorem low_up {s : Srcs} {v : Vws} (h : NetOk s v) {x : Str} (hx : x ∈ nds s v) {n : Nat} {y : Str} (hy : (lowL s v x).reverse[n]? = some y) : y = x ∨ ∃ u ∈ (lowL s v x).reverse.take n, ∃ p, aget v u = some p ∧ y ∈ p.1.ins := by
  have hym : y ∈ lowL s v x := List.mem_reverse.mp (List.mem_of_getElem? hy)
  rcases bel_last ((low_mem h hx).mp hym) with e | ⟨u, p, b, hu, hin⟩
  · exact .inl e
  · refine .inr ⟨u, ?_, p, hu, hin⟩
    obtain ⟨k, hk⟩ := List.mem_iff_getElem?.mp ((low_mem h hx).mpr b)
    have hyk := low_ins h hx hk hu hin
    obtain ⟨i, hi⟩ := List.mem_iff_getElem?.mp hyk
    have hik : i < k := by
      have := (List.getElem?_eq_some_iff.mp hi).1
      rw [List.length_take] at this
      omega
    rw [List.getElem?_take_of_lt hik] at hi
    have hkl := (List.getElem?_eq_some_iff.mp hk).1
    have hnl := (List.getElem?_eq_some_iff.mp hy).1
    rw [List.length_reverse] at hnl
    rw [List.getElem?_reverse hnl] at hy
    have e : (lowL s v x).length - 1 - n = i := by
      obtain ⟨a1, a2⟩ := List.getElem?_eq_some_iff.mp hy
      obtain ⟨c1, c2⟩ := List.getElem?_eq_some_iff.mp hi
      exact (List.getElem_inj (low_nd h x)).mp (a2.trans c2.symm)
    refine List.mem_iff_getElem?.mpr ⟨(lowL s v x).length - 1 - k, ?_⟩
    rw [List.getElem?_take_of_lt (by omega), List.getElem?_reverse (by omega), show (lowL s v x).length - 1 - ((lowL s v x).length - 1 - k) = k by omega]
    exact hk
def LQAges (N : Addr) : List D → Sl → Prop := fun ds r => ∃ (s : Srcs) (v : Vws) (pl : Pl) (q : Int × Str × Int), NetOk s v ∧ q.2.1 ∈ nds s v ∧ 0 ≤ q.1 ∧ q.1 ≤ 12 ∧ ds = [netD N s v, .dtt (doneD pl), qryD q] ∧ r = .od (numD (agesL s v pl q))
end KX
set_option Elab.async false
set_option linter.all false
set_option maxRecDepth 100000
set_option maxHeartbeats 1000000
namespace KX
open PySem L2 PL
section
variable {P : Program} {w : World} {K : PySem.W.Frag} {mg : Str → Option Value} {base : Heap} {N : Addr}
theorem ok_query_ages {f : Addr} {fd : FuncData} (F : Fun K "query_ages" "query_ages" sQueryAges f fd) (B : Bl mg) (nc : NetC K N) (c1 : Fd P w K mg base 1 "last_refresh" LLast) (c2 : Fd P w K mg base 1 "formula_inputs" FFormulaInputs) (m1 : Md P w K mg base 1 N "sources" (NSources N)) (m2 : Md P w K mg base 1 N "views" (NViews N)) (m3 : Md P w K mg base 2 N "below" (NBelow N)) : FnOk P w K mg base CX0 3 f fd ["network", "done", "query"] (spR K (LQAges N)) := by
  refine fn_ok F scQueryAges (fun ds r h => ?_) fun cdv A outer s H E hr ds r h => ?_
  · obtain ⟨_, _, _, _, _, _, _, _, rfl, _⟩ := h
    rfl
  · obtain ⟨ss, vv, pl, q, hs, hx, t0, t12, rfl, rfl⟩ := h
    have hu := hu_of hr
    obtain ⟨t, x, tol⟩ := q
    dsimp only at hx t0 t12
    have hll := low_len hs hx
    have hnd := low_nd hs x
    have hv4 : ∀ y p, aget vv y = some p → p.1.ins.length ≤ 4 := fun y p h => (hs.vw _ (aget_mem h)).fm.four
    refine hf_r ?_
    refine hr_cons (hs_asg (is := [3, 4, 5]) (he_hg (hg_var 2 rfl)) (hb_tup (hbs_cons (hb_name 3 scQueryAges.nd) (hbs_cons (hb_name 4 scQueryAges.nd) (hbs_cons (hb_name 5 scQueryAges.nd) hbs_nil))))) ?_
    refine hr_cons (hs_set 6 (he_meth0 m2 nc.cl (hr.mono (by decide)) (he_hg (hg_var 0 rfl)) (net_no (by decide +kernel) (by decide +kernel)) ⟨ss, vv, hs, rfl, rfl⟩) scQueryAges.nd) ?_
    refine hr_share 6 rfl rfl ?_
    refine hr_cons (hs_set 7 (he_dict1 (ky := Sum.inr x) (hg_var 4 rfl) (hg_var 3 rfl)) scQueryAges.nd) ?_
    refine hr_cons (hs_for (is := [8]) (hi_revL (he_sh (s := .ol ((lowL ss vv x).map D.str)) (he_eq (he_cat (he_sh (s := .ol ((belowL ss vv x).map D.str)) (he_meth m3 nc.cl (hr.mono (by decide)) (he_hg (hg_var 0 rfl)) (fun _ _ => trivial) (net_no (by decide +kernel) (by decide +kernel)) (hea_cons (he_hg (hg_var 4 rfl)) hea_nil) ⟨ss, vv, x, hs, hx, rfl, rfl⟩)) (he_sh (s := .ol [D.str x]) (he_lst (hea_cons (he_hg (hg_var 4 rfl)) hea_nil) (Nat.le_of_ble_eq_true rfl))) ?_) ?_)) B.reversed) (fun n => [some (.sh (netD N ss vv)), some (.sh (.dtt (doneD pl))), some (.sh (qryD (t, x, tol))), some (.sh (.int t)), some (.sh (.str x)), some (.sh (.int tol)), some (.sh (.dct (vwD vv))), some (.od (numD (seenL vv pl x t ((lowL ss vv x).reverse.take n)))), none, none, none]) rfl fun n d hd => ?_) ?_
    · have : (lowL ss vv x).length = (belowL ss vv x).length + 1 := by simp [lowL]
      simp only [List.length_map, List.length_singleton]; omega
    · rw [lowL, List.map_append]; rfl
    · rw [← List.map_reverse] at hd
      obtain ⟨y, hy, rfl⟩ : ∃ y, (lowL ss vv x).reverse[n]? = some y ∧ D.str y = d := by
        simp only [List.getElem?_map, Option.map_eq_some_iff] at hd
        exact hd
      have hnl := (List.getElem?_eq_some_iff.mp hy).1
      rw [List.length_reverse] at hnl
      have hym := List.mem_reverse.mp (List.mem_of_getElem? hy)
      have hyn := low_nds hx y hym
      have so := seen_ok (s := ss) (v := vv) (pl := pl) (x := x) t0 (lowL ss vv x).reverse n
      have sl := seen_len vv pl x t hv4 (lowL ss vv x).reverse n
      have hsome : ((seenL vv pl x t ((lowL ss vv x).reverse.take n)).get? y).isSome = true := by
        rcases low_up hs hx hy with e | ⟨u, hum, p, hp, hin⟩
        · rw [e]; exact so.top
        · exact so.ins u hum p hp y hin
      rw [seenL_succ _ _ _ _ _ _ _ hy]
      generalize seenL vv pl x t ((lowL ss vv x).reverse.take n) = st at so sl hsome ⊢
      obtain ⟨k, hk⟩ := Option.isSome_iff_exists.mp hsome
      obtain ⟨k0, kt⟩ := so.num y k hk
      have hlk := look_num st y
      rw [hk] at hlk
      obtain ⟨kn, rfl⟩ := Int.eq_ofNat_of_zero_le k0
      refine ⟨_, hb_name 8 scQueryAges.nd, .inl ?_⟩
      refine hs_cons (hs_dput 7 (ky := Sum.inr y) hu (he_callS c1 (hr.mono (by decide)) (hga_cons (hg_var 1 rfl) (hga_cons (hg_var 8 rfl) (hga_cons (hg_get (ky := Sum.inr y) hu (hg_var 7 rfl) (hg_var 8 rfl) rfl hlk) hga_nil))) ⟨pl, y, kn, by omega, rfl, rfl⟩ rfl) rfl (hg_var 8 rfl) ?_) ?_
      · simp only [numD, List.length_map]; omega
      rw [put_num]
      have hst : seenStep vv pl st y = match aget vv y with
        | some p => putAll (st.put y (lastR pl y kn)) p.1.ins (lastR pl y kn)
        | none => st.put y (lastR pl y kn) := by
        unfold seenStep
        rw [hk]
        rfl
      rw [hst]
      have hl1 := len_nput st y (lastR pl y kn)
      by_cases hv : y ∈ vv.map (·.1)
      · obtain ⟨e, he, rfl⟩ := List.mem_map.mp hv
        have hav := aget_nd (okV_nd hs.ord).2 e he
        have h4 := hv4 _ _ hav
        have hlk2 := look_num (st.put e.1 (lastR pl e.1 kn)) e.1
        rw [get_put, if_pos rfl] at hlk2
        rw [hav]
        generalize ((lastR pl e.1 kn : Nat) : Int) = m at hl1 hlk2 ⊢
        refine hs_le (hs_one (hs_if (t := true) (ht_eq (ht_cmpG (hg_var 8 rfl) (hg_var 6 rfl) (v_inD (k := Sum.inr e.1) hu rfl)) (by rw [hs.look he]; rfl)) (fun _ => hs_one (hs_update 7 (he_sh (he_dmap (kk := kS) (f := fun _ => .int m) [("lower", 9)] [9] (hi_seq (he_sh (he_call c2 (hr.mono (by decide)) (hea_cons (he_hg (hg_ix (hg_get (ky := Sum.inr e.1) hu (hg_var 6 rfl) (hg_var 8 rfl) rfl (hs.look he)) hg_int rfl rfl)) hea_nil) ⟨e.2.1, (hs.vw e he).fm, rfl, rfl⟩)) (.inl rfl)) scQueryAges.nd (blkOk_by (N := qaN) (sc := defScope sQueryAges) (by decide +kernel)) ?_ ?_ (fun i d hd => ?_))) rfl rfl ?_)) fun z => by cases z)) ?_
        · rw [List.length_map]; omega
        · rw [show (e.2.1.ins.map D.str).map kS = e.2.1.ins.map (fun x => (Sum.inr x : Key)) by simp only [List.map_map]; rfl]
          exact List.Pairwise.map _ (fun a b h z => h (Sum.inr.inj z)) (hs.ins he)
        · obtain ⟨z, h2, rfl⟩ := List.mem_map.mp (List.mem_of_getElem? hd)
          exact ⟨_, fun s H C cl fp => hb_name 9 scQueryAges.nd, fun s H C cl fp => he_hg (hg_var 9 rfl), _, fun s H C cl fp => he_hg (hg_get (ky := Sum.inr e.1) hu (hg_var 7 rfl) (hg_var 8 rfl) rfl hlk2), rfl⟩
        · simp only [List.length_map, numD]; omega
        · have hmm : (e.2.1.ins.map D.str).map (fun d => (kS d, D.int m)) = e.2.1.ins.map fun z => (Sum.inr z, D.int m) := by
            rw [List.map_map]
            rfl
          rw [hmm, merge_all]
          repeat (first | exact Le.n | refine Le.s ?_ | refine Le.w ?_)
      · have hsrc : y ∈ ss.map (·.1) := (List.mem_append.mp hyn).resolve_right hv
        have hnv := aget_none (hs.apart _ hsrc)
        have hvl : look (vwD vv) (Sum.inr y) = none := by
          have := look_vw vv y
          rw [hnv] at this
          exact this
        rw [hnv]
        refine hs_le (hs_one (hs_if (t := false) (ht_eq (ht_cmpG (hg_var 8 rfl) (hg_var 6 rfl) (v_inD (k := Sum.inr y) hu rfl)) (by rw [hvl]; rfl)) (fun z => by cases z) fun _ => hs_nil)) ?_
        repeat (first | exact Le.n | refine Le.s ?_ | refine Le.w ?_)
    rw [List.length_reverse, List.length_map, show (lowL ss vv x).reverse.take (lowL ss vv x).length = (lowL ss vv x).reverse from List.take_of_length_le (by rw [List.length_reverse]; exact Nat.le_refl _)]
    have hks : keysD (srcD ss) = (ss.map (·.1)).map D.str := by simp only [keysD, srcD, List.map_map]; rfl
    have hres : (((keysD (srcD ss)).filter fun d => match d with | .str y => ((seenL vv pl x t (lowL ss vv x).reverse).get? y).isSome | _ => false).map fun d => (kS d, match d with | .str y => D.int (t - ((seenL vv pl x t (lowL ss vv x).reverse).get? y).getD 0) | _ => .non)) = numD (agesL ss vv pl (t, x, tol)) := by
      rw [hks, List.filter_map, List.map_map]
      unfold agesL numD
      rw [List.map_map]
      rfl
    generalize hst : seenL vv pl x t (lowL ss vv x).reverse = st at hres ⊢
    refine hr_ret (he_eq (he_dmapF (kk := kS) (f := fun d => match d with | .str y => .int (t - (st.get? y).getD 0) | _ => .non) (g := fun d => match d with | .str y => (st.get? y).isSome | _ => false) [("source", 10)] [10] (hi_keys (he_sh (s := .od (srcD ss)) (he_meth0 m1 nc.cl (hr.mono (by decide)) (he_hg (hg_var 0 rfl)) (net_no (by decide +kernel) (by decide +kernel)) ⟨ss, vv, hs, rfl, rfl⟩))) scQueryAges.nd (blkOk_by (N := qaN) (sc := defScope sQueryAges) (by decide +kernel)) ?_ ?_ (fun i d hd => ?_)) (congrArg Sl.od hres))
    · have := hs.len; rw [hks]; simp only [List.length_map]; omega
    · rw [hks, List.map_map]
      exact List.Pairwise.map _ (fun a b h z => h (Sum.inr.inj z)) hs.src.nd
    · rw [hks] at hd
      obtain ⟨y, hy, rfl⟩ := List.mem_map.mp (List.mem_of_getElem? hd)
      have hlk := look_num st y
      refine ⟨_, fun s H C cl fp => hb_name 10 scQueryAges.nd, rfl, fun s H C cl fp => hts_one (ht_eq (ht_cmpG (hg_var 10 rfl) (hg_var 7 rfl) (v_inD (k := Sum.inr y) hu rfl)) (by rw [hlk, Option.isSome_map])), fun hg => ⟨fun s H C cl fp => he_hg (hg_var 10 rfl), fun s H C cl fp => ?_⟩⟩
      obtain ⟨k, hk⟩ := Option.isSome_iff_exists.mp (show (st.get? y).isSome = true from hg)
      rw [hk] at hlk
      exact he_eq (he_hg (hg_op (hg_var 3 rfl) (hg_get (ky := Sum.inr y) hu (hg_var 7 rfl) (hg_var 10 rfl) rfl hlk) v_sub)) (by simp only [hk, Option.getD_some])
end
end KX
set_option Elab.async false
set_option linter.all false
set_option maxRecDepth 100000
set_option maxHeartbeats 1000000
namespace KX
open PySem L2 PL
abbrev sCheckPlanned : Stmt := top 42
theorem scCheckPlanned : FnScope ["network", "horizon", "plan"] ["network", "horizon", "plan"] (defScope sCheckPlanned) := ⟨rfl, rfl, rfl, by decide +kernel, rfl, by decide +kernel, by decide +kernel⟩
abbrev sCheckQuery : Stmt := top 44
theorem scCheckQuery : FnScope ["network", "horizon", "query"] ["network", "horizon", "query"] (defScope sCheckQuery) := ⟨rfl, rfl, rfl, by decide +kernel, rfl, by decide +kernel, by decide +kernel⟩
/-! ### ages, least bounds, worst error -/
def QryOk (ns : List Str) (h : Int) (q : Int × Str × Int) : Prop := 0 ≤ q.1 ∧ q.1 ≤ h ∧ q.2.1 ∈ ns ∧ 0 ≤ q.2.2 ∧ q.2.2 ≤ 999
def NCheckPlanned (N : Addr) : List D → Sl → Prop := fun ds r => ∃ s v h pl t, NetOk s v ∧ 1 ≤ h ∧ h ≤ 12 ∧ PlanOk (nds s v) h pl ∧ ds = [netD N s v, .int h, seqD t (pl.map refD)] ∧ r = none'
def NCheckQuery (N : Addr) : List D → Sl → Prop := fun ds r => ∃ (s : Srcs) (v : Vws) (h : Int) (q : Int × Str × Int), NetOk s v ∧ QryOk (nds s v) h q ∧ ds = [netD N s v, .int h, qryD q] ∧ r = none'
/-- what a call of this part is given -/
structure AskOk (s : Srcs) (v : Vws) (h : Int) (pl : Pl) (q : Int × Str × Int) : Prop where
  net : NetOk s v
  one : 1 ≤ h
  twelve : h ≤ 12
  plan : PlanOk (nds s v) h pl
  qry : QryOk (nds s v) h q
def NAges (N : Addr) : List D → Sl → Prop := fun ds r => ∃ s v h pl t q, AskOk s v h pl q ∧ ds = [netD N s v, .int h, seqG t (pl.map refG), qryD q] ∧ r = .od (numD (agesL s v pl q))
def leastL (s : Srcs) (v : Vws) (pl : Pl) (q : Int × Str × Int) : Nums := errsL s v (agesL s v pl q) (lowL s v q.2.1)
def NLeast (N : Addr) : List D → Sl → Prop := fun ds r => ∃ s v h pl t q, AskOk s v h pl q ∧ ds = [netD N s v, .int h, seqG t (pl.map refG), qryD q] ∧ r = .od (numD (leastL s v pl q))
def worstV (s : Srcs) (v : Vws) (pl : Pl) (q : Int × Str × Int) : Int := ((leastL s v pl q).get? q.2.1).getD 0
def NWorst (N : Addr) : List D → Sl → Prop := fun ds r => ∃ s v h pl t q, AskOk s v h pl q ∧ ds = [netD N s v, .int h, seqG t (pl.map refG), qryD q] ∧ r = .sh (.int (worstV s v pl q))
theorem seq_le (t : Bool) (pl : Pl) : DLe (seqG t (pl.map refG)) (seqD t (pl.map refD)) := by
  cases t
  · exact dle_lst (dle_map ref_le pl)
  · exact dle_tup (dle_map ref_le pl)
theorem plan_nd {ns : List Str} {h : Int} {pl : Pl} (p : PlanOk ns h pl) : pl.Nodup := (plan_pw p).imp fun {a b} q e => by
  subst e
  rcases q with q | ⟨_, q⟩ <;> omega
theorem ages_some {s : Srcs} {v : Vws} {pl : Pl} {q : Int × Str × Int} (h : NetOk s v) (hx : q.2.1 ∈ nds s v) (t0 : 0 ≤ q.1) : ∀ y ∈ lowL s v q.2.1, y ∈ s.map (·.1) → ((agesL s v pl q).get? y).isSome = true := fun y hy hs => by
  have hm : y ∈ (lowL s v q.2.1).reverse := List.mem_reverse.mpr hy
  obtain ⟨n, hn⟩ := List.mem_iff_getElem?.mp hm
  have so := seen_ok (s := s) (v := v) (pl := pl) (x := q.2.1) t0 (lowL s v q.2.1).reverse (lowL s v q.2.1).reverse.length
  rw [List.take_length] at so
  have hsome : ((seenL v pl q.2.1 q.1 (lowL s v q.2.1).reverse).get? y).isSome = true := by
    rcases low_up h hx hn with e | ⟨u, hu, p, hp, hin⟩
    · rw [e]; exact so.top
    · exact so.ins u (List.mem_of_mem_take hu) p hp y hin
  rw [num_isSome]
  refine decide_eq_true ?_
  unfold agesL
  rw [List.map_map]
  refine List.mem_map.mpr ⟨y, List.mem_filter.mpr ⟨hs, hsome⟩, rfl⟩
def boundB (s : Srcs) (v : Vws) (ag bn : Nums) (x : Str) : Bool := match aget v x with
  | some p => decide (p.1.wid (fun z => (bn.get? z).getD 0) ≤ (bn.get? x).getD 0)
  | none => decide (drD s x * (ag.get? x).getD 0 ≤ (bn.get? x).getD 0)
def NIsBound (N : Addr) : List D → Sl → Prop := fun ds r => ∃ (s : Srcs) (v : Vws) (ag bn : Nums) (x : Str), NetOk s v ∧ x ∈ nds s v ∧ (bn.get? x).isSome = true ∧ (∀ p, aget v x = some p → ∀ z ∈ p.1.ins, (bn.get? z).isSome = true) ∧ (x ∈ s.map (·.1) → (ag.get? x).isSome = true) ∧ ds = [netD N s v, .dct (numD ag), .dct (numD bn), .str x] ∧ r = .sh (.bl (boundB s v ag bn x))
section
variable {P : Program} {w : World} {K : PySem.W.Frag} {mg : Str → Option Value} {base : Heap} {N : Addr}
theorem ok_check_planned {f : Addr} {fd : FuncData} (F : Fun K "check_planned" "check_planned" sCheckPlanned f fd) (c1 : Fd P w K mg base 1 "check_network" (NCheckNetwork N)) (c2 : Fd P w K mg base 3 "check_horizon" FCheckHorizon) (c3 : Fd P w K mg base 5 "check_plan" (NCheckPlan N)) : FnOk P w K mg base CX0 6 f fd ["network", "horizon", "plan"] (spR K (NCheckPlanned N)) := by
  refine fn_ok F scCheckPlanned (fun ds r h => ?_) fun cdv A outer s H E hr ds r h => ?_
  · obtain ⟨_, _, _, _, _, _, _, _, _, rfl, _⟩ := h
    rfl
  · obtain ⟨ss, vv, h, pl, t, hs, h1, h12, hp, rfl, rfl⟩ := h
    exact hf_n (hn_cons (hs_expr (he_call c1 (hr.mono (by decide)) (hea_cons (he_hg (hg_var 0 rfl)) hea_nil) ⟨ss, vv, rfl, rfl⟩)) (hn_cons (hs_expr (he_call c2 (hr.mono (by decide)) (hea_cons (he_hg (hg_var 1 rfl)) hea_nil) ⟨h, h1, h12, rfl, rfl⟩)) (hn_cons (hs_expr (he_call c3 (hr.mono (by decide)) (hea_cons (he_hg (hg_var 0 rfl)) (hea_cons (he_hg (hg_var 1 rfl)) (hea_cons (he_hg (hg_var 2 rfl)) hea_nil))) ⟨ss, vv, h, pl, t, hs, hp, rfl, rfl⟩)) hn_nil)))
theorem ok_check_query {f : Addr} {fd : FuncData} (F : Fun K "check_query" "check_query" sCheckQuery f fd) (c1 : Fd P w K mg base 3 "is_query" (NIsQuery N)) : FnOk P w K mg base CX0 4 f fd ["network", "horizon", "query"] (spR K (NCheckQuery N)) := by
  refine fn_ok F scCheckQuery (fun ds r h => ?_) fun cdv A outer s H E hr ds r h => ?_
  · obtain ⟨_, _, _, _, _, _, rfl, _⟩ := h
    rfl
  · obtain ⟨ss, vv, h, q, hs, hq, rfl, rfl⟩ := h
    exact hf_n (hn_skip (ht_not (t := true) (ht_he (he_call (r := yes) c1 (hr.mono (by decide)) (hea_cons (he_hg (hg_var 0 rfl)) (hea_cons (he_hg (hg_var 1 rfl)) (hea_cons (he_hg (hg_var 2 rfl)) hea_nil))) ⟨ss, vv, h, q, hs, hq, rfl, rfl⟩))) hn_nil)
end
end KX
set_option Elab.async false
set_option linter.all false
set_option maxRecDepth 100000
set_option maxHeartbeats 1000000
namespace KX
open PySem L2 PL
abbrev abN : List Str := ["network", "horizon", "plan", "query", "bounds", "lags", "name", "tolerance", "nodes", "node"]
/-- whether bounds are evidence -/
def areB (s : Srcs) (v : Vws) (pl : Pl) (q : Int × Str × Int) (bn : Nums) : Bool :=
  decide (bn.length = (lowL s v q.2.1).length) && ((lowL s v q.2.1).all fun y => (bn.get? y).isSome) && (decide ((bn.get? q.2.1).getD 0 ≤ q.2.2) && (lowL s v q.2.1).all fun y => boundB s v (agesL s v pl q) bn y)
def NAreBounds (N : Addr) : List D → Sl → Prop := fun ds r => ∃ s v h pl t q bn, AskOk s v h pl q ∧ bn.length ≤ 1000 ∧ ds = [netD N s v, .int h, seqG t (pl.map refG), qryD q, .dct (numD bn)] ∧ r = .sh (.bl (areB s v pl q bn))
section
variable {P : Program} {w : World} {K : PySem.W.Frag} {mg : Str → Option Value} {base : Heap} {N : Addr}
end
end KX
set_option Elab.async false
set_option linter.all false
set_option maxRecDepth 100000
set_option maxHeartbeats 1000000
namespace KX
open PySem L2 PL
abbrev piN : List Str := ["formula", "place", "errors", "gap", "start", "way", "kind", "parts", "most", "leading", "other", "name", "factor"]
/-! ### the places of the inputs of a view -/
def pairP (p : Int × Int) : D := .tup [.int p.1, .int p.2]
def leadS (xs : List Str) (er : Nums) : Str := ((xs.filter fun y => decide ((er.get? y).getD 0 = maxI (xs.map fun z => (er.get? z).getD 0))).head?).getD ""
def placeOf (f : Fm) (p : Int × Int) (er : Nums) (gap : Int) : Srcs := match f with
  | .sum ts => ts.map fun t => (t.2, if 0 < t.1 then p else (-p.1, -p.2))
  | .mn xs => xs.map fun y => (y, if y = leadS xs er then p else (p.1 + gap, 0))
  | .mx xs => xs.map fun y => (y, if y = leadS xs er then p else (p.1 - gap, 0))
def LPlaced : List D → Sl → Prop := fun ds r => ∃ (f : Fm) (p : Int × Int) (er : Nums) (gap : Int), FmOk f ∧ f.ins.Nodup ∧ (∀ y ∈ f.ins, (er.get? y).isSome = true) ∧ ds = [f.d, pairP p, .dct (numD er), .int gap] ∧ r = .od (srcD (placeOf f p er gap))
theorem maxI_mem {ns : List Int} (h : 0 < ns.length) : maxI ns ∈ ns := (sortI_perm ns).mem_iff.mp (List.mem_of_getElem? (sort_max h))
theorem lead_at {xs : List Str} {er : Nums} (h : 0 < xs.length) : (xs.filter fun y => decide ((er.get? y).getD 0 = maxI (xs.map fun z => (er.get? z).getD 0)))[0]? = some (leadS xs er) := by
  have hm := maxI_mem (ns := xs.map fun z => (er.get? z).getD 0) (by rw [List.length_map]; exact h)
  obtain ⟨y, hy, e⟩ := List.mem_map.mp hm
  unfold leadS
  cases q : xs.filter (fun y => decide ((er.get? y).getD 0 = maxI (xs.map fun z => (er.get? z).getD 0))) with
  | nil =>
    have : y ∈ xs.filter (fun y => decide ((er.get? y).getD 0 = maxI (xs.map fun z => (er.get? z).getD 0))) := List.mem_filter.mpr ⟨hy, decide_eq_true e⟩
    rw [q] at this
    cases this
  | cons a r => rfl
def kT : D → Key
  | .tup [_, .str y] => Sum.inr y
  | _ => Sum.inr ""
section
variable {P : Program} {w : World} {K : PySem.W.Frag} {mg : Str → Option Value} {base : Heap} {N : Addr}
end
end KX
set_option Elab.async false
set_option linter.all false
set_option maxRecDepth 100000
set_option maxHeartbeats 1000000
namespace KX
open PySem L2 PL
/-! ### the places of all nodes below -/
def pput (l : Srcs) (x : Str) (p : Int × Int) : Srcs := if (aget l x).isSome = true then l.map (fun y => if y.1 = x then (x, p) else y) else l ++ [(x, p)]
def pmerge (l m : Srcs) : Srcs := m.foldl (fun l y => pput l y.1 y.2) l
theorem look_pl (l : Srcs) (x : Str) : look (srcD l) (Sum.inr x) = (aget l x).map pairP := look_map pairP l x
theorem put_srcD (l : Srcs) (x : Str) (p : Int × Int) : putD (srcD l) (Sum.inr x) (pairP p) = srcD (pput l x p) := by
  unfold putD pput
  rw [look_pl, Option.isSome_map]
  by_cases z : (aget l x).isSome = true
  · rw [if_pos z, if_pos z]
    unfold srcD
    rw [List.map_map, List.map_map]
    refine List.map_congr_left fun y _ => ?_
    simp only [Function.comp_apply]
    by_cases e : y.1 = x
    · rw [if_pos (by rw [e]), if_pos e, e]; rfl
    · rw [if_neg (fun q => e (Sum.inr.inj q)), if_neg e]
  · rw [if_neg z, if_neg z]
    unfold srcD
    rw [List.map_append]
    rfl
theorem merge_srcD : ∀ (m l : Srcs), mergeD (srcD l) (srcD m) = srcD (pmerge l m)
  | [], l => rfl
  | a :: r, l => by
    show mergeD (putD (srcD l) (Sum.inr a.1) (pairP a.2)) (srcD r) = _
    rw [put_srcD, merge_srcD r]
    rfl
theorem aget_upd {p : Int × Int} {x : Str} : ∀ (l : Srcs) (y : Str), aget (l.map fun y => if y.1 = x then (x, p) else y) y = if y = x then (aget l x).map fun _ => p else aget l y
  | [], y => by simp [aget]
  | a :: r, y => by
    have ih := aget_upd (p := p) (x := x) r y
    simp only [List.map_cons, aget]
    by_cases e : a.1 = x
    · rw [if_pos e, if_pos e]
      by_cases q : x = y
      · subst q; simp
      · rw [if_neg q, ih, if_neg (Ne.symm q), if_neg (Ne.symm q), if_neg (fun z => q (e.symm.trans z))]
    · rw [if_neg e, if_neg e]
      by_cases q : a.1 = y
      · rw [if_pos q, if_neg (fun z => e (q.trans z)), if_pos q]
      · rw [if_neg q, ih]
        by_cases z : y = x
        · rw [if_pos z, if_pos z]
        · rw [if_neg z, if_neg z, if_neg q]
theorem aget_pput (l : Srcs) (x y : Str) (p : Int × Int) : aget (pput l x p) y = if y = x then some p else aget l y := by
  unfold pput
  by_cases z : (aget l x).isSome = true
  · rw [if_pos z, aget_upd]
    obtain ⟨q, hq⟩ := Option.isSome_iff_exists.mp z
    rw [hq]
    rfl
  · rw [if_neg z, aget_app]
    have hn : aget l x = none := by
      cases e : aget l x with
      | none => rfl
      | some q => rw [e] at z; exact absurd rfl z
    by_cases e : y = x
    · rw [if_pos e, e, hn]
      simp [aget]
    · rw [if_neg e]
      have : aget [(x, p)] y = none := by simp only [aget]; rw [if_neg (Ne.symm e)]
      rw [this, Option.or_none]
theorem len_pput (l : Srcs) (x : Str) (p : Int × Int) : (pput l x p).length ≤ l.length + 1 := by
  unfold pput
  split <;> simp
theorem len_pmerge : ∀ (m l : Srcs), (pmerge l m).length ≤ l.length + m.length
  | [], l => Nat.le_refl _
  | a :: r, l => by
    have h1 := len_pmerge r (pput l a.1 a.2)
    have h2 := len_pput l a.1 a.2
    show (pmerge (pput l a.1 a.2) r).length ≤ _
    simp only [List.length_cons]
    omega
theorem aget_pmerge (y : Str) : ∀ (m l : Srcs), (m.map (·.1)).Nodup → aget (pmerge l m) y = (aget m y).or (aget l y)
  | [], l, _ => by simp [pmerge, aget]
  | a :: r, l, h => by
    rw [List.map_cons, List.nodup_cons] at h
    show aget (pmerge (pput l a.1 a.2) r) y = _
    rw [aget_pmerge y r _ h.2, aget_pput]
    simp only [aget]
    by_cases e : a.1 = y
    · rw [if_pos e, if_pos e.symm, aget_none (e ▸ h.1)]
      rfl
    · rw [if_neg e, if_neg (Ne.symm e)]
theorem place_keys (f : Fm) (p : Int × Int) (er : Nums) (gap : Int) : (placeOf f p er gap).map (·.1) = f.ins := by
  cases f <;> simp [placeOf, Fm.ins, Function.comp_def]
theorem place_len (f : Fm) (p : Int × Int) (er : Nums) (gap : Int) : (placeOf f p er gap).length = f.ins.length := by
  rw [← place_keys f p er gap, List.length_map]
def plcStep (v : Vws) (er : Nums) (gap : Int) (l : Srcs) (y : Str) : Srcs := match aget v y with
  | some p => pmerge l (placeOf p.1 ((aget l y).getD (0, 0)) er gap)
  | none => l
def plcL (v : Vws) (er : Nums) (x : Str) (l : List Str) : Srcs := l.foldl (plcStep v er ((er.get? x).getD 0)) [(x, (0, 1))]
theorem plcL_succ (v : Vws) (er : Nums) (x : Str) (l : List Str) (n : Nat) (y : Str) (h : l[n]? = some y) : plcL v er x (l.take (n + 1)) = plcStep v er ((er.get? x).getD 0) (plcL v er x (l.take n)) y := by
  unfold plcL
  rw [List.take_add_one, h, List.foldl_append]
  rfl
theorem plc_more {v : Vws} {er : Nums} {gap : Int} {l : Srcs} {y z : Str} (hn : ∀ p, aget v y = some p → p.1.ins.Nodup) (h : (aget l z).isSome = true ∨ ∃ p, aget v y = some p ∧ z ∈ p.1.ins) : (aget (plcStep v er gap l y) z).isSome = true := by
  unfold plcStep
  cases e : aget v y with
  | none =>
    rcases h with h | ⟨p, hp, _⟩
    · exact h
    · rw [e] at hp; cases hp
  | some p =>
    dsimp only
    rw [aget_pmerge _ _ _ (by rw [place_keys]; exact hn p e), Option.isSome_or, Bool.or_eq_true]
    rcases h with h | ⟨p', hp, hz⟩
    · exact .inr h
    · rw [e] at hp
      cases hp
      refine .inl ?_
      rw [aget_isSome, place_keys]
      exact decide_eq_true hz
structure PlcOk (v : Vws) (x : Str) (done : List Str) (l : Srcs) : Prop where
  top : (aget l x).isSome = true
  ins : ∀ u ∈ done, ∀ p, aget v u = some p → ∀ z ∈ p.1.ins, (aget l z).isSome = true
theorem plc_ok {v : Vws} {er : Nums} {x : Str} (hn : ∀ y p, aget v y = some p → p.1.ins.Nodup) : ∀ (l : List Str) (n : Nat), PlcOk v x (l.take n) (plcL v er x (l.take n))
  | l, 0 => ⟨by simp [plcL, aget], fun u hu => by simp at hu⟩
  | l, n + 1 => by
    have ih := plc_ok (er := er) (x := x) hn l n
    cases e : l[n]? with
    | none =>
      have : l.take (n + 1) = l.take n := by rw [List.take_add_one, e]; simp
      rw [this]
      exact ih
    | some y =>
      rw [plcL_succ _ _ _ _ _ _ e]
      refine ⟨plc_more (hn y) (.inl ih.top), fun u hu p hp z hz => ?_⟩
      rw [List.take_add_one, e] at hu
      rcases List.mem_append.mp hu with q | q
      · exact plc_more (hn y) (.inl (ih.ins u q p hp z hz))
      · have : u = y := by simpa using q
        subst this
        exact plc_more (hn u) (.inr ⟨p, hp, hz⟩)
theorem plc_len (v : Vws) (er : Nums) (x : Str) (hv : ∀ y p, aget v y = some p → p.1.ins.length ≤ 4) : ∀ (l : List Str) (n : Nat), (plcL v er x (l.take n)).length ≤ 1 + 4 * n
  | l, 0 => by simp [plcL]
  | l, n + 1 => by
    have ih := plc_len v er x hv l n
    cases e : l[n]? with
    | none =>
      have : l.take (n + 1) = l.take n := by rw [List.take_add_one, e]; simp
      rw [this]; omega
    | some y =>
      rw [plcL_succ _ _ _ _ _ _ e]
      unfold plcStep
      cases q : aget v y with
      | none => dsimp only; omega
      | some p =>
        have h1 := len_pmerge (placeOf p.1 ((aget (plcL v er x (l.take n)) y).getD (0, 0)) er ((er.get? x).getD 0)) (plcL v er x (l.take n))
        rw [place_len] at h1
        have := hv y p q
        dsimp only
        omega
def LPlaces (N : Addr) : List D → Sl → Prop := fun ds r => ∃ (s : Srcs) (v : Vws) (x : Str) (er : Nums), NetOk s v ∧ x ∈ nds s v ∧ er.map (·.1) = lowL s v x ∧ ds = [netD N s v, .str x, .dct (numD er)] ∧ r = .od (srcD (plcL v er x (lowL s v x).reverse))
section
variable {P : Program} {w : World} {K : PySem.W.Frag} {mg : Str → Option Value} {base : Heap} {N : Addr}
end
end KX
set_option Elab.async false
set_option linter.all false
set_option maxRecDepth 100000
set_option maxHeartbeats 1000000
namespace KX
open PySem L2 PL
abbrev exN : List Str := ["network", "horizon", "plan", "query", "lags", "tick", "name", "tolerance", "found", "world", "source", "pair", "start", "way", "lag", "steps", "at", "step"]
/-! ### the world of an example -/
def topZ (i : Int) : Int := if 0 > i then 0 else i
def stepZ (t lag a : Int) : Int := if lag < topZ (a - t + lag) then lag else topZ (a - t + lag)
def courseX (p : Int × Int) (dr t lag : Int) (n : Nat) : List Int := (List.range n).map fun (a : Nat) => p.1 + p.2 * dr * stepZ t lag a
def exW (s : Srcs) (v : Vws) (pl : Pl) (q : Int × Str × Int) (h : Int) : Wd := s.map fun x => (x.1, courseX ((aget (plcL v (leastL s v pl q) q.2.1 (lowL s v q.2.1).reverse) x.1).getD (0, 0)) x.2.1 q.1 (((agesL s v pl q).get? x.1).getD 0) (h.toNat + 1))
def NExample (N : Addr) : List D → Sl → Prop := fun ds r => ∃ s v h pl t q, AskOk s v h pl q ∧ ds = [netD N s v, .int h, seqG t (pl.map refG), qryD q] ∧ r = .od (wdD (exW s v pl q h))
theorem ages_num {s : Srcs} {v : Vws} {pl : Pl} {q : Int × Str × Int} (t0 : 0 ≤ q.1) (y : Str) : 0 ≤ ((agesL s v pl q).get? y).getD 0 ∧ ((agesL s v pl q).get? y).getD 0 ≤ q.1 := by
  cases e : (agesL s v pl q).get? y with
  | none => exact ⟨Int.le_refl _, t0⟩
  | some n =>
    have so := seen_ok (s := s) (v := v) (pl := pl) (x := q.2.1) t0 (lowL s v q.2.1).reverse (lowL s v q.2.1).reverse.length
    rw [List.take_length] at so
    have key : ∀ (l : List Str) (g : Str → Int), Nums.get? (l.map fun y => (y, g y)) y = some n → y ∈ l ∧ n = g y := by
      intro l g
      induction l with
      | nil => intro h; cases h
      | cons a r ih =>
        intro h
        simp only [List.map_cons, Nums.get?] at h
        by_cases z : a = y
        · rw [if_pos z] at h
          cases h
          exact ⟨z ▸ List.mem_cons_self, by rw [z]⟩
        · rw [if_neg z] at h
          obtain ⟨h1, h2⟩ := ih h
          exact ⟨List.mem_cons_of_mem _ h1, h2⟩
    obtain ⟨h1, h2⟩ := key _ _ e
    obtain ⟨k, hk⟩ := Option.isSome_iff_exists.mp (List.mem_filter.mp h1).2
    obtain ⟨k0, k1⟩ := so.num y k hk
    rw [hk] at h2
    simp only [Option.getD_some] at h2 ⊢
    omega
section
variable {P : Program} {w : World} {K : PySem.W.Frag} {mg : Str → Option Value} {base : Heap} {N : Addr}
end
end KX
set_option Elab.async false
set_option linter.all false
set_option maxRecDepth 100000
set_option maxHeartbeats 1000000
namespace KX
open PySem L2 PL
def LPlanG : List D → List D → Sl → List D → Prop := fun l ds r l' => ∃ (s : Srcs) (v : Vws) (ws : List Int) (b k h luck : Int), NetOk s v ∧ 0 ≤ b ∧ 0 ≤ k ∧ 1 ≤ h ∧ h ≤ 12 ∧ 1 ≤ luck ∧ luck ≤ 100 ∧ l = stD ws b k ∧ ds = [netp s v, .int h, .int luck] ∧
  r = .ol ((planW ws b luck (nds s v) h.toNat k).1.map refG) ∧ l' = stD ws b (planW ws b luck (nds s v) h.toNat k).2
section
variable {P : Program} {w : World} {K : PySem.W.Frag} {mg : Str → Option Value} {base : Heap} {N : Addr}
theorem ok_lawPlanG {f : Addr} {fd : FuncData} (F : Fun K "_law_plan" "_law_plan" sLawPlan f fd) (B : Bl mg) (c1 : Fio P w K mg base 3 "_law_next" LNext) : FnOk P w K mg base CX0 4 f fd ["_law_state", "_law_parts", "_law_horizon", "_law_luck"] (spIo K LPlanG) := by
  refine fn_okI F scLawPlan (fun l ds r l' h => ?_) fun cdv A outer s H E hr l ds r l' h => ?_
  · obtain ⟨_, _, _, _, _, _, _, _, _, _, _, _, _, _, _, rfl, _⟩ := h
    rfl
  · obtain ⟨ss, vv, ws, b, k, h, luck, hs, b0, k0, h1, h12, u1, u2, rfl, rfl, rfl, rfl⟩ := h
    have hlen := hs.len
    have hnl : (nds ss vv).length ≤ 8 := by simp only [nds, List.length_append, List.length_map]; omega
    refine (?_ : HRI _ _ _ _ _)
    refine hri_cons (hs_set 4 (he_lst hea_nil (Nat.le_of_ble_eq_true rfl)) scLawPlan.nd) ?_
    refine hri_cons (hs_for (is := [5]) (hi_range2 (he_hg hg_int) (he_hg (hg_op (hg_var 2 rfl) hg_int v_add)) (by omega) (by rfl) B.range) (fun n => [some (.io (stD ws b (planW ws b luck (nds ss vv) n k).2)), some (.sh (netp ss vv)), some (.sh (.int h)), some (.sh (.int luck)), some (.ol ((planW ws b luck (nds ss vv) n k).1.map refG)), none, none]) rfl fun n d hd => ?_) ?_
    · simp only [rngD, List.getElem?_map, Option.map_eq_some_iff] at hd
      obtain ⟨i', hi, rfl⟩ := hd
      obtain ⟨hi1, hi2⟩ := List.getElem?_eq_some_iff.mp hi
      rw [List.getElem_range] at hi2
      subst hi2
      rw [List.length_range] at hi1
      obtain ⟨q1, q2⟩ := planW_all ws b luck (nds ss vv) k n
      have q3 := q1.length_le
      rw [full_len] at q3
      have q4 : n * (nds ss vv).length ≤ 12 * 8 := Nat.mul_le_mul (by omega) hnl
      have e : planW ws b luck (nds ss vv) (n + 1) k = planTick ws b luck (nds ss vv) (planW ws b luck (nds ss vv) n k) n := by
        unfold planW
        rw [List.range_succ, List.foldl_append]
        rfl
      rw [e]
      unfold planTick
      generalize planW ws b luck (nds ss vv) n k = st0 at q2 q3 ⊢
      refine ⟨_, hb_name 5 scLawPlan.nd, .inl ?_⟩
      refine hs_le (hs_one (hs_for (is := [6]) (hi_seq (he_sh (s := .ol ((nds ss vv).map D.str)) (he_eq (he_cat (he_sh (s := .ol (keysD (srcD ss))) (he_listD (hg_ix (hg_var 1 rfl) hg_int rfl rfl) rfl B.list)) (he_sh (s := .ol (keysD (vwD vv))) (he_listD (hg_ix (hg_var 1 rfl) hg_int rfl rfl) rfl B.list)) ?_) (congrArg Sl.ol (keys_all ss vv)))) (.inl rfl)) (fun j => [some (.io (stD ws b (((nds ss vv).take j).foldl (planRow ws b luck (1 + (n : Int))) st0).2)), some (.sh (netp ss vv)), some (.sh (.int h)), some (.sh (.int luck)), some (.ol ((((nds ss vv).take j).foldl (planRow ws b luck (1 + (n : Int))) st0).1.map refG)), some (.sh (.int (1 + (n : Int)))), none]) rfl fun j d hd => ?_)) ?_
      · simp only [keysD, srcD, vwD, List.length_map]; omega
      · obtain ⟨x, h5, rfl⟩ : ∃ x, (nds ss vv)[j]? = some x ∧ D.str x = d := by
          simp only [List.getElem?_map, Option.map_eq_some_iff] at hd
          exact hd
        have r1 := (planRow_k ws b luck (1 + (n : Int)) ((nds ss vv).take j) st0).2
        have r2 := (planRow_sub ws b luck (1 + (n : Int)) ((nds ss vv).take j) st0 st0.1 (List.Sublist.refl _)).length_le
        rw [List.length_append, List.length_map, List.length_take] at r2
        rw [List.take_add_one, h5, Option.toList_some, List.foldl_append, List.foldl_cons, List.foldl_nil]
        generalize ((nds ss vv).take j).foldl (planRow ws b luck (1 + (n : Int))) st0 = st at r1 r2 ⊢
        have tn := nextV_at ws b st.2 (m := luck) (by omega)
        refine ⟨_, hb_name 6 scLawPlan.nd, .inl ?_⟩
        by_cases z : nextV ws b st.2 luck = 0
        · have e1 : planRow ws b luck (1 + (n : Int)) st x = (st.1 ++ [(1 + (n : Int), x)], st.2 + 1) := by unfold planRow; rw [if_pos z]
          rw [e1]
          refine hs_le (hs_one (hs_if (t := true) (ht_eq (ht_cmp (he_callIo 0 c1 (hr.mono (by decide)) rfl rfl (hea_cons (he_hg (hg_var 3 rfl)) hea_nil) rfl rfl ⟨ws, b, st.2, luck, b0, by omega, by omega, by omega, rfl, rfl, rfl, rfl⟩) (he_hg hg_int) v_eqI) (by simp [z])) (fun _ => hs_one (hs_append 4 (he_gtup (hea_cons (he_hg (hg_var 5 rfl)) (hea_cons (he_hg (hg_var 6 rfl)) hea_nil)) (Nat.le_of_ble_eq_true rfl)) rfl rfl rfl ?_ (hsl := rfl))) fun z => by cases z)) ?_
          · rw [List.length_map]; omega
          · rw [List.map_append]
            exact .s (.s (.s (.s (.s (.s (.w .n))))))
        · have e1 : planRow ws b luck (1 + (n : Int)) st x = (st.1, st.2 + 1) := by unfold planRow; rw [if_neg z]
          rw [e1]
          refine hs_le (hs_one (hs_if (t := false) (ht_eq (ht_cmp (he_callIo 0 c1 (hr.mono (by decide)) rfl rfl (hea_cons (he_hg (hg_var 3 rfl)) hea_nil) rfl rfl ⟨ws, b, st.2, luck, b0, by omega, by omega, by omega, rfl, rfl, rfl, rfl⟩) (he_hg hg_int) v_eqI) (by simp [z])) (fun z => by cases z) fun _ => hs_nil)) ?_
          exact .s (.s (.s (.s (.s (.s (.w .n))))))
      · rw [List.length_map, List.take_length]
        exact .s (.s (.s (.s (.s (.w (.s .n))))))
    rw [rngD, List.length_map, List.length_range, show h + 1 - 1 = h by omega]
    exact hri_ret (he_take 4 rfl) rfl
end
end KX
set_option Elab.async false
set_option linter.all false
set_option maxRecDepth 100000
set_option maxHeartbeats 1000000
namespace KX
open PySem L2 PL
abbrev sLawError : Stmt := top 71
abbrev leN : List Str := ["_law_parts", "_law_spans", "_law_name", "_law_word", "_law_inputs_here", "_law_one", "_law_factor"]
theorem scLawError : FnScope leN ["_law_parts", "_law_spans", "_law_name"] (defScope sLawError) := ⟨rfl, rfl, rfl, by decide +kernel, rfl, by decide +kernel, by decide +kernel⟩
/-! ### the worst error by recursion -/
def errF (s : Srcs) (v : Vws) (sp : Nums) : Nat → Str → Int
  | 0, x => drD s x * (sp.get? x).getD 0
  | n + 1, x => match aget v x with
    | some p => p.1.wid (errF s v sp n)
    | none => drD s x * (sp.get? x).getD 0
theorem errF_src {s : Srcs} {v : Vws} (h : NetOk s v) {sp : Nums} {x : Str} (hx : x ∈ s.map (·.1)) : ∀ n, errF s v sp n x = drD s x * (sp.get? x).getD 0
  | 0 => rfl
  | n + 1 => by simp only [errF, aget_none (h.apart _ hx)]
def LErr (n : Nat) : List D → Sl → Prop := fun ds r => ∃ (s : Srcs) (v : Vws) (x : Str) (sp : Nums), NetOk s v ∧ n ≤ 7 ∧ Lvl s v n x ∧ (∀ y, Bel v x y → y ∈ s.map (·.1) → (sp.get? y).isSome = true) ∧ ds = [netp s v, .dct (numD sp), .str x] ∧ r = .sh (.int (errF s v sp n x))
section
variable {P : Program} {w : World} {K : PySem.W.Frag} {mg : Str → Option Value} {base : Heap} {N : Addr}
theorem ok_lawError {f : Addr} {fd : FuncData} (F : Fun K "_law_error" "_law_error" sLawError f fd) (B : Bl mg) (n : Nat) (cS : ∀ m, n = m + 1 → Fd P w K mg base (1 + m) "_law_error" (LErr m)) : FnOk P w K mg base CX0 (1 + n) f fd ["_law_parts", "_law_spans", "_law_name"] (spR K (LErr n)) := by
  rw [show 1 + n = n + 1 by omega]
  refine fn_ok F scLawError (fun ds r h => ?_) fun cdv A outer s H E hr ds r h => ?_
  · obtain ⟨_, _, _, _, _, _, _, _, rfl, _⟩ := h
    rfl
  · obtain ⟨ss, vv, x, sp, hs, hn, hl, hsp, rfl, rfl⟩ := h
    have hu := hu_of hr
    refine hf_r ?_
    by_cases hsrc : x ∈ ss.map (·.1)
    · obtain ⟨l1, d0, d20⟩ := drift_of hs hsrc
      obtain ⟨k, hk⟩ := Option.isSome_iff_exists.mp (hsp x (.refl x) hsrc)
      have hlk := look_num sp x
      rw [hk] at hlk
      refine hr_when (t := true) (ht_eq (ht_cmpG (hg_var 2 rfl) (hg_ix (hg_var 0 rfl) hg_int rfl rfl) (v_inD (k := Sum.inr x) hu rfl)) (by rw [l1]; rfl)) (fun _ => ?_) fun z => by cases z
      exact hr_ret (he_eq (he_hg (hg_op (hg_ix (hg_get (ky := Sum.inr x) hu (hg_ix (hg_var 0 rfl) hg_int rfl rfl) (hg_var 2 rfl) rfl l1) hg_int rfl rfl) (hg_get (ky := Sum.inr x) hu (hg_var 1 rfl) (hg_var 2 rfl) rfl hlk) (v_mul (.inl ⟨by omega, by omega⟩)))) (by rw [errF_src hs hsrc, hk]; rfl))
    · cases hl with
      | src h => exact absurd h hsrc
      | @vw m _ p hp hno hi =>
        have cS := cS m rfl
        have he := aget_mem hp
        have hf := (hs.vw _ he).fm
        have h1 := hf.one
        have h4 := hf.four
        have hvl := hs.look he
        have hnone : look (srcD ss) (Sum.inr x) = none := by
          have := look_pl ss x
          rw [aget_none hsrc] at this
          exact this
        have hdown : ∀ z ∈ p.1.ins, ∀ y, Bel vv z y → y ∈ ss.map (·.1) → (sp.get? y).isSome = true := fun z hz y hb hy => hsp y (.step hp hz hb) hy
        have hev : errF ss vv sp (m + 1) x = p.1.wid (errF ss vv sp m) := by simp only [errF, hp]
        rw [hev]
        refine hr_when (t := false) (ht_eq (ht_cmpG (hg_var 2 rfl) (hg_ix (hg_var 0 rfl) hg_int rfl rfl) (v_inD (k := Sum.inr x) hu rfl)) (by rw [hnone]; rfl)) (fun z => by cases z) fun _ => ?_
        refine hr_cons (hs_asg (is := [3, 4]) (he_hg (hg_ix (hg_get (ky := Sum.inr x) hu (hg_ix (hg_var 0 rfl) hg_int rfl rfl) (hg_var 2 rfl) rfl hvl) hg_int rfl rfl)) (hb_tup (hbs_cons (hb_name 3 scLawError.nd) (hbs_cons (hb_name 4 scLawError.nd) hbs_nil)))) ?_
        obtain ⟨fm, cst⟩ := p
        dsimp only at hf h1 h4 hi hdown ⊢
        cases fm with
        | sum ts =>
          refine hr_when (t := true) (ht_eq (ht_cmpG (hg_var 3 rfl) hg_str v_eqS) (by simp [Fm.kind])) (fun _ => ?_) fun z => by cases z
          refine hr_ret (he_callB (hea_cons (he_sh (he_eq (he_map (f := fun d => match d with | .tup [.int k, .str y] => .int (absI k * errF ss vv sp m y) | _ => .non) [("_law_factor", 6), ("_law_one", 5)] [6, 5] (hi_seq (he_hg (hg_var 4 rfl)) (.inr rfl)) scLawError.nd (blkOk_by (N := leN) (sc := defScope sLawError) (by decide +kernel)) ?_ (fun i d hd => ?_)) (?_ : _ = Sl.ol ((ts.map fun t => absI t.1 * errF ss vv sp m t.2).map D.int)))) hea_nil) (c_sum rfl) (by rfl) B.sum PyProof.Rows.boot_sum)
          · simp only [Fm.ins, List.length_map] at h4 ⊢; omega
          · obtain ⟨t, ht, rfl⟩ := List.mem_map.mp (List.mem_of_getElem? hd)
            obtain ⟨f1, f2, _⟩ := hf.fac ts rfl t ht
            have hm : t.2 ∈ (Fm.sum ts).ins := List.mem_map.mpr ⟨t, ht, rfl⟩
            exact ⟨_, fun s H C cl fp => hb_tup (hbs_cons (hb_name 6 scLawError.nd) (hbs_cons (hb_name 5 scLawError.nd) hbs_nil)), _, fun s H C cl fp => he_op (he_hg (hg_callB (hga_cons (hg_var 6 rfl) hga_nil) c_abs (by rfl) B.abs PyProof.Rows.boot_abs)) (he_call cS (hr.mono (by omega)) (hea_cons (he_hg (hg_var 0 rfl)) (hea_cons (he_hg (hg_var 1 rfl)) (hea_cons (he_hg (hg_var 5 rfl)) hea_nil))) ⟨ss, vv, t.2, sp, hs, by omega, hi _ hm, hdown _ hm, rfl, rfl⟩) (v_mul (.inl ⟨by split <;> omega, by split <;> omega⟩)), rfl⟩
          · simp [termD, Function.comp_def]
        | mn xs =>
          refine hr_when (t := false) (ht_eq (ht_cmpG (hg_var 3 rfl) hg_str v_eqS) (by simp [Fm.kind, nms, nxs])) (fun z => by cases z) fun _ => ?_
          refine hr_ret (he_callB (hea_cons (he_sh (he_eq (he_map (f := fun d => match d with | .str y => .int (errF ss vv sp m y) | _ => .non) [("_law_one", 5)] [5] (hi_seq (he_hg (hg_var 4 rfl)) (.inr rfl)) scLawError.nd (blkOk_by (N := leN) (sc := defScope sLawError) (by decide +kernel)) ?_ (fun i d hd => ?_)) (?_ : _ = Sl.ol ((xs.map (errF ss vv sp m)).map D.int)))) hea_nil) (c_maxL rfl (by simp only [Fm.ins] at h1; rw [List.length_map]; omega)) (by rfl) B.max PyProof.Rows.boot_max)
          · simp only [Fm.ins, List.length_map] at h4 ⊢; omega
          · obtain ⟨y, hy, rfl⟩ := List.mem_map.mp (List.mem_of_getElem? hd)
            exact ⟨_, fun s H C cl fp => hb_name 5 scLawError.nd, _, fun s H C cl fp => he_call cS (hr.mono (by omega)) (hea_cons (he_hg (hg_var 0 rfl)) (hea_cons (he_hg (hg_var 1 rfl)) (hea_cons (he_hg (hg_var 5 rfl)) hea_nil))) ⟨ss, vv, y, sp, hs, by omega, hi _ hy, hdown _ hy, rfl, rfl⟩, rfl⟩
          · simp [Function.comp_def]
        | mx xs =>
          refine hr_when (t := false) (ht_eq (ht_cmpG (hg_var 3 rfl) hg_str v_eqS) (by simp [Fm.kind, nms, nxs])) (fun z => by cases z) fun _ => ?_
          refine hr_ret (he_callB (hea_cons (he_sh (he_eq (he_map (f := fun d => match d with | .str y => .int (errF ss vv sp m y) | _ => .non) [("_law_one", 5)] [5] (hi_seq (he_hg (hg_var 4 rfl)) (.inr rfl)) scLawError.nd (blkOk_by (N := leN) (sc := defScope sLawError) (by decide +kernel)) ?_ (fun i d hd => ?_)) (?_ : _ = Sl.ol ((xs.map (errF ss vv sp m)).map D.int)))) hea_nil) (c_maxL rfl (by simp only [Fm.ins] at h1; rw [List.length_map]; omega)) (by rfl) B.max PyProof.Rows.boot_max)
          · simp only [Fm.ins, List.length_map] at h4 ⊢; omega
          · obtain ⟨y, hy, rfl⟩ := List.mem_map.mp (List.mem_of_getElem? hd)
            exact ⟨_, fun s H C cl fp => hb_name 5 scLawError.nd, _, fun s H C cl fp => he_call cS (hr.mono (by omega)) (hea_cons (he_hg (hg_var 0 rfl)) (hea_cons (he_hg (hg_var 1 rfl)) (hea_cons (he_hg (hg_var 5 rfl)) hea_nil))) ⟨ss, vv, y, sp, hs, by omega, hi _ hy, hdown _ hy, rfl, rfl⟩, rfl⟩
          · simp [Function.comp_def]
end
end KX
set_option Elab.async false
set_option linter.all false
set_option maxRecDepth 100000
set_option maxHeartbeats 1000000
namespace KX
open PySem L2 PL
theorem wid_congr {f : Fm} {a b : Str → Int} (h : ∀ z ∈ f.ins, a z = b z) : f.wid a = f.wid b := by
  cases f with
  | sum ts =>
    simp only [Fm.wid]
    congr 1
    refine List.map_congr_left fun t ht => ?_
    rw [h t.2 (List.mem_map.mpr ⟨t, ht, rfl⟩)]
  | mn xs =>
    simp only [Fm.wid]
    rw [show xs.map a = xs.map b from List.map_congr_left h]
  | mx xs =>
    simp only [Fm.wid]
    rw [show xs.map a = xs.map b from List.map_congr_left h]
theorem errF_le {s : Srcs} {v : Vws} (hs : NetOk s v) {sp : Nums} {n : Nat} {x : Str} (h : Lvl s v n x) : ∀ {m : Nat}, n ≤ m → errF s v sp m x = errF s v sp n x := by
  induction h with
  | src hx => exact fun _ => by rw [errF_src hs hx, errF_src hs hx]
  | @vw n x p hp hn hi ih =>
    intro m hm
    obtain ⟨k, rfl⟩ : ∃ k, m = k + 1 := ⟨m - 1, by omega⟩
    simp only [errF, hp]
    exact wid_congr fun z hz => ih z hz (by omega)
theorem errs_get {s : Srcs} {v : Vws} (hs : NetOk s v) {x : Str} (hx : x ∈ nds s v) (ag : Nums) : ∀ n, ∀ y ∈ (lowL s v x).take n, (errsL s v ag ((lowL s v x).take n)).get? y = some (errF s v ag 7 y)
  | 0, y, h => by simp at h
  | n + 1, y, h => by
    have ih := errs_get hs hx ag n
    cases e : (lowL s v x)[n]? with
    | none =>
      have : (lowL s v x).take (n + 1) = (lowL s v x).take n := by rw [List.take_add_one, e]; simp
      rw [this] at h ⊢
      exact ih y h
    | some u =>
      rw [errsL_succ _ _ _ _ _ _ e]
      have hu := low_nds hx u (List.mem_of_getElem? e)
      have hno := nd_not_take (low_nd hs x) e
      have hget : ∀ k : Int, errStep s v ag (errsL s v ag ((lowL s v x).take n)) u = (errsL s v ag ((lowL s v x).take n)).put u k → k = errF s v ag 7 u → (errStep s v ag (errsL s v ag ((lowL s v x).take n)) u).get? y = some (errF s v ag 7 y) := fun k hk hv => by
        rw [hk, get_put]
        by_cases z : y = u
        · rw [if_pos z, z, hv]
        · rw [if_neg z]
          rw [List.take_add_one, e] at h
          rcases List.mem_append.mp h with q | q
          · exact ih y q
          · exact absurd (by simpa using q) z
      cases hl : hs.lvl hu with
      | src hsrc =>
        refine hget _ ?_ (errF_src hs hsrc 7).symm
        unfold errStep
        rw [aget_none (hs.apart _ hsrc)]
      | @vw m _ p hp hn hi =>
        refine hget (p.1.wid fun z => ((errsL s v ag ((lowL s v x).take n)).get? z).getD 0) (by unfold errStep; rw [hp]) ?_
        simp only [errF, hp]
        refine wid_congr fun z hz => ?_
        rw [ih z (low_ins hs hx e hp hz), Option.getD_some]
        exact errF_le hs (hi z hz) (by omega)
/-- the worst error by recursion is the program's -/
theorem least_get {s : Srcs} {v : Vws} {h : Int} {pl : Pl} {q : Int × Str × Int} (a : AskOk s v h pl q) {y : Str} (hy : y ∈ lowL s v q.2.1) : (leastL s v pl q).get? y = some (errF s v (agesL s v pl q) 7 y) := by
  have := errs_get a.net a.qry.2.2.1 (agesL s v pl q) (lowL s v q.2.1).length y (by rw [List.take_length]; exact hy)
  rw [List.take_length] at this
  exact this
theorem worst_eq {s : Srcs} {v : Vws} {h : Int} {pl : Pl} {q : Int × Str × Int} (a : AskOk s v h pl q) : worstV s v pl q = errF s v (agesL s v pl q) 7 q.2.1 := by
  unfold worstV
  rw [least_get a (List.mem_append_right _ List.mem_cons_self)]
  rfl
end KX
set_option Elab.async false
set_option linter.all false
set_option maxRecDepth 100000
set_option maxHeartbeats 1000000
namespace KX
open PySem L2 PL
/-- the error of a query in a world -/
def errOf (s : Srcs) (v : Vws) (w : Wd) (pl : Pl) (q : Int × Str × Int) : Int := absI (((heldAt s v w pl q.1.toNat).get? q.2.1).getD 0 - ((valsAt s v w q.1).get? q.2.1).getD 0)
def LErrOf : List D → Sl → Prop := fun ds r => ∃ (s : Srcs) (v : Vws) (h : Int) (w : Wd) (pl : Pl) (q : Int × Str × Int), NetOk s v ∧ WdOk s h w ∧ PlanOk (nds s v) h pl ∧ 0 ≤ q.1 ∧ q.1 ≤ h ∧ q.2.1 ∈ nds s v ∧ ds = [netp s v, .int h, .dct (wdD w), .lst (pl.map refG), qryD q] ∧ r = .sh (.int (errOf s v w pl q))
theorem numAt {kn : Nums} {ns : List Str} (h : Cov kn ns) {x : Str} (hx : x ∈ ns) : look (numD kn) (Sum.inr x) = some (.int ((kn.get? x).getD 0)) := by
  have h1 := h x
  rw [decide_eq_true hx] at h1
  obtain ⟨n, hn⟩ := Option.isSome_iff_exists.mp h1
  rw [look_num, hn]
  rfl
section
variable {P : Program} {w : World} {K : PySem.W.Frag} {mg : Str → Option Value} {base : Heap} {N : Addr}
end
end KX
set_option Elab.async false
set_option linter.all false
set_option maxRecDepth 100000
set_option maxHeartbeats 1000000
namespace KX
open PySem L2 PL
/-! ### what a cache holds, by recursion -/
theorem val_congr {f : Fm} {a b : Str → Int} (h : ∀ z ∈ f.ins, a z = b z) : f.val a = f.val b := by
  cases f with
  | sum ts =>
    simp only [Fm.val]
    congr 1
    refine List.map_congr_left fun t ht => ?_
    rw [h t.2 (List.mem_map.mpr ⟨t, ht, rfl⟩)]
  | mn xs =>
    simp only [Fm.val]
    rw [show xs.map a = xs.map b from List.map_congr_left h]
  | mx xs =>
    simp only [Fm.val]
    rw [show xs.map a = xs.map b from List.map_congr_left h]
def srcV (w : Wd) (x : Str) (t : Int) : Int := nthI ((aget w x).getD []) t
/-- the value of a node at a tick -/
def vF (v : Vws) (w : Wd) : Nat → Int → Str → Int
  | 0, t, x => srcV w x t
  | n + 1, t, x => match aget v x with
    | some p => p.1.val (vF v w n t)
    | none => srcV w x t
/-- what the cache of a node holds after a tick -/
def hF (v : Vws) (w : Wd) (pl : Pl) : Nat → Nat → Str → Int
  | 0, T, x => srcV w x (lastR pl x T)
  | n + 1, T, x => match aget v x with
    | some p => p.1.val (hF v w pl n (lastR pl x T))
    | none => srcV w x (lastR pl x T)
theorem vF_le {s : Srcs} {v : Vws} (hs : NetOk s v) {w : Wd} {t : Int} {n : Nat} {x : Str} (h : Lvl s v n x) : ∀ {m : Nat}, n ≤ m → vF v w m t x = vF v w n t x := by
  induction h with
  | @src n x hx =>
    intro m _
    have : ∀ k, vF v w k t x = srcV w x t := fun k => by
      cases k with
      | zero => rfl
      | succ k => simp only [vF, aget_none (hs.apart _ hx)]
    rw [this, this]
  | @vw n x p hp hn hi ih =>
    intro m hm
    obtain ⟨k, rfl⟩ : ∃ k, m = k + 1 := ⟨m - 1, by omega⟩
    simp only [vF, hp]
    exact val_congr fun z hz => ih z hz (by omega)
theorem hF_le {s : Srcs} {v : Vws} (hs : NetOk s v) {w : Wd} {pl : Pl} {n : Nat} {x : Str} (h : Lvl s v n x) : ∀ {m T : Nat}, n ≤ m → hF v w pl m T x = hF v w pl n T x := by
  induction h with
  | @src n x hx =>
    intro m T _
    have : ∀ k, hF v w pl k T x = srcV w x (lastR pl x T) := fun k => by
      cases k with
      | zero => rfl
      | succ k => simp only [hF, aget_none (hs.apart _ hx)]
    rw [this, this]
  | @vw n x p hp hn hi ih =>
    intro m T hm
    obtain ⟨k, rfl⟩ : ∃ k, m = k + 1 := ⟨m - 1, by omega⟩
    simp only [hF, hp]
    exact val_congr fun z hz => ih z hz (by omega)
theorem hF_zero {v : Vws} {w : Wd} {pl : Pl} : ∀ (n : Nat) (x : Str), hF v w pl n 0 x = vF v w n 0 x
  | 0, x => rfl
  | n + 1, x => by
    simp only [hF, vF, lastR]
    cases aget v x with
    | none => rfl
    | some p => exact val_congr fun z _ => hF_zero n z
theorem hF_step {s : Srcs} {v : Vws} (hs : NetOk s v) {w : Wd} {pl : Pl} {x : Str} (hx : x ∈ nds s v) (T : Nat) : hF v w pl 7 T x = match aget v x with
    | some p => p.1.val (hF v w pl 7 (lastR pl x T))
    | none => srcV w x (lastR pl x T) := by
  cases hl : hs.lvl hx with
  | src hsrc => simp only [hF, aget_none (hs.apart _ hsrc)]
  | @vw m _ p hp hn hi =>
    simp only [hF, hp]
    exact val_congr fun z hz => (hF_le hs (n := 6) (m := 7) (hi z hz) (by decide)).symm
theorem vF_step {s : Srcs} {v : Vws} (hs : NetOk s v) {w : Wd} {x : Str} (hx : x ∈ nds s v) (t : Int) : vF v w 7 t x = match aget v x with
    | some p => p.1.val (vF v w 7 t)
    | none => srcV w x t := by
  cases hl : hs.lvl hx with
  | src hsrc => simp only [vF, aget_none (hs.apart _ hsrc)]
  | @vw m _ p hp hn hi =>
    simp only [vF, hp]
    exact val_congr fun z hz => (vF_le hs (n := 6) (m := 7) (hi z hz) (by decide)).symm
end KX
set_option Elab.async false
set_option linter.all false
set_option maxRecDepth 100000
set_option maxHeartbeats 1000000
namespace KX
open PySem L2 PL
theorem base_get (s : Srcs) (w : Wd) (t : Int) : ∀ {y : Str}, y ∈ s.map (·.1) → (base0 s w t).get? y = some (srcV w y t) := by
  induction s with
  | nil => intro y h; cases h
  | cons a r ih =>
    intro y h
    simp only [base0, List.map_cons, Nums.get?]
    by_cases z : a.1 = y
    · rw [if_pos z, z]; rfl
    · rw [if_neg z]
      exact ih ((List.mem_cons.mp h).resolve_left fun e => z e.symm)
theorem vals_pre {s : Srcs} {v : Vws} (hs : NetOk s v) (w : Wd) (t : Int) : ∀ i, ∀ y ∈ s.map (·.1) ++ (v.take i).map (·.1), (valsFrom (base0 s w t) (v.take i)).get? y = some (vF v w 7 t y)
  | 0, y, h => by
    have h : y ∈ s.map (·.1) := by simpa using h
    rw [vF_step hs (List.mem_append_left _ h), aget_none (hs.apart _ h)]
    exact base_get s w t h
  | i + 1, y, h => by
    have ih := vals_pre hs w t i
    cases e : v[i]? with
    | none =>
      have : v.take (i + 1) = v.take i := by rw [List.take_add_one, e]; simp
      rw [this] at h ⊢
      exact ih y h
    | some x =>
      rw [vals_succ _ _ _ _ e, get_put]
      by_cases z : y = x.1
      · rw [if_pos z, z]
        have hx := List.mem_of_getElem? e
        have hxn : x.1 ∈ nds s v := List.mem_append_right _ (List.mem_map.mpr ⟨x, hx, rfl⟩)
        have hp := aget_nd (okV_nd hs.ord).2 x hx
        rw [vF_step hs hxn, hp]
        refine congrArg some (val_congr fun u hu => ?_)
        have hj : (nds s v)[s.length + i]? = some x.1 := by
          unfold nds
          rw [List.getElem?_append_right (by rw [List.length_map]; omega), List.length_map, Nat.add_sub_cancel_left, List.getElem?_map, e]
          rfl
        have hb := nds_before hs hj hp hu
        have ht : (nds s v).take (s.length + i) = s.map (·.1) ++ (v.take i).map (·.1) := by
          unfold nds
          rw [List.take_append, List.length_map, Nat.add_sub_cancel_left, List.take_of_length_le (by rw [List.length_map]; omega), List.map_take]
        rw [ht] at hb
        rw [ih u hb]
        rfl
      · rw [if_neg z]
        rw [List.take_add_one, e, List.map_append, ← List.append_assoc] at h
        rcases List.mem_append.mp h with q | q
        · exact ih y q
        · exact absurd (by simpa using q) z
theorem vals_get {s : Srcs} {v : Vws} (hs : NetOk s v) (w : Wd) (t : Int) {y : Str} (hy : y ∈ nds s v) : (valsAt s v w t).get? y = some (vF v w 7 t y) := by
  have := vals_pre hs w t v.length y (by rw [List.take_length]; exact hy)
  rw [List.take_length] at this
  exact this
theorem held_get {s : Srcs} {v : Vws} {h : Int} {pl : Pl} (hs : NetOk s v) (hp : PlanOk (nds s v) h pl) (w : Wd) : ∀ T, ∀ y ∈ nds s v, (heldAt s v w pl T).get? y = some (hF v w pl 7 T y)
  | 0, y, hy => by
    rw [hF_zero]
    exact vals_get hs w 0 hy
  | T + 1, y, hy => by
    have ih := held_get hs hp w T
    have e0 : heldAt s v w pl (T + 1) = stepL v w (1 + (T : Int)) pl (nds s v) (heldAt s v w pl T) := (step_names hs.nd hp v w _ _).symm
    have hT : (T : Int) + 1 = 1 + (T : Int) := by omega
    have key : ∀ i, ∀ y ∈ nds s v, (stepL v w (1 + (T : Int)) pl ((nds s v).take i) (heldAt s v w pl T)).get? y = some (if y ∈ (nds s v).take i then hF v w pl 7 (T + 1) y else hF v w pl 7 T y) := by
      intro i
      induction i with
      | zero =>
        intro y hy
        simp only [List.take_zero, List.not_mem_nil, if_false]
        exact ih y hy
      | succ i ihi =>
        intro y hy
        cases e : (nds s v)[i]? with
        | none =>
          have : (nds s v).take (i + 1) = (nds s v).take i := by rw [List.take_add_one, e]; simp
          rw [this]
          exact ihi y hy
        | some x =>
          have hx := List.mem_of_getElem? e
          have hmem : ∀ z, z ∈ (nds s v).take (i + 1) ↔ z ∈ (nds s v).take i ∨ z = x := fun z => by rw [List.take_add_one, e]; simp
          have hno := nd_not_take hs.nd e
          rw [stepL_succ _ _ _ _ _ _ _ _ e]
          by_cases z : (1 + (T : Int), x) ∈ pl
          · rw [if_pos z]
            unfold putAt
            rw [get_put]
            have hlr : lastR pl x (T + 1) = T + 1 := by simp only [lastR, hT]; rw [if_pos z]
            by_cases q : y = x
            · rw [if_pos q, q, if_pos ((hmem x).mpr (.inr rfl)), hF_step hs hx, hlr]
              refine congrArg some ?_
              unfold refr
              cases hp' : aget v x with
              | none => exact congrArg (nthI _) (by omega)
              | some p =>
                refine val_congr fun u hu => ?_
                have hb := nds_before hs e hp' hu
                rw [ihi u (List.mem_of_mem_take hb), if_pos hb]
                rfl
            · rw [if_neg q, ihi y hy]
              by_cases m : y ∈ (nds s v).take i
              · rw [if_pos m, if_pos ((hmem y).mpr (.inl m))]
              · rw [if_neg m, if_neg fun k => ((hmem y).mp k).elim m q]
          · rw [if_neg z, ihi y hy]
            have hlr : lastR pl x (T + 1) = lastR pl x T := by simp only [lastR, hT]; rw [if_neg z]
            by_cases q : y = x
            · rw [q, if_neg hno, if_pos ((hmem x).mpr (.inr rfl)), hF_step hs hx, hF_step hs hx, hlr]
            · by_cases m : y ∈ (nds s v).take i
              · rw [if_pos m, if_pos ((hmem y).mpr (.inl m))]
              · rw [if_neg m, if_neg fun k => ((hmem y).mp k).elim m q]
    have := key (nds s v).length y hy
    rw [List.take_length, if_pos hy] at this
    rw [e0]
    exact this
/-- the error of a query in a world, by recursion -/
theorem errOf_eq {s : Srcs} {v : Vws} {h : Int} {pl : Pl} (hs : NetOk s v) (hp : PlanOk (nds s v) h pl) (w : Wd) {q : Int × Str × Int} (hq : q.2.1 ∈ nds s v) : errOf s v w pl q = absI (hF v w pl 7 q.1.toNat q.2.1 - vF v w 7 q.1 q.2.1) := by
  unfold errOf
  rw [held_get hs hp w _ _ hq, vals_get hs w _ hq]
  rfl
end KX
set_option Elab.async false
set_option linter.all false
set_option maxRecDepth 100000
set_option maxHeartbeats 1000000
namespace KX
open PySem L2 PL
/-! ### each node is an input of one view at most -/
theorem okV_used {v : Vws} : ∀ {seen free : List Str} {z : Str}, okV seen free v → z ∈ seen → z ∉ free → ∀ e ∈ v, z ∉ e.2.1.ins := by
  induction v with
  | nil => intro seen free z _ _ _ e he; cases he
  | cons a r ih =>
    intro seen free z h hz hf e he
    obtain ⟨n, f, c⟩ := a
    simp only [okV] at h
    obtain ⟨h1, h2, h3, h4⟩ := h
    rcases List.mem_cons.mp he with q | q
    · rw [q]
      exact fun hm => hf (h3 z hm)
    · refine ih h4 (List.mem_append_left _ hz) (fun hm => ?_) e q
      rcases List.mem_append.mp hm with k | k
      · exact hf (List.mem_filter.mp k).1
      · have : z = n := by simpa using k
        subst this
        exact h1 hz
theorem okV_once {v : Vws} : ∀ {seen free : List Str} {z : Str}, okV seen free v → (∀ x ∈ free, x ∈ seen) → ∀ e ∈ v, ∀ e' ∈ v, z ∈ e.2.1.ins → z ∈ e'.2.1.ins → e = e' := by
  induction v with
  | nil => intro seen free z _ _ e he; cases he
  | cons a r ih =>
    intro seen free z h hfs e he e' he' hz hz'
    obtain ⟨n, f, c⟩ := a
    simp only [okV] at h
    obtain ⟨h1, h2, h3, h4⟩ := h
    have hfs' : ∀ x ∈ free.filter (fun x => decide (x ∉ f.ins)) ++ [n], x ∈ seen ++ [n] := fun x hx => by
      rcases List.mem_append.mp hx with k | k
      · exact List.mem_append_left _ (hfs x (List.mem_filter.mp k).1)
      · exact List.mem_append_right _ k
    have no : z ∈ f.ins → ∀ e ∈ r, z ∉ e.2.1.ins := fun hm => by
      have hzs : z ∈ seen := hfs z (h3 z hm)
      refine okV_used h4 (List.mem_append_left _ hzs) fun k => ?_
      rcases List.mem_append.mp k with k | k
      · have := (List.mem_filter.mp k).2
        exact (of_decide_eq_true this) hm
      · have : z = n := by simpa using k
        subst this
        exact h1 hzs
    rcases List.mem_cons.mp he with q | q
    · rcases List.mem_cons.mp he' with q' | q'
      · rw [q, q']
      · rw [q] at hz
        exact absurd hz' (no hz e' q')
    · rcases List.mem_cons.mp he' with q' | q'
      · rw [q'] at hz'
        exact absurd hz (no hz' e q)
      · exact ih h4 hfs' e q e' q' hz hz'
theorem one_up {s : Srcs} {v : Vws} (h : NetOk s v) {z u u' : Str} {p p' : Fm × Int} (hu : aget v u = some p) (hu' : aget v u' = some p') (hz : z ∈ p.1.ins) (hz' : z ∈ p'.1.ins) : u = u' :=
  congrArg Prod.fst (okV_once h.ord (fun x hx => hx) _ (aget_mem hu) _ (aget_mem hu') hz hz')
end KX
set_option Elab.async false
set_option linter.all false
set_option maxRecDepth 100000
set_option maxHeartbeats 1000000
namespace KX
open PySem L2 PL
theorem minI_rec : ∀ {l : List Int}, l ≠ [] → minI l ∈ l ∧ ∀ y ∈ l, minI l ≤ y
  | [], h => absurd rfl h
  | [a], _ => by simp [minI]
  | a :: b :: r, _ => by
    obtain ⟨h1, h2⟩ := minI_rec (l := b :: r) (by simp)
    simp only [minI]
    by_cases z : minI (b :: r) < a
    · rw [if_pos z]
      refine ⟨List.mem_cons_of_mem _ h1, fun y hy => ?_⟩
      rcases List.mem_cons.mp hy with q | q
      · omega
      · exact h2 y q
    · rw [if_neg z]
      refine ⟨List.mem_cons_self, fun y hy => ?_⟩
      rcases List.mem_cons.mp hy with q | q
      · omega
      · have := h2 y q; omega
theorem maxI_rec : ∀ {l : List Int}, l ≠ [] → maxI l ∈ l ∧ ∀ y ∈ l, y ≤ maxI l
  | [], h => absurd rfl h
  | [a], _ => by simp [maxI]
  | a :: b :: r, _ => by
    obtain ⟨h1, h2⟩ := maxI_rec (l := b :: r) (by simp)
    simp only [maxI]
    by_cases z : a < maxI (b :: r)
    · rw [if_pos z]
      refine ⟨List.mem_cons_of_mem _ h1, fun y hy => ?_⟩
      rcases List.mem_cons.mp hy with q | q
      · omega
      · exact h2 y q
    · rw [if_neg z]
      refine ⟨List.mem_cons_self, fun y hy => ?_⟩
      rcases List.mem_cons.mp hy with q | q
      · omega
      · have := h2 y q; omega
theorem mul_two {n d e : Int} (h1 : -e ≤ d) (h2 : d ≤ e) : -(absI n * e) ≤ n * d ∧ n * d ≤ absI n * e := by
  unfold absI
  split
  · have a := Int.mul_le_mul_of_nonneg_left h1 (show 0 ≤ -n by omega)
    have b := Int.mul_le_mul_of_nonneg_left h2 (show 0 ≤ -n by omega)
    rw [Int.neg_mul, Int.mul_neg] at a
    rw [Int.neg_mul] at b
    rw [Int.neg_mul] at a b
    rw [Int.neg_mul]
    omega
  · have a := Int.mul_le_mul_of_nonneg_left h1 (show 0 ≤ n by omega)
    have b := Int.mul_le_mul_of_nonneg_left h2 (show 0 ≤ n by omega)
    rw [Int.mul_neg] at a
    omega
theorem sum_two (a b e : Str → Int) : ∀ (ts : List (Int × Str)), (∀ t ∈ ts, -e t.2 ≤ a t.2 - b t.2 ∧ a t.2 - b t.2 ≤ e t.2) → -((ts.map fun t => absI t.1 * e t.2).sum) ≤ (ts.map fun t => t.1 * a t.2).sum - (ts.map fun t => t.1 * b t.2).sum ∧ (ts.map fun t => t.1 * a t.2).sum - (ts.map fun t => t.1 * b t.2).sum ≤ (ts.map fun t => absI t.1 * e t.2).sum
  | [], _ => by simp
  | t :: r, h => by
    obtain ⟨i1, i2⟩ := sum_two a b e r fun u hu => h u (List.mem_cons_of_mem _ hu)
    obtain ⟨h1, h2⟩ := h t List.mem_cons_self
    obtain ⟨m1, m2⟩ := mul_two (n := t.1) h1 h2
    rw [Int.mul_sub] at m1 m2
    simp only [List.map_cons, List.sum_cons]
    omega
theorem wid_two {f : Fm} (h1 : 1 ≤ f.ins.length) {a b e : Str → Int} (h : ∀ z ∈ f.ins, -e z ≤ a z - b z ∧ a z - b z ≤ e z) : -(f.wid e) ≤ f.val a - f.val b ∧ f.val a - f.val b ≤ f.wid e := by
  cases f with
  | sum ts => exact sum_two a b e ts fun t ht => h t.2 (List.mem_map.mpr ⟨t, ht, rfl⟩)
  | mn xs =>
    have ne : ∀ g : Str → Int, xs.map g ≠ [] := fun g z => by
      have := congrArg List.length z
      simp only [Fm.ins] at h1
      rw [List.length_map, List.length_nil] at this
      omega
    obtain ⟨a1, a2⟩ := minI_rec (ne a)
    obtain ⟨b1, b2⟩ := minI_rec (ne b)
    obtain ⟨e1, e2⟩ := maxI_rec (ne e)
    obtain ⟨u, hu, ua⟩ := List.mem_map.mp a1
    obtain ⟨y, hy, yb⟩ := List.mem_map.mp b1
    have p1 := a2 _ (List.mem_map.mpr ⟨y, hy, rfl⟩)
    have p2 := b2 _ (List.mem_map.mpr ⟨u, hu, rfl⟩)
    have q1 := e2 _ (List.mem_map.mpr ⟨y, hy, rfl⟩)
    have q2 := e2 _ (List.mem_map.mpr ⟨u, hu, rfl⟩)
    obtain ⟨r1, r2⟩ := h y hy
    obtain ⟨s1, s2⟩ := h u hu
    simp only [Fm.val, Fm.wid]
    omega
  | mx xs =>
    have ne : ∀ g : Str → Int, xs.map g ≠ [] := fun g z => by
      have := congrArg List.length z
      simp only [Fm.ins] at h1
      rw [List.length_map, List.length_nil] at this
      omega
    obtain ⟨a1, a2⟩ := maxI_rec (ne a)
    obtain ⟨b1, b2⟩ := maxI_rec (ne b)
    obtain ⟨e1, e2⟩ := maxI_rec (ne e)
    obtain ⟨u, hu, ua⟩ := List.mem_map.mp a1
    obtain ⟨y, hy, yb⟩ := List.mem_map.mp b1
    have p1 := a2 _ (List.mem_map.mpr ⟨y, hy, rfl⟩)
    have p2 := b2 _ (List.mem_map.mpr ⟨u, hu, rfl⟩)
    have q1 := e2 _ (List.mem_map.mpr ⟨y, hy, rfl⟩)
    have q2 := e2 _ (List.mem_map.mpr ⟨u, hu, rfl⟩)
    obtain ⟨r1, r2⟩ := h y hy
    obtain ⟨s1, s2⟩ := h u hu
    simp only [Fm.val, Fm.wid]
    omega
theorem course_two {xs : List Int} {h dr : Int} (c : courseB xs h dr = true) : ∀ (k a : Nat), (a : Int) + k ≤ h → -(dr * k) ≤ nthI xs ((a + k : Nat) : Int) - nthI xs (a : Int) ∧ nthI xs ((a + k : Nat) : Int) - nthI xs (a : Int) ≤ dr * k
  | 0, a, _ => by simp
  | k + 1, a, hk => by
    obtain ⟨i1, i2⟩ := course_two c k a (by omega)
    have hs := List.all_eq_true.mp (Bool.and_eq_true_iff.mp c).2 (a + k) (List.mem_range.mpr (by omega))
    have hs := of_decide_eq_true hs
    rw [show (1 : Int) + ((a + k : Nat) : Int) - 1 = ((a + k : Nat) : Int) by omega, show (1 : Int) + ((a + k : Nat) : Int) = ((a + (k + 1) : Nat) : Int) by omega] at hs
    have hm : dr * ((k + 1 : Nat) : Int) = dr * (k : Int) + dr := by rw [show ((k + 1 : Nat) : Int) = (k : Int) + 1 by omega, Int.mul_add, Int.mul_one]
    rw [hm]
    unfold absI at hs
    split at hs <;> omega
end KX
set_option Elab.async false
set_option linter.all false
set_option maxRecDepth 100000
set_option maxHeartbeats 1000000
namespace KX
open PySem L2 PL
/-! ### no world exceeds the worst error -/
/-- how far off a node can be at t, seen from what the view above held at T -/
def errG (s : Srcs) (v : Vws) (pl : Pl) (t : Nat) : Nat → Nat → Str → Int
  | 0, T, x => drD s x * ((t - lastR pl x T : Nat) : Int)
  | n + 1, T, x => match aget v x with
    | some p => p.1.wid (errG s v pl t n (lastR pl x T))
    | none => drD s x * ((t - lastR pl x T : Nat) : Int)
theorem errG_src {s : Srcs} {v : Vws} (h : NetOk s v) {pl : Pl} {t T : Nat} {x : Str} (hx : x ∈ s.map (·.1)) : ∀ n, errG s v pl t n T x = drD s x * ((t - lastR pl x T : Nat) : Int)
  | 0 => rfl
  | n + 1 => by simp only [errG, aget_none (h.apart _ hx)]
theorem hF_src {s : Srcs} {v : Vws} (h : NetOk s v) {w : Wd} {pl : Pl} {T : Nat} {x : Str} (hx : x ∈ s.map (·.1)) : ∀ n, hF v w pl n T x = srcV w x (lastR pl x T)
  | 0 => rfl
  | n + 1 => by simp only [hF, aget_none (h.apart _ hx)]
theorem vF_src {s : Srcs} {v : Vws} (h : NetOk s v) {w : Wd} {t : Int} {x : Str} (hx : x ∈ s.map (·.1)) : ∀ n, vF v w n t x = srcV w x t
  | 0 => rfl
  | n + 1 => by simp only [vF, aget_none (h.apart _ hx)]
theorem course_of {s : Srcs} {v : Vws} {h : Int} {w : Wd} (hs : NetOk s v) (hw : WdOk s h w) {x : Str} (hx : x ∈ s.map (·.1)) : courseB ((aget w x).getD []) h (drD s x) = true := by
  obtain ⟨y, hy, rfl⟩ := List.mem_map.mp hx
  have h3 := List.all_eq_true.mp (Bool.and_eq_true_iff.mp hw.ok).2 y hy
  unfold srcB at h3
  unfold drD
  rw [aget_nd hs.src.nd y hy]
  cases e : aget w y.1 with
  | none => rw [e] at h3; cases h3
  | some xs => rw [e] at h3; exact h3
theorem no_more {s : Srcs} {v : Vws} {h : Int} {w : Wd} (hs : NetOk s v) (hw : WdOk s h w) {pl : Pl} {t : Nat} (ht : (t : Int) ≤ h) {n : Nat} {x : Str} (hl : Lvl s v n x) : ∀ T, T ≤ t → -(errG s v pl t n T x) ≤ hF v w pl n T x - vF v w n t x ∧ hF v w pl n T x - vF v w n t x ≤ errG s v pl t n T x := by
  induction hl with
  | @src n x hx =>
    intro T hT
    have hlr := lastR_le pl x T
    rw [errG_src hs hx, hF_src hs hx, vF_src hs hx]
    obtain ⟨c1, c2⟩ := course_two (course_of hs hw hx) (t - lastR pl x T) (lastR pl x T) (by omega)
    rw [show lastR pl x T + (t - lastR pl x T) = t by omega] at c1 c2
    unfold srcV
    omega
  | @vw n x p hp hn hi ih =>
    intro T hT
    have hlr := lastR_le pl x T
    simp only [errG, hF, vF, hp]
    exact wid_two (hs.vw _ (aget_mem hp)).fm.one fun z hz => ih z hz _ (by omega)
end KX
set_option Elab.async false
set_option linter.all false
set_option maxRecDepth 100000
set_option maxHeartbeats 1000000
namespace KX
open PySem L2 PL
/-! ### the seen ticks, along the paths -/
theorem low_late {s : Srcs} {v : Vws} (h : NetOk s v) {x : Str} (hx : x ∈ nds s v) {n : Nat} {y z : Str} {p : Fm × Int} (hy : (lowL s v x).reverse[n]? = some y) (hp : aget v y = some p) (hz : z ∈ p.1.ins) : z ∉ (lowL s v x).reverse.take (n + 1) := fun hm => by
  have hnl := (List.getElem?_eq_some_iff.mp hy).1
  rw [List.length_reverse] at hnl
  rw [List.getElem?_reverse hnl] at hy
  have hb := low_ins h hx hy hp hz
  obtain ⟨i, hi⟩ := List.mem_iff_getElem?.mp hb
  have hil : i < (lowL s v x).length - 1 - n := by
    have := (List.getElem?_eq_some_iff.mp hi).1
    rw [List.length_take] at this
    omega
  rw [List.getElem?_take_of_lt hil] at hi
  obtain ⟨j, hj⟩ := List.mem_iff_getElem?.mp hm
  have hjl : j < n + 1 := by
    have := (List.getElem?_eq_some_iff.mp hj).1
    rw [List.length_take] at this
    omega
  rw [List.getElem?_take_of_lt hjl, List.getElem?_reverse (by omega)] at hj
  obtain ⟨a1, a2⟩ := List.getElem?_eq_some_iff.mp hi
  obtain ⟨c1, c2⟩ := List.getElem?_eq_some_iff.mp hj
  have := (List.getElem_inj (low_nd h x)).mp (a2.trans c2.symm)
  omega
structure Chain (v : Vws) (pl : Pl) (x : Str) (t : Nat) (done : List Str) (st : Nums) : Prop where
  top : st.get? x = some (((if x ∈ done then lastR pl x t else t : Nat)) : Int)
  ins : ∀ u ∈ done, ∀ p, aget v u = some p → ∀ z ∈ p.1.ins, ∃ m : Nat, st.get? u = some (m : Int) ∧ st.get? z = some (((if z ∈ done then lastR pl z m else m : Nat)) : Int)
theorem chain_all {s : Srcs} {v : Vws} (h : NetOk s v) {x : Str} (hx : x ∈ nds s v) (pl : Pl) (t : Nat) : ∀ n, Chain v pl x t ((lowL s v x).reverse.take n) (seenL v pl x (t : Int) ((lowL s v x).reverse.take n))
  | 0 => ⟨by simp [seenL, Nums.get?], fun u hu => by simp at hu⟩
  | n + 1 => by
    have ih := chain_all h hx pl t n
    cases e : (lowL s v x).reverse[n]? with
    | none =>
      have : (lowL s v x).reverse.take (n + 1) = (lowL s v x).reverse.take n := by rw [List.take_add_one, e]; simp
      rw [this]
      exact ih
    | some y =>
      rw [seenL_succ _ _ _ _ _ _ _ e]
      have hrd : (lowL s v x).reverse.Nodup := (List.reverse_perm _).nodup_iff.mpr (low_nd h x)
      have hno := nd_not_take hrd e
      have hmem : ∀ z, z ∈ (lowL s v x).reverse.take (n + 1) ↔ z ∈ (lowL s v x).reverse.take n ∨ z = y := fun z => by rw [List.take_add_one, e]; simp
      have hup := low_up h hx e
      have hlate := fun {z : Str} {p : Fm × Int} => low_late (z := z) (p := p) h hx e
      have hx0 : x ∈ (lowL s v x).reverse.take (n + 1) := by
        unfold lowL
        rw [List.reverse_append]
        exact List.mem_cons_self
      generalize (lowL s v x).reverse.take (n + 1) = done' at hmem hlate hx0 ⊢
      generalize (lowL s v x).reverse.take n = done at ih hno hmem hup ⊢
      generalize seenL v pl x (t : Int) done = st at ih ⊢
      obtain ⟨k, hk, hk2⟩ : ∃ k : Nat, st.get? y = some (k : Int) ∧ ((y = x ∧ k = t) ∨ ∃ u ∈ done, ∃ p, aget v u = some p ∧ y ∈ p.1.ins ∧ st.get? u = some (k : Int)) := by
        rcases hup with q | ⟨u, hu, p, hp, hin⟩
        · subst q
          have := ih.top
          rw [if_neg hno] at this
          exact ⟨t, this, .inl ⟨rfl, rfl⟩⟩
        · obtain ⟨m, h1, h2⟩ := ih.ins u hu p hp y hin
          rw [if_neg hno] at h2
          exact ⟨m, h2, .inr ⟨u, hu, p, hp, hin, h1⟩⟩
      have hget : ∀ z, (seenStep v pl st y).get? z = if (∃ p, aget v y = some p ∧ z ∈ p.1.ins) ∨ z = y then some ((lastR pl y k : Nat) : Int) else st.get? z := fun z => by
        rw [get_seen, hk]
        rfl
      have keep : ∀ z ∈ done, (seenStep v pl st y).get? z = st.get? z := fun z hz => by
        rw [hget, if_neg]
        rintro (⟨p, hp, hin⟩ | q)
        · exact hlate hp hin ((hmem z).mpr (.inl hz))
        · exact hno (q ▸ hz)
      refine ⟨?_, fun u hu p hp z hz => ?_⟩
      · rw [if_pos hx0]
        rcases (hmem x).mp hx0 with q | q
        · rw [keep x q, ih.top, if_pos q]
        · subst q
          rw [hget, if_pos (.inr rfl)]
          have h1 := ih.top
          rw [if_neg hno, hk] at h1
          have : k = t := by have := Option.some.inj h1; omega
          rw [this]
      · rcases (hmem u).mp hu with q | q
        · obtain ⟨m, h1, h2⟩ := ih.ins u q p hp z hz
          refine ⟨m, (keep u q).trans h1, ?_⟩
          by_cases zy : z = y
          · subst zy
            rw [if_neg hno] at h2
            rw [hget, if_pos (.inr rfl), if_pos ((hmem z).mpr (.inr rfl))]
            rw [hk] at h2
            have : k = m := by have := Option.some.inj h2; omega
            rw [this]
          · have : ¬ ((∃ p, aget v y = some p ∧ z ∈ p.1.ins) ∨ z = y) := by
              rintro (⟨p', hp', hin⟩ | q')
              · have := one_up h hp hp' hz hin
                exact hno (this ▸ q)
              · exact zy q'
            rw [hget, if_neg this, h2]
            by_cases zd : z ∈ done
            · rw [if_pos zd, if_pos ((hmem z).mpr (.inl zd))]
            · rw [if_neg zd, if_neg fun c => ((hmem z).mp c).elim zd zy]
        · subst q
          refine ⟨lastR pl u k, by rw [hget, if_pos (.inr rfl)], ?_⟩
          rw [hget, if_pos (.inl ⟨p, hp, hz⟩), if_neg (hlate hp hz)]
end KX
set_option Elab.async false
set_option linter.all false
set_option maxRecDepth 100000
set_option maxHeartbeats 1000000
namespace KX
open PySem L2 PL
theorem get_mapN (g : Str → Int) : ∀ {l : List Str} {y : Str}, y ∈ l → Nums.get? (l.map fun x => (x, g x)) y = some (g y)
  | a :: r, y, h => by
    simp only [List.map_cons, Nums.get?]
    by_cases z : a = y
    · rw [if_pos z, z]
    · rw [if_neg z]
      exact get_mapN g ((List.mem_cons.mp h).resolve_left fun e => z e.symm)
theorem chain_end {s : Srcs} {v : Vws} (h : NetOk s v) {x : Str} (hx : x ∈ nds s v) (pl : Pl) (t : Nat) : Chain v pl x t (lowL s v x).reverse (seenL v pl x (t : Int) (lowL s v x).reverse) := by
  have := chain_all h hx pl t (lowL s v x).reverse.length
  rw [List.take_length] at this
  exact this
theorem err_chain {s : Srcs} {v : Vws} (h : NetOk s v) {x : Str} (hx : x ∈ nds s v) {pl : Pl} {t : Nat} {tol : Int} {n : Nat} {y : Str} (hl : Lvl s v n y) : y ∈ lowL s v x → ∀ I : Nat, I ≤ t → (seenL v pl x (t : Int) (lowL s v x).reverse).get? y = some ((lastR pl y I : Nat) : Int) → errF s v (agesL s v pl ((t : Int), x, tol)) n y = errG s v pl t n I y := by
  induction hl with
  | @src n y hy =>
    intro _ I hI hst
    have hlr := lastR_le pl y I
    rw [errF_src h hy, errG_src h hy]
    have hg : (agesL s v pl ((t : Int), x, tol)).get? y = some ((t : Int) - ((seenL v pl x (t : Int) (lowL s v x).reverse).get? y).getD 0) := by
      unfold agesL
      exact get_mapN (fun y => (t : Int) - ((seenL v pl x (t : Int) (lowL s v x).reverse).get? y).getD 0) (List.mem_filter.mpr ⟨hy, by rw [hst]; rfl⟩)
    rw [hg, hst]
    simp only [Option.getD_some]
    rw [show (t : Int) - ((lastR pl y I : Nat) : Int) = ((t - lastR pl y I : Nat) : Int) by omega]
  | @vw n y p hp hn hi ih =>
    intro hy I hI hst
    have hlr := lastR_le pl y I
    simp only [errF, errG, hp]
    refine wid_congr fun z hz => ?_
    have hzl : z ∈ lowL s v x := (low_mem h hx).mpr (bel_snoc ((low_mem h hx).mp hy) hp hz)
    obtain ⟨m, h1, h2⟩ := (chain_end h hx pl t).ins y (List.mem_reverse.mpr hy) p hp z hz
    rw [if_pos (List.mem_reverse.mpr hzl)] at h2
    rw [hst] at h1
    have hm : m = lastR pl y I := by have := Option.some.inj h1; omega
    subst hm
    exact ih z hz hzl _ (by omega) h2
/-- the worst error, along the paths -/
theorem worst_path {s : Srcs} {v : Vws} {h : Int} {pl : Pl} {t : Nat} {x : Str} {tol : Int} (a : AskOk s v h pl ((t : Int), x, tol)) : worstV s v pl ((t : Int), x, tol) = errG s v pl t 7 t x := by
  have hx := a.qry.2.2.1
  rw [worst_eq a]
  have hxl : x ∈ lowL s v x := List.mem_append_right _ List.mem_cons_self
  refine err_chain a.net hx (a.net.lvl hx) hxl t (Nat.le_refl _) ?_
  have := (chain_end a.net hx pl t).top
  rw [if_pos (List.mem_reverse.mpr hxl)] at this
  exact this
/-- no world's error exceeds the worst one -/
theorem no_world {s : Srcs} {v : Vws} {h : Int} {pl : Pl} {q : Int × Str × Int} (a : AskOk s v h pl q) {w : Wd} (hw : WdOk s h w) : errOf s v w pl q ≤ worstV s v pl q := by
  obtain ⟨t, x, tol⟩ := q
  obtain ⟨q0, q1, hx, _, _⟩ := a.qry
  dsimp only at q0 q1 hx
  obtain ⟨m, rfl⟩ := Int.eq_ofNat_of_zero_le q0
  rw [worst_path a, errOf_eq a.net a.plan w hx]
  obtain ⟨n1, n2⟩ := no_more a.net hw (pl := pl) q1 (a.net.lvl hx) m (Nat.le_refl _)
  simp only [Int.toNat_natCast]
  unfold absI
  split <;> omega
end KX
set_option Elab.async false
set_option linter.all false
set_option maxRecDepth 100000
set_option maxHeartbeats 1000000
namespace KX
open PySem L2 PL
/-! ### the nodes under a node, each once -/
theorem under_bel {s : Srcs} {v : Vws} (h : NetOk s v) {n : Nat} {x : Str} (hl : Lvl s v n x) {y : Str} : y ∈ underF v n x ↔ Bel v x y := by
  induction hl with
  | @src n x hx =>
    rw [under_src h hx, List.mem_singleton]
    constructor
    · rintro rfl
      exact .refl y
    · intro b
      cases b with
      | refl => rfl
      | step hp _ _ => rw [aget_none (h.apart _ hx)] at hp; cases hp
  | @vw n x p hp hn hi ih =>
    simp only [underF, insOf, hp, List.mem_cons, List.mem_flatMap]
    constructor
    · rintro (rfl | ⟨z, hz, q⟩)
      · exact .refl y
      · exact .step hp hz ((ih z hz).mp q)
    · intro b
      cases b with
      | refl => exact .inl rfl
      | @step _ z _ p' hp' hz b =>
        rw [hp] at hp'
        cases hp'
        exact .inr ⟨z, hz, (ih z hz).mpr b⟩
theorem no_cycle {s : Srcs} {v : Vws} (h : NetOk s v) {x z : Str} {p : Fm × Int} (hp : aget v x = some p) (hz : z ∈ p.1.ins) : ¬ Bel v z x := fun b => by
  have hx : x ∈ nds s v := List.mem_append_right _ (List.mem_map.mpr ⟨_, aget_mem hp, rfl⟩)
  obtain ⟨j, hj⟩ := List.mem_iff_getElem?.mp hx
  have hb := nds_before h hj hp hz
  obtain ⟨i, hi⟩ := List.mem_iff_getElem?.mp hb
  have hij : i < j := by
    have := (List.getElem?_eq_some_iff.mp hi).1
    rw [List.length_take] at this
    omega
  rw [List.getElem?_take_of_lt hij] at hi
  rcases bel_before h b hi with e | e
  · subst e
    exact nd_not_take h.nd hj hb
  · refine nd_not_take h.nd hj ?_
    have : (nds s v).take i = ((nds s v).take j).take i := by rw [List.take_take]; congr 1; omega
    rw [this] at e
    exact List.mem_of_mem_take e
theorem bel_line {s : Srcs} {v : Vws} (h : NetOk s v) {a y : Str} (ha : Bel v a y) : ∀ {b : Str}, Bel v b y → Bel v a b ∨ Bel v b a := by
  induction ha with
  | refl a => exact fun hb => .inr hb
  | @step a z y p hp hz _ ih =>
    intro b hb
    rcases ih hb with q | q
    · exact .inl (.step hp hz q)
    · rcases bel_last q with e | ⟨u, p', hu, hpu, hin⟩
      · subst e
        exact .inl (.step hp hz (.refl _))
      · have := one_up h hpu hp hin hz
        subst this
        exact .inr hu
theorem apart_ins {s : Srcs} {v : Vws} (h : NetOk s v) {x z1 z2 y : Str} {p : Fm × Int} (hp : aget v x = some p) (h1 : z1 ∈ p.1.ins) (h2 : z2 ∈ p.1.ins) (b1 : Bel v z1 y) (b2 : Bel v z2 y) : z1 = z2 := by
  have key : ∀ {z1 z2 : Str}, z1 ∈ p.1.ins → z2 ∈ p.1.ins → Bel v z1 z2 → z1 = z2 := fun {z1 z2} h1 h2 b => by
    rcases bel_last b with e | ⟨u, p', hu, hpu, hin⟩
    · exact e.symm
    · have := one_up h hpu hp hin h2
      subst this
      exact absurd hu (no_cycle h hp h1)
  rcases bel_line h b1 b2 with q | q
  · exact key h1 h2 q
  · exact (key h2 h1 q).symm
theorem under_nd {s : Srcs} {v : Vws} (h : NetOk s v) {n : Nat} {x : Str} (hl : Lvl s v n x) : (underF v n x).Nodup := by
  induction hl with
  | src hx => rw [under_src h hx]; exact List.nodup_cons.mpr ⟨List.not_mem_nil, List.nodup_nil⟩
  | @vw n x p hp hn hi ih =>
    simp only [underF, insOf, hp]
    refine List.nodup_cons.mpr ⟨fun hm => ?_, ?_⟩
    · obtain ⟨z, hz, q⟩ := List.mem_flatMap.mp hm
      exact no_cycle h hp hz ((under_bel h (hi z hz)).mp q)
    · refine List.pairwise_flatMap.mpr ⟨fun z hz => ih z hz, ?_⟩
      refine List.Pairwise.imp_of_mem (fun {z1 z2} m1 m2 hne a ha b hb e => ?_) (h.ins (aget_mem hp))
      subst e
      exact hne (apart_ins h hp m1 m2 ((under_bel h (hi z1 m1)).mp ha) ((under_bel h (hi z2 m2)).mp hb))
theorem nd_sub : ∀ {l m : List Str}, l.Nodup → (∀ x ∈ l, x ∈ m) → l.length ≤ m.length
  | [], m, _, _ => Nat.zero_le _
  | a :: r, m, h, k => by
    rw [List.nodup_cons] at h
    have ha := k a List.mem_cons_self
    have := nd_sub (m := m.erase a) h.2 fun x hx => (List.mem_erase_of_ne fun e => h.1 (by rw [← e]; exact hx)).mpr (k x (List.mem_cons_of_mem _ hx))
    rw [List.length_erase_of_mem ha] at this
    have := List.length_pos_of_mem ha
    rw [List.length_cons]
    omega
theorem under_len8 {s : Srcs} {v : Vws} (h : NetOk s v) {x : Str} (hx : x ∈ nds s v) : (underF v 7 x).length ≤ (nds s v).length :=
  nd_sub (under_nd h (h.lvl hx)) fun y hy => by
    obtain ⟨j, hj⟩ := List.mem_iff_getElem?.mp hx
    rcases bel_before h ((under_bel h (h.lvl hx)).mp hy) hj with e | e
    · exact e ▸ hx
    · exact List.mem_of_mem_take e
/-! ### stamps -/
def mergeN (a b : Nums) : Nums := b.foldl (fun kn e => kn.put e.1 e.2) a
def updS (st : Str → Nums) (x : Str) (n : Nums) : Str → Nums := fun z => if z = x then n else st z
def lateN (st : Str → Nums) (l : List Str) : Nums := l.foldl (fun kn z => mergeN kn (st z)) []
def stampF (s : Srcs) (v : Vws) (st : Str → Nums) (r : Int × Str) : Str → Nums := updS st r.2 (if r.2 ∈ s.map (·.1) then [(r.2, r.1)] else lateN st (insOf v r.2))
def stamp0 (s : Srcs) (v : Vws) : Str → Nums := fun x => ((underF v 7 x).filter fun y => decide (y ∈ s.map (·.1))).map fun y => (y, 0)
def stampsL (s : Srcs) (v : Vws) (pl : Pl) (T : Int) : Str → Nums := pl.foldl (fun st r => if r.1 ≤ T then stampF s v st r else st) (stamp0 s v)
def stampD (ns : List Str) (st : Str → Nums) : List (Key × D) := ns.map fun x => (Sum.inr x, .dct (numD (st x)))
def lawAges (s : Srcs) (v : Vws) (pl : Pl) (q : Int × Str × Int) : Nums :=
  ((s.map (·.1)).filter fun y => ((stampsL s v pl q.1 q.2.1).get? y).isSome).map fun y => (y, q.1 - ((stampsL s v pl q.1 q.2.1).get? y).getD 0)
theorem merge_num : ∀ (b a : Nums), mergeD (numD a) (numD b) = numD (mergeN a b)
  | [], a => rfl
  | (x, n) :: r, a => by
    show mergeD (putD (numD a) (Sum.inr x) (.int n)) (numD r) = _
    rw [put_num, merge_num r (a.put x n)]
    rfl
theorem get_not {x : Str} : ∀ {b : Nums}, x ∉ b.map (·.1) → b.get? x = none
  | [], _ => rfl
  | (y, n) :: r, h => by
    rw [List.map_cons, List.mem_cons, not_or] at h
    simp only [Nums.get?]
    rw [if_neg fun e => h.1 e.symm]
    exact get_not h.2
theorem get_in {x : Str} : ∀ {b : Nums}, x ∈ b.map (·.1) → (b.get? x).isSome = true
  | (y, n) :: r, h => by
    simp only [Nums.get?]
    by_cases e : y = x
    · rw [if_pos e]; rfl
    · rw [if_neg e]
      rw [List.map_cons, List.mem_cons] at h
      exact get_in (h.resolve_left fun q => e q.symm)
theorem get_merge (y : Str) : ∀ (b : Nums), (b.map (·.1)).Nodup → ∀ a : Nums, (mergeN a b).get? y = match b.get? y with | some k => some k | none => a.get? y
  | [], _, a => rfl
  | (x, n) :: r, h, a => by
    rw [List.map_cons, List.nodup_cons] at h
    show (mergeN (a.put x n) r).get? y = _
    rw [get_merge y r h.2, get_put]
    simp only [Nums.get?]
    by_cases e : x = y
    · subst e
      rw [get_not h.1, if_pos rfl, if_pos rfl]
    · rw [if_neg e, if_neg fun q => e q.symm]
theorem keys_put (kn : Nums) (x : Str) (n : Int) : (kn.put x n).map (·.1) = if x ∈ kn.map (·.1) then kn.map (·.1) else kn.map (·.1) ++ [x] := by
  unfold Nums.put
  by_cases h : x ∈ kn.map (·.1)
  · rw [if_pos h, if_pos (get_in h), List.map_map]
    refine List.map_congr_left fun e _ => ?_
    simp only [Function.comp]
    split <;> rfl
  · rw [if_neg h, get_not h, if_neg (by simp)]
    simp
theorem keys_merge : ∀ (b a : Nums), (a.map (·.1)).Nodup → ((mergeN a b).map (·.1)).Nodup ∧ ∀ y ∈ (mergeN a b).map (·.1), y ∈ a.map (·.1) ∨ y ∈ b.map (·.1)
  | [], a, h => ⟨h, fun y hy => .inl hy⟩
  | (x, n) :: r, a, h => by
    have h1 : ((a.put x n).map (·.1)).Nodup := by
      rw [keys_put]
      split
      · exact h
      · rename_i q
        exact List.nodup_append.mpr ⟨h, List.nodup_cons.mpr ⟨List.not_mem_nil, List.nodup_nil⟩, fun u hu w hw e => by
          rw [List.mem_singleton] at hw
          exact q (hw ▸ e ▸ hu)⟩
    obtain ⟨q1, q2⟩ := keys_merge r (a.put x n) h1
    refine ⟨q1, fun y hy => ?_⟩
    rcases q2 y hy with k | k
    · rw [keys_put] at k
      split at k
      · exact .inl k
      · rcases List.mem_append.mp k with j | j
        · exact .inl j
        · rw [List.mem_singleton] at j
          exact .inr (by rw [j]; exact List.mem_cons_self)
    · exact .inr (List.mem_cons_of_mem _ k)
structure StampOk (s : Srcs) (v : Vws) (st : Str → Nums) : Prop where
  nd : ∀ z ∈ nds s v, ((st z).map (·.1)).Nodup
  sub : ∀ z ∈ nds s v, ∀ y ∈ (st z).map (·.1), y ∈ s.map (·.1)
theorem StampOk.len {s : Srcs} {v : Vws} {st : Str → Nums} (h : StampOk s v st) {z : Str} (hz : z ∈ nds s v) : (st z).length ≤ s.length := by
  have := nd_sub (h.nd z hz) (h.sub z hz)
  rw [List.length_map, List.length_map] at this
  exact this
theorem late_ok {s : Srcs} {v : Vws} {st : Str → Nums} (h : StampOk s v st) : ∀ {l : List Str} {a : Nums}, (∀ z ∈ l, z ∈ nds s v) → (a.map (·.1)).Nodup → (∀ y ∈ a.map (·.1), y ∈ s.map (·.1)) → ((l.foldl (fun kn z => mergeN kn (st z)) a).map (·.1)).Nodup ∧ ∀ y ∈ (l.foldl (fun kn z => mergeN kn (st z)) a).map (·.1), y ∈ s.map (·.1)
  | [], a, _, h1, h2 => ⟨h1, h2⟩
  | z :: r, a, hl, h1, h2 => by
    obtain ⟨q1, q2⟩ := keys_merge (st z) a h1
    exact late_ok h (l := r) (a := mergeN a (st z)) (fun u hu => hl u (List.mem_cons_of_mem _ hu)) q1 fun y hy => (q2 y hy).elim (h2 y) (h.sub z (hl z List.mem_cons_self) y)
theorem ins_nds {s : Srcs} {v : Vws} (h : NetOk s v) {x z : Str} (hz : z ∈ insOf v x) : z ∈ nds s v := by
  unfold insOf at hz
  cases e : aget v x with
  | none => rw [e] at hz; cases hz
  | some p =>
    rw [e] at hz
    have hx : x ∈ nds s v := List.mem_append_right _ (List.mem_map.mpr ⟨_, aget_mem e, rfl⟩)
    obtain ⟨j, hj⟩ := List.mem_iff_getElem?.mp hx
    exact List.mem_of_mem_take (nds_before h hj e hz)
theorem stamp_ok {s : Srcs} {v : Vws} (h : NetOk s v) {st : Str → Nums} (k : StampOk s v st) (r : Int × Str) : StampOk s v (stampF s v st r) := by
  have e := late_ok k (l := insOf v r.2) (a := []) (fun z hz => ins_nds h hz) List.nodup_nil fun y hy => by cases hy
  refine ⟨fun z hz => ?_, fun z hz y hy => ?_⟩
  · simp only [stampF, updS]
    split
    · split
      · exact List.nodup_cons.mpr ⟨List.not_mem_nil, List.nodup_nil⟩
      · exact e.1
    · exact k.nd z hz
  · simp only [stampF, updS] at hy
    split at hy
    · split at hy
      · rename_i q
        simp only [List.map_cons, List.map_nil, List.mem_singleton] at hy
        rw [hy]
        exact q
      · exact e.2 y hy
    · exact k.sub z hz y hy
theorem stamp0_ok {s : Srcs} {v : Vws} (h : NetOk s v) : StampOk s v (stamp0 s v) := by
  have e : ∀ z, (stamp0 s v z).map (·.1) = (underF v 7 z).filter fun y => decide (y ∈ s.map (·.1)) := fun z => by
    simp only [stamp0, List.map_map]
    exact List.map_id _
  refine ⟨fun z hz => ?_, fun z hz y hy => ?_⟩
  · rw [e]
    exact (under_nd h (h.lvl hz)).filter _
  · rw [e] at hy
    exact of_decide_eq_true (List.mem_filter.mp hy).2
theorem stamps_ok {s : Srcs} {v : Vws} (h : NetOk s v) (T : Int) : ∀ {l : Pl} {st : Str → Nums}, StampOk s v st → StampOk s v (l.foldl (fun st r => if r.1 ≤ T then stampF s v st r else st) st)
  | [], st, k => k
  | r :: l, st, k => by
    refine stamps_ok h T (l := l) (st := if r.1 ≤ T then stampF s v st r else st) ?_
    split
    · exact stamp_ok h k r
    · exact k
end KX
set_option Elab.async false
set_option linter.all false
set_option maxRecDepth 100000
set_option maxHeartbeats 1000000
namespace KX
open PySem L2 PL
/-! ### the stamps, by recursion -/
def pickG (g : Str → Option Int) (a : Option Int) (l : List Str) : Option Int := l.foldl (fun a z => match g z with | some k => some k | none => a) a
def gF (v : Vws) (pl : Pl) : Nat → Nat → Str → Str → Option Int
  | 0, T, x, y => if x = y then some ((lastR pl x T : Nat) : Int) else none
  | n + 1, T, x, y => match aget v x with
    | some p => pickG (fun z => gF v pl n (lastR pl x T) z y) none p.1.ins
    | none => if x = y then some ((lastR pl x T : Nat) : Int) else none
theorem pick_congr {g g' : Str → Option Int} : ∀ {l : List Str} {a : Option Int}, (∀ z ∈ l, g z = g' z) → pickG g a l = pickG g' a l
  | [], a, _ => rfl
  | z :: r, a, h => by
    show pickG g (match g z with | some k => some k | none => a) r = pickG g' (match g' z with | some k => some k | none => a) r
    rw [h z List.mem_cons_self]
    exact pick_congr fun u hu => h u (List.mem_cons_of_mem _ hu)
theorem pick_all {g : Str → Option Int} {c : Option Int} {P : Str → Prop} [DecidablePred P] (hc : c.isSome = true) : ∀ {l : List Str} {a : Option Int}, (∀ z ∈ l, g z = if P z then c else none) → pickG g a l = if (∃ z ∈ l, P z) then c else a
  | [], a, _ => by simp [pickG]
  | z :: r, a, h => by
    show pickG g (match g z with | some k => some k | none => a) r = _
    rw [pick_all hc (l := r) fun u hu => h u (List.mem_cons_of_mem _ hu), h z List.mem_cons_self]
    by_cases e1 : ∃ u ∈ r, P u
    · obtain ⟨u, hu, hp⟩ := e1
      rw [if_pos ⟨u, hu, hp⟩, if_pos ⟨u, List.mem_cons_of_mem _ hu, hp⟩]
    · rw [if_neg e1]
      by_cases e2 : P z
      · rw [if_pos e2, if_pos ⟨z, List.mem_cons_self, e2⟩]
        obtain ⟨k, rfl⟩ := Option.isSome_iff_exists.mp hc
        rfl
      · rw [if_neg e2, if_neg]
        rintro ⟨u, hu, hp⟩
        rcases List.mem_cons.mp hu with q | q
        · exact e2 (q ▸ hp)
        · exact e1 ⟨u, q, hp⟩
theorem gF_src {s : Srcs} {v : Vws} (h : NetOk s v) {pl : Pl} {T : Nat} {x y : Str} (hx : x ∈ s.map (·.1)) : ∀ n, gF v pl n T x y = if x = y then some ((lastR pl x T : Nat) : Int) else none
  | 0 => rfl
  | n + 1 => by simp only [gF, aget_none (h.apart _ hx)]
theorem gF_le {s : Srcs} {v : Vws} (hs : NetOk s v) {pl : Pl} {y : Str} {n : Nat} {x : Str} (h : Lvl s v n x) : ∀ {m T : Nat}, n ≤ m → gF v pl m T x y = gF v pl n T x y := by
  induction h with
  | @src n x hx => exact fun _ => by rw [gF_src hs hx, gF_src hs hx]
  | @vw n x p hp hn hi ih =>
    intro m T hm
    obtain ⟨k, rfl⟩ : ∃ k, m = k + 1 := ⟨m - 1, by omega⟩
    simp only [gF, hp]
    exact pick_congr fun z hz => ih z hz (by omega)
theorem gF_step {s : Srcs} {v : Vws} (hs : NetOk s v) {pl : Pl} {x y : Str} (hx : x ∈ nds s v) (T : Nat) : gF v pl 7 T x y = match aget v x with
    | some p => pickG (fun z => gF v pl 7 (lastR pl x T) z y) none p.1.ins
    | none => if x = y then some ((lastR pl x T : Nat) : Int) else none := by
  cases hl : hs.lvl hx with
  | src hsrc => simp only [gF, aget_none (hs.apart _ hsrc)]
  | @vw m _ p hp hn hi =>
    simp only [gF, hp]
    exact pick_congr fun z hz => (gF_le hs (n := 6) (m := 7) (hi z hz) (by decide)).symm
noncomputable instance (v : Vws) (x y : Str) : Decidable (Bel v x y) := Classical.propDecidable _
theorem bel_vw {s : Srcs} {v : Vws} {x y : Str} {p : Fm × Int} (hp : aget v x = some p) (hn : x ∉ s.map (·.1)) (hy : y ∈ s.map (·.1)) : (∃ z ∈ p.1.ins, Bel v z y) ↔ Bel v x y := by
  constructor
  · rintro ⟨z, hz, b⟩
    exact .step hp hz b
  · intro b
    cases b with
    | refl => exact absurd hy hn
    | @step _ z _ p' hp' hz b =>
      rw [hp] at hp'
      cases hp'
      exact ⟨z, hz, b⟩
theorem bel_srcs {s : Srcs} {v : Vws} (h : NetOk s v) {x y : Str} (hx : x ∈ s.map (·.1)) : Bel v x y ↔ x = y := by
  constructor
  · intro b
    cases b with
    | refl => rfl
    | step hp _ _ => rw [aget_none (h.apart _ hx)] at hp; cases hp
  · rintro rfl
    exact .refl x
theorem gF_zero {s : Srcs} {v : Vws} (h : NetOk s v) {pl : Pl} {y : Str} (hy : y ∈ s.map (·.1)) {n : Nat} {x : Str} (hl : Lvl s v n x) : gF v pl n 0 x y = if Bel v x y then some 0 else none := by
  induction hl with
  | @src n x hx =>
    rw [gF_src h hx]
    by_cases e : x = y
    · rw [if_pos e, if_pos ((bel_srcs h hx).mpr e)]; rfl
    · rw [if_neg e, if_neg fun b => e ((bel_srcs h hx).mp b)]
  | @vw n x p hp hn hi ih =>
    simp only [gF, hp, lastR]
    rw [pick_all rfl fun z hz => ih z hz]
    by_cases e : Bel v x y
    · rw [if_pos e, if_pos ((bel_vw hp hn hy).mpr e)]
    · rw [if_neg e, if_neg fun b => e ((bel_vw hp hn hy).mp b)]
theorem stamp0_get {s : Srcs} {v : Vws} (h : NetOk s v) {pl : Pl} {x y : Str} (hx : x ∈ nds s v) (hy : y ∈ s.map (·.1)) : (stamp0 s v x).get? y = gF v pl 7 0 x y := by
  rw [gF_zero h hy (h.lvl hx)]
  unfold stamp0
  by_cases e : Bel v x y
  · rw [if_pos e]
    exact get_mapN (fun _ => 0) (List.mem_filter.mpr ⟨(under_bel h (h.lvl hx)).mpr e, decide_eq_true hy⟩)
  · rw [if_neg e]
    refine get_not fun hm => e ?_
    rw [List.map_map] at hm
    obtain ⟨z, hz, rfl⟩ := List.mem_map.mp hm
    exact (under_bel h (h.lvl hx)).mp (List.mem_filter.mp hz).1
theorem late_get {s : Srcs} {v : Vws} {st : Str → Nums} (k : StampOk s v st) (y : Str) : ∀ {l : List Str} {a : Nums}, (∀ z ∈ l, z ∈ nds s v) → (l.foldl (fun kn z => mergeN kn (st z)) a).get? y = pickG (fun z => (st z).get? y) (a.get? y) l
  | [], a, _ => rfl
  | z :: r, a, hl => by
    show (r.foldl (fun kn z => mergeN kn (st z)) (mergeN a (st z))).get? y = _
    rw [late_get k y fun u hu => hl u (List.mem_cons_of_mem _ hu), get_merge y _ (k.nd z (hl z List.mem_cons_self))]
    rfl
theorem filt_sort {pl : Pl} : pl.Pairwise (fun a b => a.1 ≤ b.1) → ∀ t : Int, pl.filter (fun r => decide (r.1 ≤ t + 1)) = pl.filter (fun r => decide (r.1 ≤ t)) ++ pl.filter (fun r => decide (r.1 = t + 1)) := by
  induction pl with
  | nil => intro _ t; rfl
  | cons a r ih =>
    intro h t
    rw [List.pairwise_cons] at h
    have ih := ih h.2 t
    rcases Int.lt_trichotomy a.1 (t + 1) with z | z | z
    · rw [List.filter_cons_of_pos (by simp; omega), List.filter_cons_of_pos (by simp; omega), List.filter_cons_of_neg (by simp; omega), ih, List.cons_append]
    · have e : r.filter (fun r => decide (r.1 ≤ t)) = [] := List.filter_eq_nil_iff.mpr fun b hb => by have := h.1 b hb; simp; omega
      rw [List.filter_cons_of_pos (by simp; omega), List.filter_cons_of_neg (by simp; omega), List.filter_cons_of_pos (by simp; omega), ih, e]
      rfl
    · rw [List.filter_cons_of_neg (by simp; omega), List.filter_cons_of_neg (by simp; omega), List.filter_cons_of_neg (by simp; omega), ih]
def stampsN (s : Srcs) (v : Vws) (pl : Pl) (T : Int) : Str → Nums := (pl.filter fun r => decide (r.1 ≤ T)).foldl (stampF s v) (stamp0 s v)
theorem stamps_eq (s : Srcs) (v : Vws) (pl : Pl) (T : Int) : stampsL s v pl T = stampsN s v pl T := by
  unfold stampsL stampsN
  rw [List.foldl_filter]
  simp only [decide_eq_true_eq]
theorem stamps_get {s : Srcs} {v : Vws} {h : Int} {pl : Pl} (hs : NetOk s v) (hp : PlanOk (nds s v) h pl) {y : Str} (hy : y ∈ s.map (·.1)) : ∀ (T : Nat), ∀ x ∈ nds s v, (stampsN s v pl (T : Int) x).get? y = gF v pl 7 T x y
  | 0, x, hx => by
    have e : pl.filter (fun r => decide (r.1 ≤ ((0 : Nat) : Int))) = [] := List.filter_eq_nil_iff.mpr fun b hb => by have := (hp.ok b hb).1; simp; omega
    unfold stampsN
    rw [e]
    exact stamp0_get hs hx hy
  | T + 1, x, hx => by
    have ih := stamps_get hs hp hy T
    have hsort : pl.Pairwise (fun a b => a.1 ≤ b.1) := (plan_pw hp).imp fun {a b} q => by rcases q with q | q <;> omega
    have e0 : stampsN s v pl ((T + 1 : Nat) : Int) = (nds s v).foldl (fun st x => if (((T : Int) + 1), x) ∈ pl then stampF s v st ((T : Int) + 1, x) else st) (stampsN s v pl (T : Int)) := by
      unfold stampsN
      rw [show ((T + 1 : Nat) : Int) = (T : Int) + 1 by omega, filt_sort hsort, List.foldl_append]
      generalize (pl.filter fun r => decide (r.1 ≤ (T : Int))).foldl (stampF s v) (stamp0 s v) = st
      have e1 : (pl.filter fun r => decide (r.1 = (T : Int) + 1)).foldl (stampF s v) st = (((pl.filter fun r => decide (r.1 = (T : Int) + 1)).map (·.2)).map fun x => ((T : Int) + 1, x)).foldl (stampF s v) st := by
        rw [List.map_map]
        congr 1
        refine (List.map_id _).symm.trans (List.map_congr_left fun r hr => ?_)
        have := of_decide_eq_true (List.mem_filter.mp hr).2
        rw [← this]
        rfl
      rw [e1, tick_names hs.nd hp, List.foldl_map]
      unfold namesAt
      rw [List.foldl_filter]
      simp only [decide_eq_true_eq]
    rw [e0]
    have hok0 : StampOk s v (stampsN s v pl (T : Int)) := by rw [← stamps_eq]; exact stamps_ok hs _ (stamp0_ok hs)
    have hok : ∀ l : List Str, StampOk s v (l.foldl (fun st x => if (((T : Int) + 1), x) ∈ pl then stampF s v st ((T : Int) + 1, x) else st) (stampsN s v pl (T : Int))) := fun l => by
      generalize stampsN s v pl (T : Int) = st at hok0
      induction l generalizing st with
      | nil => exact hok0
      | cons a r ihl =>
        refine ihl (if (((T : Int) + 1), a) ∈ pl then stampF s v st ((T : Int) + 1, a) else st) ?_
        split
        · exact stamp_ok hs hok0 _
        · exact hok0
    have key : ∀ i, ∀ x ∈ nds s v, (((nds s v).take i).foldl (fun st x => if (((T : Int) + 1), x) ∈ pl then stampF s v st ((T : Int) + 1, x) else st) (stampsN s v pl (T : Int)) x).get? y = if x ∈ (nds s v).take i then gF v pl 7 (T + 1) x y else gF v pl 7 T x y := by
      intro i
      induction i with
      | zero =>
        intro x hx
        simp only [List.take_zero, List.not_mem_nil, if_false]
        exact ih x hx
      | succ i ihi =>
        intro z hz
        cases e : (nds s v)[i]? with
        | none =>
          have : (nds s v).take (i + 1) = (nds s v).take i := by rw [List.take_add_one, e]; simp
          rw [this]
          exact ihi z hz
        | some x =>
          have hx := List.mem_of_getElem? e
          have hmem : ∀ z, z ∈ (nds s v).take (i + 1) ↔ z ∈ (nds s v).take i ∨ z = x := fun z => by rw [List.take_add_one, e]; simp
          have hno := nd_not_take hs.nd e
          have hoki := hok ((nds s v).take i)
          rw [show (nds s v).take (i + 1) = (nds s v).take i ++ [x] by rw [List.take_add_one, e]; rfl, List.foldl_append, List.foldl_cons, List.foldl_nil, ← show (nds s v).take (i + 1) = (nds s v).take i ++ [x] by rw [List.take_add_one, e]; rfl]
          generalize ((nds s v).take i).foldl (fun st x => if (((T : Int) + 1), x) ∈ pl then stampF s v st ((T : Int) + 1, x) else st) (stampsN s v pl (T : Int)) = st at ihi hoki ⊢
          by_cases m : (((T : Int) + 1), x) ∈ pl
          · rw [if_pos m]
            have hlr : lastR pl x (T + 1) = T + 1 := by simp only [lastR]; rw [if_pos m]
            simp only [stampF, updS]
            by_cases q : z = x
            · rw [if_pos q, q, if_pos ((hmem x).mpr (.inr rfl)), gF_step hs hx, hlr]
              by_cases hsrc : x ∈ s.map (·.1)
              · rw [if_pos hsrc, aget_none (hs.apart _ hsrc)]
                simp only [Nums.get?]
                rfl
              · rw [if_neg hsrc]
                obtain ⟨p, hpx⟩ : ∃ p, aget v x = some p := by
                  cases hl : hs.lvl hx with
                  | src h => exact absurd h hsrc
                  | @vw _ _ p hp _ _ => exact ⟨p, hp⟩
                unfold lateN
                rw [late_get hoki y fun u hu => ins_nds hs hu]
                simp only [hpx, insOf]
                refine pick_congr fun u hu => ?_
                have hb := nds_before hs e hpx hu
                rw [ihi u (List.mem_of_mem_take hb), if_pos hb]
            · rw [if_neg q, ihi z hz]
              by_cases m' : z ∈ (nds s v).take i
              · rw [if_pos m', if_pos ((hmem z).mpr (.inl m'))]
              · rw [if_neg m', if_neg fun k => ((hmem z).mp k).elim m' q]
          · rw [if_neg m, ihi z hz]
            have hlr : lastR pl x (T + 1) = lastR pl x T := by simp only [lastR]; rw [if_neg m]
            by_cases q : z = x
            · rw [q, if_neg hno, if_pos ((hmem x).mpr (.inr rfl)), gF_step hs hx, gF_step hs hx, hlr]
            · by_cases m' : z ∈ (nds s v).take i
              · rw [if_pos m', if_pos ((hmem z).mpr (.inl m'))]
              · rw [if_neg m', if_neg fun k => ((hmem z).mp k).elim m' q]
    have := key (nds s v).length x hx
    rw [List.take_length, if_pos hx] at this
    exact this
/-! ### the law's ages are the program's -/
theorem seen_low {s : Srcs} {v : Vws} (h : NetOk s v) {x : Str} (hx : x ∈ nds s v) {pl : Pl} {t : Int} : ∀ n, ∀ z, ((seenL v pl x t ((lowL s v x).reverse.take n)).get? z).isSome = true → z ∈ lowL s v x
  | 0, z, hz => by
    simp only [seenL, List.take_zero, List.foldl_nil, Nums.get?] at hz
    by_cases e : x = z
    · rw [← e]
      exact List.mem_append_right _ List.mem_cons_self
    · rw [if_neg e] at hz; cases hz
  | n + 1, z, hz => by
    have ih := seen_low h hx (pl := pl) (t := t) n
    cases e : (lowL s v x).reverse[n]? with
    | none =>
      have : (lowL s v x).reverse.take (n + 1) = (lowL s v x).reverse.take n := by rw [List.take_add_one, e]; simp
      rw [this] at hz
      exact ih z hz
    | some y =>
      rw [seenL_succ _ _ _ _ _ _ _ e, get_seen] at hz
      have hy : y ∈ lowL s v x := List.mem_reverse.mp (List.mem_of_getElem? e)
      split at hz
      · rename_i q
        rcases q with ⟨p, hp, hin⟩ | q
        · exact (low_mem h hx).mpr (bel_snoc ((low_mem h hx).mp hy) hp hin)
        · exact q ▸ hy
      · exact ih z hz
theorem bel_trans {v : Vws} {x y z : Str} (h : Bel v x y) (k : Bel v y z) : Bel v x z := by
  induction h with
  | refl _ => exact k
  | step h1 h2 _ ih => exact .step h1 h2 (ih k)
theorem seen_has {s : Srcs} {v : Vws} (h : NetOk s v) {x : Str} (hx : x ∈ nds s v) (pl : Pl) (t : Nat) {y : Str} (hy : Bel v x y) : ((seenL v pl x (t : Int) (lowL s v x).reverse).get? y).isSome = true := by
  rcases bel_last hy with e | ⟨u, p, hu, hp, hin⟩
  · rw [e, (chain_end h hx pl t).top]; rfl
  · obtain ⟨m, _, h2⟩ := (chain_end h hx pl t).ins u (List.mem_reverse.mpr ((low_mem h hx).mpr hu)) p hp y hin
    rw [h2]; rfl
theorem gF_chain {s : Srcs} {v : Vws} (h : NetOk s v) {x : Str} (hx : x ∈ nds s v) {pl : Pl} {t : Nat} {y : Str} (hy : y ∈ s.map (·.1)) {n : Nat} {u : Str} (hl : Lvl s v n u) : Bel v x u → ∀ I : Nat, I ≤ t → (seenL v pl x (t : Int) (lowL s v x).reverse).get? u = some ((lastR pl u I : Nat) : Int) → gF v pl n I u y = if Bel v u y then (seenL v pl x (t : Int) (lowL s v x).reverse).get? y else none := by
  induction hl with
  | @src n u hu =>
    intro _ I hI hst
    rw [gF_src h hu]
    by_cases e : u = y
    · rw [if_pos e, if_pos ((bel_srcs h hu).mpr e), ← e, hst]
    · rw [if_neg e, if_neg fun b => e ((bel_srcs h hu).mp b)]
  | @vw n u p hp hn hi ih =>
    intro hu I hI hst
    have hlr := lastR_le pl u I
    simp only [gF, hp]
    have hz : ∀ z ∈ p.1.ins, gF v pl n (lastR pl u I) z y = if Bel v z y then (seenL v pl x (t : Int) (lowL s v x).reverse).get? y else none := fun z hz => by
      have hbz := bel_snoc hu hp hz
      obtain ⟨m, h1, h2⟩ := (chain_end h hx pl t).ins u (List.mem_reverse.mpr ((low_mem h hx).mpr hu)) p hp z hz
      rw [if_pos (List.mem_reverse.mpr ((low_mem h hx).mpr hbz))] at h2
      rw [hst] at h1
      have hm : m = lastR pl u I := by have := Option.some.inj h1; omega
      subst hm
      exact ih z hz hbz _ (by omega) h2
    by_cases e : Bel v u y
    · have hc := seen_has h hx pl t (bel_trans hu e)
      rw [pick_all hc hz, if_pos e, if_pos ((bel_vw hp hn hy).mpr e)]
    · rw [if_neg e, pick_all (c := some 0) rfl fun z hzi => by
        have hno : ¬ Bel v z y := fun b => e (.step hp hzi b)
        rw [hz z hzi, if_neg hno, if_neg hno]]
      rw [if_neg fun b => e ((bel_vw hp hn hy).mp b)]
theorem ages_eq {s : Srcs} {v : Vws} {h : Int} {pl : Pl} {q : Int × Str × Int} (a : AskOk s v h pl q) : lawAges s v pl q = agesL s v pl q := by
  obtain ⟨t, x, tol⟩ := q
  obtain ⟨q0, q1, hx, _, _⟩ := a.qry
  dsimp only at q0 q1 hx
  obtain ⟨t, rfl⟩ := Int.eq_ofNat_of_zero_le q0
  have key : ∀ y ∈ s.map (·.1), (stampsL s v pl (t : Int) x).get? y = (seenL v pl x (t : Int) (lowL s v x).reverse).get? y := fun y hy => by
    rw [stamps_eq, stamps_get a.net a.plan hy t x hx]
    have hxl : x ∈ (lowL s v x).reverse := List.mem_reverse.mpr (List.mem_append_right _ List.mem_cons_self)
    have htop := (chain_end a.net hx pl t).top
    rw [if_pos hxl] at htop
    rw [gF_chain a.net hx hy (a.net.lvl hx) (.refl x) t (Nat.le_refl _) htop]
    by_cases e : Bel v x y
    · rw [if_pos e]
    · rw [if_neg e]
      have hl := seen_low a.net hx (pl := pl) (t := (t : Int)) (lowL s v x).reverse.length y
      rw [List.take_length] at hl
      cases g : (seenL v pl x (t : Int) (lowL s v x).reverse).get? y with
      | none => rfl
      | some k =>
        rw [g] at hl
        exact absurd ((low_mem a.net hx).mp (hl rfl)) e
  unfold lawAges agesL
  dsimp only
  rw [show ((s.map (·.1)).filter fun y => ((stampsL s v pl (t : Int) x).get? y).isSome) = (s.map (·.1)).filter fun y => ((seenL v pl x (t : Int) (lowL s v x).reverse).get? y).isSome from List.filter_congr fun y hy => by rw [key y hy]]
  refine List.map_congr_left fun y hy => ?_
  rw [key y (List.mem_filter.mp hy).1]
end KX
set_option Elab.async false
set_option linter.all false
set_option maxRecDepth 100000
set_option maxHeartbeats 1000000
namespace KX
open PySem L2 PL
abbrev sLawAges : Stmt := top 70
abbrev laN : List Str := ["_law_parts", "_law_plan_here", "_law_query_here", "_law_stamps", "_law_name", "_law_one", "_law_tick", "_law_late"]
theorem scLawAges : FnScope laN ["_law_parts", "_law_plan_here", "_law_query_here"] (defScope sLawAges) := ⟨rfl, rfl, rfl, by decide +kernel, rfl, by decide +kernel, by decide +kernel⟩
/-! ### the law's ages -/
theorem look_stamp (st : Str → Nums) : ∀ {ns : List Str} {x : Str}, x ∈ ns → look (stampD ns st) (Sum.inr x) = some (.dct (numD (st x)))
  | a :: r, x, h => by
    simp only [stampD, List.map_cons, look]
    by_cases e : a = x
    · rw [if_pos (by rw [e]), e]
    · rw [if_neg fun q => e (Sum.inr.inj q)]
      exact look_stamp st ((List.mem_cons.mp h).resolve_left fun q => e q.symm)
theorem put_stamp {st : Str → Nums} {ns : List Str} {x : Str} (h : x ∈ ns) (n : Nums) : putD (stampD ns st) (Sum.inr x) (.dct (numD n)) = stampD ns (updS st x n) := by
  unfold putD
  rw [look_stamp st h, if_pos (by rfl)]
  unfold stampD
  rw [List.map_map]
  refine List.map_congr_left fun y _ => ?_
  simp only [Function.comp, updS]
  by_cases e : y = x
  · subst e; rw [if_pos rfl, if_pos rfl]
  · rw [if_neg fun q => e (Sum.inr.inj q), if_neg e]
theorem look_stamp_no (st : Str → Nums) : ∀ {ns : List Str} {x : Str}, x ∉ ns → look (stampD ns st) (Sum.inr x) = none
  | [], x, _ => rfl
  | a :: r, x, h => by
    rw [List.mem_cons, not_or] at h
    simp only [stampD, List.map_cons, look]
    rw [if_neg fun q => h.1 (Sum.inr.inj q).symm]
    exact look_stamp_no st h.2
theorem put_stamp_new {st : Str → Nums} {ns : List Str} {x : Str} (h : x ∉ ns) : putD (stampD ns st) (Sum.inr x) (.dct (numD (st x))) = stampD (ns ++ [x]) st := by
  unfold putD
  rw [look_stamp_no st h, if_neg (by simp)]
  unfold stampD
  rw [List.map_append]
  rfl
def LAges : List D → Sl → Prop := fun ds r => ∃ (s : Srcs) (v : Vws) (h : Int) (pl : Pl) (q : Int × Str × Int), AskOk s v h pl q ∧ ds = [netp s v, .lst (pl.map refG), qryD q] ∧ r = .od (numD (lawAges s v pl q))
section
variable {P : Program} {w : World} {K : PySem.W.Frag} {mg : Str → Option Value} {base : Heap} {N : Addr}
theorem ok_lawAges {f : Addr} {fd : FuncData} (F : Fun K "_law_ages" "_law_ages" sLawAges f fd) (B : Bl mg) (c1 : Fd P w K mg base 9 "_law_under" (LUnder 7)) (c2 : Fd P w K mg base 1 "_law_inputs" LInputs) : FnOk P w K mg base CX0 10 f fd ["_law_parts", "_law_plan_here", "_law_query_here"] (spR K LAges) := by
  refine fn_ok F scLawAges (fun ds r h => ?_) fun cdv A outer s H E hr ds r h => ?_
  · obtain ⟨_, _, _, _, _, _, rfl, _⟩ := h
    rfl
  · obtain ⟨ss, vv, h, pl, q, a, rfl, rfl⟩ := h
    have hs := a.net
    have hlen := hs.len
    have hu := hu_of hr
    obtain ⟨t, x, tol⟩ := q
    obtain ⟨q0, q1, hx, _, _⟩ := a.qry
    dsimp only at q0 q1 hx
    have h12 := a.twelve
    have hnl : (nds ss vv).length ≤ 8 := by simp only [nds, List.length_append, List.length_map]; omega
    have hsl : ss.length ≤ 8 := by omega
    refine hf_r ?_
    refine hr_cons (hs_set 3 he_dict0 scLawAges.nd) ?_
    refine hr_cons (hs_for (is := [4]) (hi_seq (he_sh (s := .ol ((nds ss vv).map D.str)) (he_eq (he_cat (he_sh (s := .ol (keysD (srcD ss))) (he_listD (hg_ix (hg_var 0 rfl) hg_int rfl rfl) rfl B.list)) (he_sh (s := .ol (keysD (vwD vv))) (he_listD (hg_ix (hg_var 0 rfl) hg_int rfl rfl) rfl B.list)) ?_) (congrArg Sl.ol (keys_all ss vv)))) (.inl rfl)) (fun i => [some (.sh (netp ss vv)), some (.sh (.lst (pl.map refG))), some (.sh (qryD (t, x, tol))), some (.od (stampD ((nds ss vv).take i) (stamp0 ss vv))), none, none, none, none]) rfl fun i d hd => ?_) ?_
    · simp only [keysD, srcD, vwD, List.length_map]; omega
    · obtain ⟨y, hy, rfl⟩ : ∃ y, (nds ss vv)[i]? = some y ∧ D.str y = d := by
        simp only [List.getElem?_map, Option.map_eq_some_iff] at hd
        exact hd
      have hyn := List.mem_of_getElem? hy
      have hul := under_len8 hs hyn
      refine ⟨_, hb_name 4 scLawAges.nd, .inl ?_⟩
      refine hs_le (hs_one (hs_dput 3 (ky := Sum.inr y) hu (he_sh (s := .od (numD (stamp0 ss vv y))) (he_dictP (he_sh (s := .ol (itemsD (numD (stamp0 ss vv y)))) (he_eq (he_filter (f := fun d => .tup [d, .int 0]) (g := fun d => match d with | .str z => decide (z ∈ ss.map (·.1)) | _ => false) [("_law_one", 5)] [5] (hi_seq (he_sh (s := .ol ((underF vv 7 y).map D.str)) (he_call c1 (hr.mono (by decide)) (hea_cons (he_hg (hg_var 0 rfl)) (hea_cons (he_hg (hg_var 4 rfl)) hea_nil)) ⟨ss, vv, y, hs, Nat.le_refl _, hs.lvl hyn, rfl, rfl⟩)) (.inl rfl)) scLawAges.nd (blkOk_by (N := laN) (sc := defScope sLawAges) (by decide +kernel)) ?_ (fun i d hd => ?_)) ?_)) ?_ B.dict)) rfl (hg_var 4 rfl) ?_)) ?_
      · rw [List.length_map]; omega
      · obtain ⟨z, _, rfl⟩ := List.mem_map.mp (List.mem_of_getElem? hd)
        refine ⟨_, fun s H C cl fp => hb_name 5 scLawAges.nd, rfl, fun s H C cl fp => ?_, fun _ s H C cl fp => he_tup (hea_cons (he_hg (hg_var 5 rfl)) (hea_cons (he_hg hg_int) hea_nil)) (Nat.le_of_ble_eq_true rfl)⟩
        refine ht_eq (ht_cmpG (hg_var 5 rfl) (hg_ix (hg_var 0 rfl) hg_int rfl rfl) (v_inD (k := Sum.inr z) hu rfl)) ?_
        rw [look_pl, Option.isSome_map, aget_isSome]
      · refine congrArg Sl.ol ?_
        simp only [stamp0, itemsD, numD, List.filter_map, List.map_map]
        rfl
      · exact num_nd ((stamp0_ok hs).nd y hyn)
      · simp only [stampD, List.length_map, List.length_take]; omega
      · rw [show (Sl.od (numD (stamp0 ss vv y))).data = D.dct (numD (stamp0 ss vv y)) from rfl, put_stamp_new (nd_not_take hs.nd hy), show (nds ss vv).take (i + 1) = (nds ss vv).take i ++ [y] by rw [List.take_add_one, hy]; rfl]
        exact .s (.s (.s (.s (.w (.s (.s (.s .n)))))))
    rw [List.length_map, List.take_length]
    refine hr_cons (hs_for (is := [6, 4]) (hi_seq (he_weak (he_hg (hg_var 1 rfl)) (dle_lst (dle_map ref_le pl))) (.inl rfl)) (fun i => [some (.sh (netp ss vv)), some (.sh (.lst (pl.map refG))), some (.sh (qryD (t, x, tol))), some (.od (stampD (nds ss vv) ((pl.take i).foldl (fun st r => if r.1 ≤ t then stampF ss vv st r else st) (stamp0 ss vv)))), none, none, none, none]) rfl fun i d hd => ?_) ?_
    · obtain ⟨r, hr1, rfl⟩ : ∃ r, pl[i]? = some r ∧ refD r = d := by
        simp only [List.getElem?_map, Option.map_eq_some_iff] at hd
        exact hd
      have hrn : r.2 ∈ nds ss vv := (a.plan.ok r (List.mem_of_getElem? hr1)).2.2
      have hso := stamps_ok hs t (l := pl.take i) (stamp0_ok hs)
      rw [List.take_add_one, hr1, Option.toList_some, List.foldl_append, List.foldl_cons, List.foldl_nil]
      generalize (pl.take i).foldl (fun st r => if r.1 ≤ t then stampF ss vv st r else st) (stamp0 ss vv) = st at hso ⊢
      have hks : ∀ st : Str → Nums, (stampD (nds ss vv) st).length < 100000 := fun st => by simp only [stampD, List.length_map]; omega
      have hsrc : ∀ b : Bool, decide (r.2 ∈ ss.map (·.1)) = b → (look (srcD ss) (Sum.inr r.2)).isSome = b := fun b h => by rw [look_pl, Option.isSome_map, aget_isSome]; exact h
      refine ⟨_, hb_tup (hbs_cons (hb_name 6 scLawAges.nd) (hbs_cons (hb_name 4 scLawAges.nd) hbs_nil)), .inl ?_⟩
      by_cases z : r.1 ≤ t
      · rw [if_pos z]
        by_cases zs : r.2 ∈ ss.map (·.1)
        · refine hs_le (hs_one (hs_if (t := true) (ht_hw (ht_and (t := true) (u := true) (ht_eq (ht_cmpG (hg_var 6 rfl) (hg_ix (hg_var 2 rfl) hg_int rfl rfl) v_le) (decide_eq_true z)) fun _ => hw_and1 (ht_eq (ht_cmpG (hg_var 4 rfl) (hg_ix (hg_var 0 rfl) hg_int rfl rfl) (v_inD (k := Sum.inr r.2) hu rfl)) (hsrc true (decide_eq_true zs))))) (fun _ => hs_one (hs_dput 3 (ky := Sum.inr r.2) hu (he_sh (he_dict1 (ky := Sum.inr r.2) (hg_var 4 rfl) (hg_var 6 rfl))) rfl (hg_var 4 rfl) (hks st))) fun z => by cases z)) ?_
          rw [show (Sl.od [((Sum.inr r.2 : Key), D.int r.1)]).data = D.dct (numD [(r.2, r.1)]) from rfl, put_stamp hrn, show stampF ss vv st r = updS st r.2 [(r.2, r.1)] by simp only [stampF]; rw [if_pos zs]]
          exact .s (.s (.s (.s (.w (.s (.w (.s .n)))))))
        · have hin4 := ins_len hs r.2
          refine hs_one (hs_if (t := false) (ht_hw (ht_and (t := true) (u := false) (ht_eq (ht_cmpG (hg_var 6 rfl) (hg_ix (hg_var 2 rfl) hg_int rfl rfl) v_le) (decide_eq_true z)) fun _ => hw_and1 (ht_eq (ht_cmpG (hg_var 4 rfl) (hg_ix (hg_var 0 rfl) hg_int rfl rfl) (v_inD (k := Sum.inr r.2) hu rfl)) (hsrc false (decide_eq_false zs))))) (fun z => by cases z) fun _ => hs_one (hs_if (t := true) (ht_eq (ht_cmpG (hg_var 6 rfl) (hg_ix (hg_var 2 rfl) hg_int rfl rfl) v_le) (decide_eq_true z)) (fun _ => ?_) fun z => by cases z))
          refine hs_cons (hs_set 7 he_dict0 scLawAges.nd) ?_
          refine hs_cons (hs_for (is := [5]) (hi_seq (he_sh (s := .ol ((insOf vv r.2).map D.str)) (he_call c2 (hr.mono (by decide)) (hea_cons (he_hg (hg_var 0 rfl)) (hea_cons (he_hg (hg_var 4 rfl)) hea_nil)) ⟨ss, vv, r.2, hs, rfl, rfl⟩)) (.inl rfl)) (fun j => [some (.sh (netp ss vv)), some (.sh (.lst (pl.map refG))), some (.sh (qryD (t, x, tol))), some (.od (stampD (nds ss vv) st)), some (.sh (.str r.2)), none, some (.sh (.int r.1)), some (.od (numD (lateN st ((insOf vv r.2).take j))))]) rfl fun j d hd => ?_) ?_
          · obtain ⟨y, h5, rfl⟩ : ∃ y, (insOf vv r.2)[j]? = some y ∧ D.str y = d := by
              simp only [List.getElem?_map, Option.map_eq_some_iff] at hd
              exact hd
            have hyn : y ∈ nds ss vv := ins_nds hs (List.mem_of_getElem? h5)
            have hly := look_stamp st hyn
            have hle := late_ok hso (l := (insOf vv r.2).take j) (a := []) (fun u hu => ins_nds hs (List.mem_of_mem_take hu)) List.nodup_nil fun y hy => by cases hy
            have hl1 := nd_sub hle.1 hle.2
            have hl2 := hso.len hyn
            rw [List.length_map, List.length_map] at hl1
            refine ⟨_, hb_name 5 scLawAges.nd, .inl ?_⟩
            refine hs_le (hs_one (hs_update 7 (he_hg (hg_get (ky := Sum.inr y) hu (hg_var 3 rfl) (hg_var 5 rfl) rfl hly)) rfl rfl ?_)) ?_
            · simp only [numD, List.length_map]
              unfold lateN
              omega
            · rw [merge_num, show mergeN (lateN st ((insOf vv r.2).take j)) (st y) = lateN st ((insOf vv r.2).take (j + 1)) by unfold lateN; rw [List.take_add_one, h5, Option.toList_some, List.foldl_append]; rfl]
              exact .s (.s (.s (.s (.s (.w (.s (.s .n)))))))
          rw [List.length_map, List.take_length]
          refine hs_le (hs_one (hs_dput 3 (ky := Sum.inr r.2) hu (he_sh (he_take 7 rfl)) rfl (hg_var 4 rfl) (hks st))) ?_
          rw [show (Sl.od (numD (lateN st (insOf vv r.2)))).data = D.dct (numD (lateN st (insOf vv r.2))) from rfl, put_stamp hrn, show stampF ss vv st r = updS st r.2 (lateN st (insOf vv r.2)) by simp only [stampF]; rw [if_neg zs]]
          exact .s (.s (.s (.s (.w (.s (.w (.s .n)))))))
      · rw [if_neg z]
        refine hs_le (hs_one (hs_if (t := false) (ht_hw (ht_and (t := false) (u := false) (ht_eq (ht_cmpG (hg_var 6 rfl) (hg_ix (hg_var 2 rfl) hg_int rfl rfl) v_le) (decide_eq_false z)) fun z => by cases z)) (fun z => by cases z) fun _ => hs_one (hs_if (t := false) (ht_eq (ht_cmpG (hg_var 6 rfl) (hg_ix (hg_var 2 rfl) hg_int rfl rfl) v_le) (decide_eq_false z)) (fun z => by cases z) fun _ => hs_nil))) ?_
        exact .s (.s (.s (.s (.w (.s (.w (.s .n)))))))
    rw [List.length_map, List.take_length]
    have hlk := look_stamp (stampsL ss vv pl t) hx
    have hfl : stampsL ss vv pl t = pl.foldl (fun st r => if r.1 ≤ t then stampF ss vv st r else st) (stamp0 ss vv) := rfl
    rw [← hfl]
    refine hr_ret (he_dictP (ks := numD (lawAges ss vv pl (t, x, tol))) (he_sh (s := .ol (itemsD (numD (lawAges ss vv pl (t, x, tol))))) (he_eq (he_filter (f := fun d => match d with | .str y => .tup [.str y, .int (t - ((stampsL ss vv pl t x).get? y).getD 0)] | _ => .non) (g := fun d => match d with | .str y => ((stampsL ss vv pl t x).get? y).isSome | _ => false) [("_law_name", 4)] [4] (hi_keys (he_hg (hg_ix (hg_var 0 rfl) hg_int rfl rfl))) scLawAges.nd (blkOk_by (N := laN) (sc := defScope sLawAges) (by decide +kernel)) ?_ (fun i d hd => ?_)) ?_)) ?_ B.dict)
    · simp only [keysD, srcD, List.length_map]; omega
    · obtain ⟨y, _, rfl⟩ := src_at hd
      have hly := look_num (stampsL ss vv pl t x) y.1
      refine ⟨_, fun s H C cl fp => hb_name 4 scLawAges.nd, rfl, fun s H C cl fp => ?_, fun hg s H C cl fp => ?_⟩
      · refine ht_eq (ht_cmpG (hg_var 4 rfl) (hg_get (ky := Sum.inr x) hu (hg_var 3 rfl) (hg_ix (hg_var 2 rfl) hg_int rfl rfl) rfl hlk) (v_inD (k := Sum.inr y.1) hu rfl)) ?_
        rw [hly, Option.isSome_map]
      · obtain ⟨k, hk⟩ := Option.isSome_iff_exists.mp hg
        rw [hk] at hly
        refine he_eq (he_tup (hea_cons (he_hg (hg_var 4 rfl)) (hea_cons (he_hg (hg_op (hg_ix (hg_var 2 rfl) hg_int rfl rfl) (hg_get (ky := Sum.inr y.1) hu (hg_get (ky := Sum.inr x) hu (hg_var 3 rfl) (hg_ix (hg_var 2 rfl) hg_int rfl rfl) rfl hlk) (hg_var 4 rfl) rfl hly) v_sub)) hea_nil)) (Nat.le_of_ble_eq_true rfl)) ?_
        dsimp only
        rw [hk]
        rfl
    · refine congrArg Sl.ol ?_
      simp only [lawAges, itemsD, numD, keysD, srcD, List.filter_map, List.map_map]
      rfl
    · refine num_nd ?_
      unfold lawAges
      rw [List.map_map]
      exact (List.map_id _).symm ▸ hs.src.nd.filter _
end
end KX
set_option Elab.async false
set_option linter.all false
set_option maxRecDepth 100000
set_option maxHeartbeats 1000000
namespace KX
open PySem L2 PL
abbrev sLawWorst : Stmt := top 72
theorem scLawWorst : FnScope ["_law_parts", "_law_plan_here", "_law_query_here"] ["_law_parts", "_law_plan_here", "_law_query_here"] (defScope sLawWorst) := ⟨rfl, rfl, rfl, by decide +kernel, rfl, by decide +kernel, by decide +kernel⟩
def LWorstOf : List D → Sl → Prop := fun ds r => ∃ (s : Srcs) (v : Vws) (h : Int) (pl : Pl) (q : Int × Str × Int), AskOk s v h pl q ∧ ds = [netp s v, .lst (pl.map refG), qryD q] ∧ r = .sh (.int (worstV s v pl q))
theorem ages_bel {s : Srcs} {v : Vws} {h : Int} {pl : Pl} {q : Int × Str × Int} (a : AskOk s v h pl q) : ∀ y, Bel v q.2.1 y → y ∈ s.map (·.1) → ((agesL s v pl q).get? y).isSome = true := fun y hb hy => ages_some a.net a.qry.2.2.1 a.qry.1 y ((low_mem a.net a.qry.2.2.1).mpr hb) hy
section
variable {P : Program} {w : World} {K : PySem.W.Frag} {mg : Str → Option Value} {base : Heap} {N : Addr}
theorem ok_lawWorst {f : Addr} {fd : FuncData} (F : Fun K "_law_worst" "_law_worst" sLawWorst f fd) (c1 : Fd P w K mg base 10 "_law_ages" LAges) (c2 : Fd P w K mg base 8 "_law_error" (LErr 7)) : FnOk P w K mg base CX0 11 f fd ["_law_parts", "_law_plan_here", "_law_query_here"] (spR K LWorstOf) := by
  refine fn_ok F scLawWorst (fun ds r h => ?_) fun cdv A outer s H E hr ds r h => ?_
  · obtain ⟨_, _, _, _, _, _, rfl, _⟩ := h
    rfl
  · obtain ⟨ss, vv, h, pl, q, a, rfl, rfl⟩ := h
    have hx := a.qry.2.2.1
    rw [worst_eq a]
    refine hf_r (hr_ret (he_call c2 (hr.mono (by decide)) (hea_cons (he_hg (hg_var 0 rfl)) (hea_cons (he_sh (s := .od (numD (agesL ss vv pl q))) (he_call c1 (hr.mono (by decide)) (hea_cons (he_hg (hg_var 0 rfl)) (hea_cons (he_hg (hg_var 1 rfl)) (hea_cons (he_hg (hg_var 2 rfl)) hea_nil))) ⟨ss, vv, h, pl, q, a, rfl, by rw [ages_eq a]⟩)) (hea_cons (he_hg (hg_ix (hg_var 2 rfl) hg_int rfl rfl)) hea_nil))) ⟨ss, vv, q.2.1, agesL ss vv pl q, a.net, Nat.le_refl _, a.net.lvl hx, ages_bel a, rfl, rfl⟩))
end
end KX
set_option Elab.async false
set_option linter.all false
set_option maxRecDepth 100000
set_option maxHeartbeats 1000000
namespace KX
open PySem L2 PL
abbrev sWorstError : Stmt := top 50
theorem scWorstError : FnScope ["network", "done", "query"] ["network", "done", "query"] (defScope sWorstError) := ⟨rfl, rfl, rfl, by decide +kernel, rfl, by decide +kernel, by decide +kernel⟩
abbrev sHolds : Stmt := top 51
theorem scHolds : FnScope ["network", "done", "query"] ["network", "done", "query"] (defScope sHolds) := ⟨rfl, rfl, rfl, by decide +kernel, rfl, by decide +kernel, by decide +kernel⟩
abbrev sLasts : Stmt := top 53
abbrev ltN : List Str := ["network", "horizon", "plan", "query", "tick", "name", "tolerance", "done", "last"]
theorem scLasts : FnScope ltN ["network", "horizon", "plan", "query"] (defScope sLasts) := ⟨rfl, rfl, rfl, by decide +kernel, rfl, by decide +kernel, by decide +kernel⟩
abbrev sWeighing : Stmt := top 54
abbrev wgN : List Str := ["network", "horizon", "plan", "query", "name", "ages", "error", "source"]
theorem scWeighing : FnScope wgN ["network", "horizon", "plan", "query"] (defScope sWeighing) := ⟨rfl, rfl, rfl, by decide +kernel, rfl, by decide +kernel, by decide +kernel⟩
def NWorstErr (N : Addr) : List D → Sl → Prop := fun ds r => ∃ (s : Srcs) (v : Vws) (h : Int) (pl : Pl) (q : Int × Str × Int), AskOk s v h pl q ∧ ds = [netD N s v, .dtt (doneD pl), qryD q] ∧ r = .sh (.int (worstV s v pl q))
def NHolds (N : Addr) : List D → Sl → Prop := fun ds r => ∃ (s : Srcs) (v : Vws) (h : Int) (pl : Pl) (q : Int × Str × Int), AskOk s v h pl q ∧ ds = [netD N s v, .dtt (doneD pl), qryD q] ∧ r = .sh (.bl (decide (worstV s v pl q ≤ q.2.2)))
/-! ### how long a query holds -/
def runC (p : Nat → Bool) : Nat → Nat → Nat
  | 0, _ => 0
  | n + 1, t => if p t = true then runC p n (t + 1) + 1 else 0
theorem runC_le (p : Nat → Bool) : ∀ n t, runC p n t ≤ n
  | 0, _ => Nat.le_refl _
  | n + 1, t => by
    simp only [runC]
    split
    · exact Nat.succ_le_succ (runC_le p n (t + 1))
    · exact Nat.zero_le _
theorem runC_in {p : Nat → Bool} : ∀ {n t i : Nat}, i < runC p n t → p (t + i) = true
  | 0, t, i, h => by cases h
  | n + 1, t, i, h => by
    simp only [runC] at h
    split at h
    · rename_i z
      cases i with
      | zero => exact z
      | succ i =>
        have := runC_in (p := p) (n := n) (t := t + 1) (i := i) (by omega)
        rw [show t + 1 + i = t + (i + 1) by omega] at this
        exact this
    · cases h
theorem runC_stop {p : Nat → Bool} : ∀ {n t : Nat}, runC p n t < n → p (t + runC p n t) = false
  | 0, t, h => by cases h
  | n + 1, t, h => by
    simp only [runC] at h ⊢
    split at h
    · rename_i z
      rw [if_pos z]
      have := runC_stop (p := p) (n := n) (t := t + 1) (by omega)
      rw [show t + 1 + runC p n (t + 1) = t + (runC p n (t + 1) + 1) by omega] at this
      exact this
    · rename_i z
      rw [if_neg z]
      exact Bool.eq_false_iff.mpr z
def holdB (s : Srcs) (v : Vws) (pl : Pl) (x : Str) (tol : Int) (t : Nat) : Bool := decide (worstV s v pl ((t : Int), x, tol) ≤ tol)
def runsV (s : Srcs) (v : Vws) (h : Int) (pl : Pl) (q : Int × Str × Int) : Nat := runC (holdB s v pl q.2.1 q.2.2) (h.toNat + 1 - q.1.toNat) q.1.toNat
def lastAt (t : Int) (i : Nat) : Option Int := if i = 0 then none else some (t + i - 1)
def lastsV (s : Srcs) (v : Vws) (h : Int) (pl : Pl) (q : Int × Str × Int) : Option Int := lastAt q.1 (runsV s v h pl q)
def NLasts (N : Addr) : List D → Sl → Prop := fun ds r => ∃ s v h pl t q, AskOk s v h pl q ∧ ds = [netD N s v, .int h, seqG t (pl.map refG), qryD q] ∧ r = .sh (optD (lastsV s v h pl q))
theorem ask_at {s : Srcs} {v : Vws} {h : Int} {pl : Pl} {q : Int × Str × Int} (a : AskOk s v h pl q) {t : Int} (h0 : 0 ≤ t) (h1 : t ≤ h) : AskOk s v h pl (t, q.2.1, q.2.2) := ⟨a.net, a.one, a.twelve, a.plan, h0, h1, a.qry.2.2.1, a.qry.2.2.2.1, a.qry.2.2.2.2⟩
/-! ### which sources weigh -/
theorem merge_nil {ag : Nums} (h : (ag.map (·.1)).Nodup) : mergeN [] ag = ag := by
  have key : ∀ (b a : Nums), ((a ++ b).map (·.1)).Nodup → mergeN a b = a ++ b := by
    intro b
    induction b with
    | nil => intro a _; simp [mergeN]
    | cons e r ih =>
      intro a h
      have hno : e.1 ∉ a.map (·.1) := fun hm => by
        rw [List.map_append, List.nodup_append] at h
        exact h.2.2 _ hm _ (by rw [List.map_cons]; exact List.mem_cons_self) rfl
      show mergeN (a.put e.1 e.2) r = _
      rw [nput_new (get_not hno), ih]
      · simp
      · simpa using h
  exact key ag [] h
def olderL (s : Srcs) (v : Vws) (pl : Pl) (q : Int × Str × Int) (y : Str) : Nums := (agesL s v pl q).put y (((agesL s v pl q).get? y).getD 0 + 1)
def weighL (s : Srcs) (v : Vws) (pl : Pl) (q : Int × Str × Int) : List Str := ((agesL s v pl q).map (·.1)).filter fun y => decide (worstV s v pl q < errF s v (olderL s v pl q y) 7 q.2.1)
def NWeighing (N : Addr) : List D → Sl → Prop := fun ds r => ∃ s v h pl t q, AskOk s v h pl q ∧ ds = [netD N s v, .int h, seqG t (pl.map refG), qryD q] ∧ r = .ol ((weighL s v pl q).map D.str)
theorem ages_sub (s : Srcs) (v : Vws) (pl : Pl) (q : Int × Str × Int) : ((agesL s v pl q).map (·.1)).Sublist (s.map (·.1)) := by
  unfold agesL
  rw [List.map_map]
  exact (List.map_id _).symm ▸ List.filter_sublist
theorem older_some {s : Srcs} {v : Vws} {h : Int} {pl : Pl} {q : Int × Str × Int} (a : AskOk s v h pl q) (y : Str) : ∀ z ∈ lowL s v q.2.1, z ∈ s.map (·.1) → ((olderL s v pl q y).get? z).isSome = true := fun z hz hs => by
  unfold olderL
  rw [get_put]
  split
  · rfl
  · exact ages_some a.net a.qry.2.2.1 a.qry.1 z hz hs
section
variable {P : Program} {w : World} {K : PySem.W.Frag} {mg : Str → Option Value} {base : Heap} {N : Addr}
theorem ok_worstError {f : Addr} {fd : FuncData} (F : Fun K "worst_error" "worst_error" sWorstError f fd) (c1 : Fd P w K mg base 3 "worst_errors" (LWorst N)) (c2 : Fd P w K mg base 3 "query_ages" (LQAges N)) : FnOk P w K mg base CX0 4 f fd ["network", "done", "query"] (spR K (NWorstErr N)) := by
  refine fn_ok F scWorstError (fun ds r h => ?_) fun cdv A outer s H E hr ds r h => ?_
  · obtain ⟨_, _, _, _, _, _, rfl, _⟩ := h
    rfl
  · obtain ⟨ss, vv, h, pl, q, a, rfl, rfl⟩ := h
    have hu := hu_of hr
    obtain ⟨q0, q1, hx, _, _⟩ := a.qry
    have h12 := a.twelve
    have hxl : q.2.1 ∈ lowL ss vv q.2.1 := List.mem_append_right _ List.mem_cons_self
    have hlk : look (numD (leastL ss vv pl q)) (Sum.inr q.2.1) = some (.int (worstV ss vv pl q)) := by
      rw [look_num, least_get a hxl, worst_eq a]
      rfl
    exact hf_r (hr_ret (he_get (ky := Sum.inr q.2.1) hu (he_sh (s := .od (numD (leastL ss vv pl q))) (he_call c1 (hr.mono (by decide)) (hea_cons (he_hg (hg_var 0 rfl)) (hea_cons (he_hg (hg_ix (hg_var 2 rfl) hg_int rfl rfl)) (hea_cons (he_sh (s := .od (numD (agesL ss vv pl q))) (he_call c2 (hr.mono (by decide)) (hea_cons (he_hg (hg_var 0 rfl)) (hea_cons (he_hg (hg_var 1 rfl)) (hea_cons (he_hg (hg_var 2 rfl)) hea_nil))) ⟨ss, vv, pl, q, a.net, hx, q0, by omega, rfl, rfl⟩)) hea_nil))) ⟨ss, vv, q.2.1, _, a.net, hx, ages_some a.net hx q0, rfl, rfl⟩)) (hg_ix (hg_var 2 rfl) hg_int rfl rfl) hlk))
theorem ok_holds {f : Addr} {fd : FuncData} (F : Fun K "holds" "holds" sHolds f fd) (c1 : Fd P w K mg base 4 "worst_error" (NWorstErr N)) : FnOk P w K mg base CX0 5 f fd ["network", "done", "query"] (spR K (NHolds N)) := by
  refine fn_ok F scHolds (fun ds r h => ?_) fun cdv A outer s H E hr ds r h => ?_
  · obtain ⟨_, _, _, _, _, _, rfl, _⟩ := h
    rfl
  · obtain ⟨ss, vv, h, pl, q, a, rfl, rfl⟩ := h
    exact hf_r (hr_ret (he_cmp (he_call c1 (hr.mono (by decide)) (hea_cons (he_hg (hg_var 0 rfl)) (hea_cons (he_hg (hg_var 1 rfl)) (hea_cons (he_hg (hg_var 2 rfl)) hea_nil))) ⟨ss, vv, h, pl, q, a, rfl, rfl⟩) (he_hg (hg_ix (hg_var 2 rfl) hg_int rfl rfl)) v_le))
theorem ok_lasts {f : Addr} {fd : FuncData} (F : Fun K "lasts" "lasts" sLasts f fd) (c1 : Fd P w K mg base 6 "check_planned" (NCheckPlanned N)) (c2 : Fd P w K mg base 4 "check_query" (NCheckQuery N)) (c3 : Fd P w K mg base 1 "marked" LMarked) (c4 : Fd P w K mg base 5 "holds" (NHolds N)) : FnOk P w K mg base CX0 7 f fd ["network", "horizon", "plan", "query"] (spR K (NLasts N)) := by
  refine fn_ok F scLasts (fun ds r h => ?_) fun cdv A outer s H E hr ds r h => ?_
  · obtain ⟨_, _, _, _, _, _, _, rfl, _⟩ := h
    rfl
  · obtain ⟨ss, vv, h, pl, tt, q, a, rfl, rfl⟩ := h
    obtain ⟨q0, q1, hx, _, _⟩ := a.qry
    have h12 := a.twelve
    refine hf_r ?_
    refine hr_cons (hs_expr (he_call c1 (hr.mono (by decide)) (hea_cons (he_hg (hg_var 0 rfl)) (hea_cons (he_hg (hg_var 1 rfl)) (hea_cons (he_weak (he_hg (hg_var 2 rfl)) (seq_le tt pl)) hea_nil))) ⟨ss, vv, h, pl, tt, a.net, a.one, a.twelve, a.plan, rfl, rfl⟩)) ?_
    refine hr_cons (hs_expr (he_call c2 (hr.mono (by decide)) (hea_cons (he_hg (hg_var 0 rfl)) (hea_cons (he_hg (hg_var 1 rfl)) (hea_cons (he_hg (hg_var 3 rfl)) hea_nil))) ⟨ss, vv, h, q, a.net, a.qry, rfl, rfl⟩)) ?_
    refine hr_cons (hs_asg (is := [4, 5, 6]) (he_hg (hg_var 3 rfl)) (hb_tup (hbs_cons (hb_name 4 scLasts.nd) (hbs_cons (hb_name 5 scLasts.nd) (hbs_cons (hb_name 6 scLasts.nd) hbs_nil))))) ?_
    refine hr_cons (hs_set 7 (s := .ot (doneD pl)) (he_call c3 (hr.mono (by decide)) (hea_cons (he_hg (hg_var 2 rfl)) hea_nil) ⟨pl, tt, plan_nd a.plan, a.plan.few, rfl, rfl⟩) scLasts.nd) ?_
    refine hr_share 7 rfl rfl ?_
    refine hr_cons (hs_set 8 (he_hg hg_non) scLasts.nd) ?_
    obtain ⟨t, x, tol⟩ := q
    dsimp only at q0 q1 hx
    obtain ⟨t, rfl⟩ := Int.eq_ofNat_of_zero_le q0
    have hle := runC_le (holdB ss vv pl x tol) (h.toNat + 1 - t) t
    have hrv : runsV ss vv h pl ((t : Int), x, tol) = runC (holdB ss vv pl x tol) (h.toNat + 1 - t) t := by
      unfold runsV
      simp only [Int.toNat_natCast]
    unfold lastsV
    rw [hrv]
    refine hr_cons (hs_while (fun i => [some (.sh (netD N ss vv)), some (.sh (.int h)), some (.sh (seqG tt (pl.map refG))), some (.sh (qryD ((t : Int), x, tol))), some (.sh (.int ((t : Int) + i))), some (.sh (.str x)), some (.sh (.int tol)), some (.sh (.dtt (doneD pl))), some (.sh (optD (lastAt (t : Int) i)))]) (runC (holdB ss vv pl x tol) (h.toNat + 1 - t) t) ?_ (fun i hi => ?_) (ρ' := [some (.sh (netD N ss vv)), some (.sh (.int h)), some (.sh (seqG tt (pl.map refG))), some (.sh (qryD ((t : Int), x, tol))), some (.sh (.int ((t : Int) + runC (holdB ss vv pl x tol) (h.toNat + 1 - t) t))), some (.sh (.str x)), some (.sh (.int tol)), some (.sh (.dtt (doneD pl))), some (.sh (optD (lastAt (t : Int) (runC (holdB ss vv pl x tol) (h.toNat + 1 - t) t))))]) ?_) (hr_ret (he_hg (hg_var 8 rfl)))
    · rw [show (t : Int) + ((0 : Nat) : Int) = t by omega]
      rfl
    · have hin := runC_in hi
      have hth : (t : Int) + i ≤ h := by omega
      have ai := ask_at a (t := (t : Int) + i) (by omega) hth
      have hin : decide (worstV ss vv pl ((t : Int) + i, x, tol) ≤ tol) = true := by
        have e : ((t + i : Nat) : Int) = (t : Int) + i := by omega
        unfold holdB at hin
        rw [e] at hin
        exact hin
      refine ⟨_, ht_hw (ht_and (t := true) (u := true) (ht_eq (ht_cmpG (hg_var 4 rfl) (hg_var 1 rfl) v_le) (decide_eq_true hth)) fun _ => hw_and1 (ht_he (he_eq (he_call c4 (hr.mono (by decide)) (hea_cons (he_hg (hg_var 0 rfl)) (hea_cons (he_hg (hg_var 7 rfl)) (hea_cons (he_tup (hea_cons (he_hg (hg_var 4 rfl)) (hea_cons (he_hg (hg_var 5 rfl)) (hea_cons (he_hg (hg_var 6 rfl)) hea_nil))) (Nat.le_of_ble_eq_true rfl)) hea_nil))) ⟨ss, vv, h, pl, _, ai, rfl, rfl⟩) (congrArg (fun b => Sl.sh (.bl b)) hin)))), .inl ?_⟩
      refine hs_cons (hs_set 8 (he_hg (hg_var 4 rfl)) scLasts.nd) (hs_le (hs_one (hs_addI 4 rfl hg_int scLasts.nd)) ?_)
      rw [show ((i + 1 : Nat) : Int) = (i : Int) + 1 by omega, show lastAt (t : Int) (i + 1) = some ((t : Int) + i) by unfold lastAt; rw [if_neg (by omega)]; congr 1; omega, ← Int.add_assoc]
      exact .s (.s (.s (.s (.s (.s (.s (.s (.s .n))))))))
    · by_cases z : runC (holdB ss vv pl x tol) (h.toNat + 1 - t) t < h.toNat + 1 - t
      · have hst := runC_stop z
        generalize runC (holdB ss vv pl x tol) (h.toNat + 1 - t) t = c at hle z hst ⊢
        have hth : (t : Int) + c ≤ h := by omega
        have ai := ask_at a (t := (t : Int) + c) (by omega) hth
        have hst : decide (worstV ss vv pl ((t : Int) + c, x, tol) ≤ tol) = false := by
          have e : ((t + c : Nat) : Int) = (t : Int) + c := by omega
          unfold holdB at hst
          rw [e] at hst
          exact hst
        exact ht_eq (ht_hw (ht_and (t := true) (u := false) (ht_eq (ht_cmpG (hg_var 4 rfl) (hg_var 1 rfl) v_le) (decide_eq_true hth)) fun _ => hw_and1 (ht_he (he_eq (he_call c4 (hr.mono (by decide)) (hea_cons (he_hg (hg_var 0 rfl)) (hea_cons (he_hg (hg_var 7 rfl)) (hea_cons (he_tup (hea_cons (he_hg (hg_var 4 rfl)) (hea_cons (he_hg (hg_var 5 rfl)) (hea_cons (he_hg (hg_var 6 rfl)) hea_nil))) (Nat.le_of_ble_eq_true rfl)) hea_nil))) ⟨ss, vv, h, pl, _, ai, rfl, rfl⟩) (congrArg (fun b => Sl.sh (.bl b)) hst))))) rfl
      · generalize runC (holdB ss vv pl x tol) (h.toNat + 1 - t) t = c at hle z ⊢
        exact ht_eq (ht_hw (ht_and (t := false) (u := false) (ht_eq (ht_cmpG (hg_var 4 rfl) (hg_var 1 rfl) v_le) (decide_eq_false (by omega))) fun z => by cases z)) rfl
end
end KX
set_option Elab.async false
set_option linter.all false
set_option maxRecDepth 100000
set_option maxHeartbeats 1000000
namespace KX
open PySem L2 PL
section
variable {P : Program} {w : World} {K : PySem.W.Frag} {mg : Str → Option Value} {base : Heap} {N : Addr}
theorem ok_weighing {f : Addr} {fd : FuncData} (F : Fun K "weighing" "weighing" sWeighing f fd) (c1 : Fd P w K mg base 6 "check_planned" (NCheckPlanned N)) (c2 : Fd P w K mg base 4 "check_query" (NCheckQuery N)) (c3 : Fd P w K mg base 1 "marked" LMarked) (c4 : Fd P w K mg base 3 "query_ages" (LQAges N)) (c5 : Fd P w K mg base 3 "worst_errors" (LWorst N)) : FnOk P w K mg base CX0 7 f fd ["network", "horizon", "plan", "query"] (spR K (NWeighing N)) := by
  refine fn_ok F scWeighing (fun ds r h => ?_) fun cdv A outer s H E hr ds r h => ?_
  · obtain ⟨_, _, _, _, _, _, _, rfl, _⟩ := h
    rfl
  · obtain ⟨ss, vv, h, pl, tt, q, a, rfl, rfl⟩ := h
    have hu := hu_of hr
    obtain ⟨q0, q1, hx, _, _⟩ := a.qry
    have h12 := a.twelve
    have hlen := a.net.len
    have hxl : q.2.1 ∈ lowL ss vv q.2.1 := List.mem_append_right _ List.mem_cons_self
    have hsub := ages_sub ss vv pl q
    have hand := a.net.src.nd.sublist hsub
    have hal := hsub.length_le
    rw [List.length_map, List.length_map] at hal
    have herr : ∀ ag : Nums, look (numD (errsL ss vv ag (lowL ss vv q.2.1))) (Sum.inr q.2.1) = some (.int (errF ss vv ag 7 q.2.1)) := fun ag => by
      have := errs_get a.net hx ag (lowL ss vv q.2.1).length q.2.1 (by rw [List.take_length]; exact hxl)
      rw [List.take_length] at this
      rw [look_num, this]
      rfl
    refine hf_r ?_
    refine hr_cons (hs_expr (he_call c1 (hr.mono (by decide)) (hea_cons (he_hg (hg_var 0 rfl)) (hea_cons (he_hg (hg_var 1 rfl)) (hea_cons (he_weak (he_hg (hg_var 2 rfl)) (seq_le tt pl)) hea_nil))) ⟨ss, vv, h, pl, tt, a.net, a.one, a.twelve, a.plan, rfl, rfl⟩)) ?_
    refine hr_cons (hs_expr (he_call c2 (hr.mono (by decide)) (hea_cons (he_hg (hg_var 0 rfl)) (hea_cons (he_hg (hg_var 1 rfl)) (hea_cons (he_hg (hg_var 3 rfl)) hea_nil))) ⟨ss, vv, h, q, a.net, a.qry, rfl, rfl⟩)) ?_
    refine hr_cons (hs_set 4 (he_hg (hg_ix (hg_var 3 rfl) hg_int rfl rfl)) scWeighing.nd) ?_
    refine hr_cons (hs_set 5 (s := .od (numD (agesL ss vv pl q))) (he_call c4 (hr.mono (by decide)) (hea_cons (he_hg (hg_var 0 rfl)) (hea_cons (he_sh (s := .ot (doneD pl)) (he_call c3 (hr.mono (by decide)) (hea_cons (he_hg (hg_var 2 rfl)) hea_nil) ⟨pl, tt, plan_nd a.plan, a.plan.few, rfl, rfl⟩)) (hea_cons (he_hg (hg_var 3 rfl)) hea_nil))) ⟨ss, vv, pl, q, a.net, hx, q0, by omega, rfl, rfl⟩) scWeighing.nd) ?_
    refine hr_share 5 rfl rfl ?_
    refine hr_cons (hs_set 6 (he_get (ky := Sum.inr q.2.1) hu (he_sh (s := .od (numD (errsL ss vv (agesL ss vv pl q) (lowL ss vv q.2.1)))) (he_call c5 (hr.mono (by decide)) (hea_cons (he_hg (hg_var 0 rfl)) (hea_cons (he_hg (hg_var 4 rfl)) (hea_cons (he_hg (hg_var 5 rfl)) hea_nil))) ⟨ss, vv, q.2.1, _, a.net, hx, ages_some a.net hx q0, rfl, rfl⟩)) (hg_var 4 rfl) (herr _)) scWeighing.nd) ?_
    refine hr_ret (he_eq (he_filter (f := id) (g := fun d => match d with | .str y => decide (worstV ss vv pl q < errF ss vv (olderL ss vv pl q y) 7 q.2.1) | _ => false) [("source", 7)] [7] (hi_keys (he_hg (hg_var 5 rfl))) scWeighing.nd (blkOk_by (N := wgN) (sc := defScope sWeighing) (by decide +kernel)) ?_ (fun i d hd => ?_)) ?_)
    · simp only [keysD, numD, List.length_map]; omega
    · obtain ⟨y, hy, rfl⟩ : ∃ y, (agesL ss vv pl q)[i]? = some y ∧ D.str y.1 = d := by
        simp only [keysD, numD, List.map_map, List.getElem?_map, Option.map_eq_some_iff] at hd
        exact hd
      have hkm : y.1 ∈ (agesL ss vv pl q).map (·.1) := List.mem_map.mpr ⟨y, List.mem_of_getElem? hy, rfl⟩
      obtain ⟨k, hk⟩ := Option.isSome_iff_exists.mp (get_in hkm)
      have hlk := look_num (agesL ss vv pl q) y.1
      rw [hk] at hlk
      have hold : putD (mergeD [] (numD (agesL ss vv pl q))) (Sum.inr y.1) (.int (k + 1)) = numD (olderL ss vv pl q y.1) := by
        rw [show ([] : List (Key × D)) = numD [] from rfl, merge_num, put_num, merge_nil hand]
        unfold olderL
        rw [hk]
        rfl
      refine ⟨_, fun s H C cl fp => hb_name 7 scWeighing.nd, rfl, fun s H C cl fp => ?_, fun _ s H C cl fp => he_hg (hg_var 7 rfl)⟩
      refine ht_eq (ht_cmp (he_get (ky := Sum.inr q.2.1) hu (he_sh (s := .od (numD (errsL ss vv (olderL ss vv pl q y.1) (lowL ss vv q.2.1)))) (he_call c5 (hr.mono (by decide)) (hea_cons (he_hg (hg_var 0 rfl)) (hea_cons (he_hg (hg_var 4 rfl)) (hea_cons (he_sh (s := .od (numD (olderL ss vv pl q y.1))) (he_eq (he_spread1 (ky := Sum.inr y.1) (hg_var 5 rfl) (hg_var 7 rfl) (hg_op (hg_get (ky := Sum.inr y.1) hu (hg_var 5 rfl) (hg_var 7 rfl) rfl hlk) hg_int v_add) ?_) (congrArg Sl.od hold))) hea_nil))) ⟨ss, vv, q.2.1, _, a.net, hx, older_some a y.1, rfl, rfl⟩)) (hg_var 4 rfl) (herr _)) (he_hg (hg_var 6 rfl)) v_gt) ?_
      · simp only [numD, List.length_map]; omega
      · rw [worst_eq a]
    · simp only [weighL, keysD, numD, List.map_map, List.filter_map, List.map_id]
      rfl
end
end KX
set_option Elab.async false
set_option linter.all false
set_option maxRecDepth 100000
set_option maxHeartbeats 1000000
namespace KX
open PySem L2 PL
abbrev sLawOneRight : Stmt := top 74
abbrev orN : List Str := ["_law_state", "_law_parts", "_law_horizon", "_law_network_here", "_law_plan_here", "_law_turn", "_law_tick", "_law_name", "_law_tolerance", "_law_due", "_law_late", "_law_old", "_law_heavy", "_law_one", "_law_more"]
theorem scLawOneRight : FnScope orN ["_law_state"] (defScope sLawOneRight) := ⟨rfl, rfl, rfl, by decide +kernel, rfl, by decide +kernel, by decide +kernel⟩
def qK (k : Int) : Nat → Int
  | 0 => k
  | n + 1 => qK k n + 1 + 1 + 1 + 1
theorem qK_le (k : Int) : ∀ n, k ≤ qK k n
  | 0 => Int.le_refl _
  | n + 1 => by
    have := qK_le k n
    simp only [qK]
    omega
def hW (ws : List Int) (b k : Int) : Int := 1 + nextV ws b (netVwW ws b k).2.2 9
def oneK (ws : List Int) (b k : Int) : Int := qK (planW ws b 4 (nds (netSrcW ws b k).1 (netVwW ws b k).1) (hW ws b k).toNat ((netVwW ws b k).2.2 + 1)).2 4
def LOne : List D → List D → Sl → List D → Prop := fun l ds r l' => ∃ (ws : List Int) (b k : Int), 0 ≤ b ∧ 0 ≤ k ∧ l = stD ws b k ∧ ds = [] ∧ r = yes ∧ l' = stD ws b (oneK ws b k)
structure ORC (P : Program) (w : World) (K : PySem.W.Frag) (mg : Str → Option Value) (base : Heap) (N : Addr) : Prop where
  net : Fio P w K mg base 5 "_law_network" LNetwork
  next : Fio P w K mg base 3 "_law_next" LNext
  make : Mkd P w K mg base 7 "Network" N NMake
  plan : Fio P w K mg base 4 "_law_plan" LPlanG
  query : Fio P w K mg base 5 "_law_query" LQuery
  lages : Fd P w K mg base 10 "_law_ages" LAges
  lworst : Fd P w K mg base 11 "_law_worst" LWorstOf
  lerr : Fd P w K mg base 8 "_law_error" (LErr 7)
  lasts : Fd P w K mg base 7 "lasts" (NLasts N)
  weigh : Fd P w K mg base 7 "weighing" (NWeighing N)
section
variable {P : Program} {w : World} {K : PySem.W.Frag} {mg : Str → Option Value} {base : Heap} {N : Addr}
theorem ok_oneRight {f : Addr} {fd : FuncData} (F : Fun K "_law_one_right" "_law_one_right" sLawOneRight f fd) (B : Bl mg) (C : ORC P w K mg base N) : FnOk P w K mg base CX0 12 f fd ["_law_state"] (spIo K LOne) := by
  refine fn_okI F scLawOneRight (fun l ds r l' h => ?_) fun cdv A outer s H E hr l ds r l' h => ?_
  · obtain ⟨a, b, c, _, _, _, rfl, _⟩ := h
    rfl
  · obtain ⟨ws, b, k, b0, k0, rfl, rfl, rfl, rfl⟩ := h
    have hu := hu_of hr
    have hu64 := hr.units
    obtain ⟨hs, hs3, hv2, hkk, hsk, hks⟩ := netW_ok ws b k k0
    refine (?_ : HRI _ _ _ _ _)
    have tn9 := nextV_at ws b (netVwW ws b k).2.2 (m := 9) (by decide)
    unfold oneK hW
    refine hri_cons (hs_par (i := 1) (j := 2) (d1 := netp (netSrcW ws b k).1 (netVwW ws b k).1) (d2 := .int (1 + nextV ws b (netVwW ws b k).2.2 9)) (hea_cons (he_callIo 0 C.net (hr.mono (by decide)) rfl rfl (hea_cons (he_hg hg_int) hea_nil) rfl rfl ⟨ws, b, k, b0, k0, rfl, rfl, rfl, rfl⟩) (hea_cons (he_op (he_hg hg_int) (he_callIo 0 C.next (hr.mono (by decide)) rfl rfl (hea_cons (he_hg hg_int) hea_nil) rfl rfl ⟨ws, b, (netVwW ws b k).2.2, 9, b0, by omega, by decide, by decide, rfl, rfl, rfl, rfl⟩) v_add) hea_nil)) (fun h => ps_par rfl scLawOneRight.nd rfl rfl (by decide) rfl rfl h rfl)) ?_
    have hk1 : 0 ≤ (netVwW ws b k).2.2 + 1 := by omega
    obtain ⟨h, hh⟩ : ∃ h, 1 + nextV ws b (netVwW ws b k).2.2 9 = h := ⟨_, rfl⟩
    have h1 : 1 ≤ h := by omega
    have h12 : h ≤ 12 := by omega
    rw [hh]
    generalize (netSrcW ws b k).1 = ss at hs hs3 ⊢
    generalize (netVwW ws b k).1 = vv at hs hv2 ⊢
    generalize (netVwW ws b k).2.2 + 1 = k1 at hk1 ⊢
    clear hsk hks hkk tn9 hh
    have hlen := hs.len
    have hnl : (nds ss vv).length ≤ 8 := by simp only [nds, List.length_append, List.length_map]; exact hlen
    have hsn : ∀ y ∈ nds ss vv, NameOk y := node_names hs
    have hp := plan_ok ws b 4 hs.nd hnl (show 0 ≤ h by omega) h12 k1
    have hpk := (planW_all ws b 4 (nds ss vv) k1 h.toNat).2
    refine hri_cons (hs_par (i := 3) (j := 4) (d1 := netD N ss vv) (d2 := .lst ((planW ws b 4 (nds ss vv) h.toNat k1).1.map refG)) (hea_cons (he_make C.make (hr.mono (by decide)) (hea_cons (he_hg (hg_ix (hg_var 1 rfl) hg_int rfl rfl)) (hea_cons (he_hg (hg_ix (hg_var 1 rfl) hg_int rfl rfl)) hea_nil)) ⟨ss, vv, hs, rfl, rfl⟩) (hea_cons (he_sh (s := .ol ((planW ws b 4 (nds ss vv) h.toNat k1).1.map refG)) (he_callIo 0 C.plan (hr.mono (by decide)) rfl rfl (hea_cons (he_hg (hg_var 1 rfl)) (hea_cons (he_hg (hg_var 2 rfl)) (hea_cons (he_hg hg_int) hea_nil))) rfl rfl ⟨ss, vv, ws, b, k1, h, 4, hs, b0, hk1, h1, h12, by decide, by decide, rfl, rfl, rfl, rfl⟩)) hea_nil)) (fun h => ps_par rfl scLawOneRight.nd rfl rfl (by decide) rfl rfl h rfl)) ?_
    generalize planW ws b 4 (nds ss vv) h.toNat k1 = PP at hp hpk ⊢
    have hk2 : 0 ≤ PP.2 := by omega
    refine hri_cons (hs_for (is := [5]) (hi_range1 (he_hg hg_int) (by decide) (by decide) (by rfl) B.range) (fun n => [some (.io (stD ws b (qK PP.2 n))), some (.sh (netp ss vv)), some (.sh (.int h)), some (.sh (netD N ss vv)), some (.sh (.lst (PP.1.map refG))), none, none, none, none, none, none, none, none, none, none]) rfl fun n d hd => ?_) ?_
    · simp only [rngD, List.getElem?_map, Option.map_eq_some_iff] at hd
      obtain ⟨i', _, rfl⟩ := hd
      have hk3 := qK_le PP.2 n
      have hk3 : 0 ≤ qK PP.2 n := by omega
      simp only [qK]
      generalize qK PP.2 n = k3 at hk3 ⊢
      obtain ⟨q, hq⟩ : ∃ q, qryW ws b (qryNs ss vv) h k3 = q := ⟨_, rfl⟩
      have hqo := qry_ok ws b hs h1 h12 k3
      rw [hq] at hqo
      have a : AskOk ss vv h PP.1 q := ⟨hs, h1, h12, hp, hqo⟩
      refine ⟨_, hb_name 5 scLawOneRight.nd, .inl ?_⟩
      refine hs_cons (hs_asg (is := [6, 7, 8]) (d := qryD q) (by rw [← hq]; exact he_callIo 0 C.query (hr.mono (by decide)) rfl rfl (hea_cons (he_hg (hg_var 1 rfl)) (hea_cons (he_hg (hg_var 2 rfl)) hea_nil)) rfl rfl ⟨ss, vv, ws, b, k3, h, hs, b0, hk3, h1, h12, rfl, rfl, rfl, rfl⟩) (hb_tup (hbs_cons (hb_name 6 scLawOneRight.nd) (hbs_cons (hb_name 7 scLawOneRight.nd) (hbs_cons (hb_name 8 scLawOneRight.nd) hbs_nil))))) ?_
      generalize k3 + 1 + 1 + 1 + 1 = k4
      clear hq hk3 hqo
      obtain ⟨q0, q1, hx, _, _⟩ := a.qry
      obtain ⟨t, x, tol⟩ := q
      dsimp only at q0 q1 hx
      obtain ⟨t, rfl⟩ := Int.eq_ofNat_of_zero_le q0
      refine hs_cons (hs_par (i := 9) (j := 10) (d1 := .non) (d2 := .int (t : Int)) (hea_cons (he_hg hg_non) (hea_cons (he_hg (hg_var 6 rfl)) hea_nil)) (fun h => ps_par rfl scLawOneRight.nd rfl rfl (by decide) rfl rfl h rfl)) ?_
      have hle := runC_le (holdB ss vv PP.1 x tol) (h.toNat + 1 - t) t
      have hrv : runsV ss vv h PP.1 ((t : Int), x, tol) = runC (holdB ss vv PP.1 x tol) (h.toNat + 1 - t) t := by
        unfold runsV
        simp only [Int.toNat_natCast]
      have hlv : lastsV ss vv h PP.1 ((t : Int), x, tol) = lastAt (t : Int) (runC (holdB ss vv PP.1 x tol) (h.toNat + 1 - t) t) := by
        unfold lastsV
        rw [hrv]
      refine hs_cons (hs_while (fun i => [some (.io (stD ws b k4)), some (.sh (netp ss vv)), some (.sh (.int h)), some (.sh (netD N ss vv)), some (.sh (.lst (PP.1.map refG))), some (.sh (.int (0 + (i' : Int)))), some (.sh (.int (t : Int))), some (.sh (.str x)), some (.sh (.int tol)), some (.sh (optD (lastAt (t : Int) i))), some (.sh (.int ((t : Int) + i))), none, none, none, none]) (runC (holdB ss vv PP.1 x tol) (h.toNat + 1 - t) t) ?_ (fun i hi => ?_) (ρ' := [some (.io (stD ws b k4)), some (.sh (netp ss vv)), some (.sh (.int h)), some (.sh (netD N ss vv)), some (.sh (.lst (PP.1.map refG))), some (.sh (.int (0 + (i' : Int)))), some (.sh (.int (t : Int))), some (.sh (.str x)), some (.sh (.int tol)), some (.sh (optD (lastsV ss vv h PP.1 ((t : Int), x, tol)))), some (.sh (.int ((t : Int) + runC (holdB ss vv PP.1 x tol) (h.toNat + 1 - t) t))), none, none, none, none]) ?_) ?_
      · rw [show (t : Int) + ((0 : Nat) : Int) = t by omega]
        rfl
      · have hin := runC_in hi
        have hth : (t : Int) + i ≤ h := by omega
        have ai := ask_at a (t := (t : Int) + i) (by omega) hth
        have hin : decide (worstV ss vv PP.1 ((t : Int) + i, x, tol) ≤ tol) = true := by
          have e : ((t + i : Nat) : Int) = (t : Int) + i := by omega
          unfold holdB at hin
          rw [e] at hin
          exact hin
        refine ⟨_, ht_hw (ht_and (t := true) (u := true) (ht_eq (ht_cmpG (hg_var 10 rfl) (hg_var 2 rfl) v_le) (decide_eq_true hth)) fun _ => hw_and1 (ht_eq (ht_cmp (he_call C.lworst (hr.mono (by decide)) (hea_cons (he_hg (hg_var 1 rfl)) (hea_cons (he_hg (hg_var 4 rfl)) (hea_cons (he_tup (hea_cons (he_hg (hg_var 10 rfl)) (hea_cons (he_hg (hg_var 7 rfl)) (hea_cons (he_hg (hg_var 8 rfl)) hea_nil))) (Nat.le_of_ble_eq_true rfl)) hea_nil))) ⟨ss, vv, h, PP.1, _, ai, rfl, rfl⟩) (he_hg (hg_var 8 rfl)) v_le) hin)), .inl ?_⟩
        refine hs_cons (hs_set 9 (he_hg (hg_var 10 rfl)) scLawOneRight.nd) (hs_le (hs_one (hs_set 10 (he_hg (hg_op (hg_var 10 rfl) hg_int v_add)) scLawOneRight.nd)) ?_)
        rw [show ((i + 1 : Nat) : Int) = (i : Int) + 1 by omega, show lastAt (t : Int) (i + 1) = some ((t : Int) + i) by unfold lastAt; rw [if_neg (by omega)]; congr 1; omega, ← Int.add_assoc]
        repeat (first | exact Le.n | refine Le.s ?_ | refine Le.w ?_)
      · rw [hlv]
        by_cases z : runC (holdB ss vv PP.1 x tol) (h.toNat + 1 - t) t < h.toNat + 1 - t
        · have hst := runC_stop z
          generalize runC (holdB ss vv PP.1 x tol) (h.toNat + 1 - t) t = c at hle z hst ⊢
          have hth : (t : Int) + c ≤ h := by omega
          have ai := ask_at a (t := (t : Int) + c) (by omega) hth
          have hst : decide (worstV ss vv PP.1 ((t : Int) + c, x, tol) ≤ tol) = false := by
            have e : ((t + c : Nat) : Int) = (t : Int) + c := by omega
            unfold holdB at hst
            rw [e] at hst
            exact hst
          exact ht_eq (ht_hw (ht_and (t := true) (u := false) (ht_eq (ht_cmpG (hg_var 10 rfl) (hg_var 2 rfl) v_le) (decide_eq_true hth)) fun _ => hw_and1 (ht_eq (ht_cmp (he_call C.lworst (hr.mono (by decide)) (hea_cons (he_hg (hg_var 1 rfl)) (hea_cons (he_hg (hg_var 4 rfl)) (hea_cons (he_tup (hea_cons (he_hg (hg_var 10 rfl)) (hea_cons (he_hg (hg_var 7 rfl)) (hea_cons (he_hg (hg_var 8 rfl)) hea_nil))) (Nat.le_of_ble_eq_true rfl)) hea_nil))) ⟨ss, vv, h, PP.1, _, ai, rfl, rfl⟩) (he_hg (hg_var 8 rfl)) v_le) hst))) rfl
        · generalize runC (holdB ss vv PP.1 x tol) (h.toNat + 1 - t) t = c at hle z ⊢
          exact ht_eq (ht_hw (ht_and (t := false) (u := false) (ht_eq (ht_cmpG (hg_var 10 rfl) (hg_var 2 rfl) v_le) (decide_eq_false (by omega))) fun z => by cases z)) rfl
      generalize (t : Int) + runC (holdB ss vv PP.1 x tol) (h.toNat + 1 - t) t = late
      clear hlv hrv hle
      refine hs_cons (hs_if (t := false) (ht_cmp (he_call C.lasts (hr.mono (by decide)) (hea_cons (he_hg (hg_var 3 rfl)) (hea_cons (he_hg (hg_var 2 rfl)) (hea_cons (he_tuple (he_hg (hg_var 4 rfl)) (.inl rfl) B.tuple) (hea_cons (he_tup (hea_cons (he_hg (hg_var 6 rfl)) (hea_cons (he_hg (hg_var 7 rfl)) (hea_cons (he_hg (hg_var 8 rfl)) hea_nil))) (Nat.le_of_ble_eq_true rfl)) hea_nil)))) ⟨ss, vv, h, PP.1, true, _, a, rfl, rfl⟩) (he_hg (hg_var 9 rfl)) v_neOpt) (fun z => by cases z) fun _ => hs_nil) ?_
      refine hs_cons (hs_set 11 (s := .od (numD (agesL ss vv PP.1 ((t : Int), x, tol)))) (he_call C.lages (hr.mono (by decide)) (hea_cons (he_hg (hg_var 1 rfl)) (hea_cons (he_hg (hg_var 4 rfl)) (hea_cons (he_tup (hea_cons (he_hg (hg_var 6 rfl)) (hea_cons (he_hg (hg_var 7 rfl)) (hea_cons (he_hg (hg_var 8 rfl)) hea_nil))) (Nat.le_of_ble_eq_true rfl)) hea_nil))) ⟨ss, vv, h, PP.1, _, a, rfl, by rw [ages_eq a]⟩) scLawOneRight.nd) ?_
      refine hs_share 11 rfl rfl ?_
      refine hs_cons (hs_set 12 (he_lst hea_nil (Nat.le_of_ble_eq_true rfl)) scLawOneRight.nd) ?_
      have hsub := ages_sub ss vv PP.1 ((t : Int), x, tol)
      have hal := hsub.length_le
      rw [List.length_map, List.length_map] at hal
      refine hs_cons (hs_for (is := [13]) (hi_keys (he_hg (hg_var 11 rfl))) (fun j => [some (.io (stD ws b k4)), some (.sh (netp ss vv)), some (.sh (.int h)), some (.sh (netD N ss vv)), some (.sh (.lst (PP.1.map refG))), some (.sh (.int (0 + (i' : Int)))), some (.sh (.int (t : Int))), some (.sh (.str x)), some (.sh (.int tol)), some (.sh (optD (lastsV ss vv h PP.1 ((t : Int), x, tol)))), some (.sh (.int late)), some (.sh (.dct (numD (agesL ss vv PP.1 ((t : Int), x, tol))))), some (.ol (((((agesL ss vv PP.1 ((t : Int), x, tol)).map (·.1)).take j).filter fun y => decide (worstV ss vv PP.1 ((t : Int), x, tol) < errF ss vv (olderL ss vv PP.1 ((t : Int), x, tol) y) 7 x)).map D.str)), none, none]) rfl fun j d hd => ?_) ?_
      · obtain ⟨y, hy, rfl⟩ : ∃ y, ((agesL ss vv PP.1 ((t : Int), x, tol)).map (·.1))[j]? = some y ∧ D.str y = d := by
          simp only [keysD, numD, List.map_map, List.getElem?_map, Option.map_eq_some_iff] at hd ⊢
          obtain ⟨e, he, rfl⟩ := hd
          exact ⟨_, ⟨e, he, rfl⟩, rfl⟩
        obtain ⟨kk, hkk⟩ := Option.isSome_iff_exists.mp (get_in (List.mem_of_getElem? hy))
        have hlk := look_num (agesL ss vv PP.1 ((t : Int), x, tol)) y
        rw [hkk] at hlk
        have hold : (agesL ss vv PP.1 ((t : Int), x, tol)).put y (kk + 1) = olderL ss vv PP.1 ((t : Int), x, tol) y := by
          unfold olderL
          rw [hkk]
          rfl
        refine ⟨_, hb_name 13 scLawOneRight.nd, .inl ?_⟩
        refine hs_cons (hs_set 14 (he_dictD (ks := numD (agesL ss vv PP.1 ((t : Int), x, tol))) (hg_var 11 rfl) rfl B.dict) scLawOneRight.nd) ?_
        refine hs_cons (hs_dput 14 (ky := Sum.inr y) hu (he_hg (hg_op (hg_get (ky := Sum.inr y) hu (hg_var 14 rfl) (hg_var 13 rfl) rfl hlk) hg_int v_add)) rfl (hg_var 13 rfl) ?_) ?_
        · simp only [numD, List.length_map]; omega
        rw [put_num, hold]
        refine hs_share 14 rfl rfl ?_
        have hbel : ∀ z, Bel vv x z → z ∈ ss.map (·.1) → ((olderL ss vv PP.1 ((t : Int), x, tol) y).get? z).isSome = true := fun z hz hzs => older_some a y z ((low_mem hs hx).mpr hz) hzs
        have hfl := List.length_filter_le (fun y => decide (worstV ss vv PP.1 ((t : Int), x, tol) < errF ss vv (olderL ss vv PP.1 ((t : Int), x, tol) y) 7 x)) (((agesL ss vv PP.1 ((t : Int), x, tol)).map (·.1)).take j)
        rw [List.length_take, List.length_map] at hfl
        rw [List.take_add_one, hy, Option.toList_some, List.filter_append, List.map_append]
        have hcmp : ∀ c : Bool, decide (worstV ss vv PP.1 ((t : Int), x, tol) < errF ss vv (olderL ss vv PP.1 ((t : Int), x, tol) y) 7 x) = c → decide (errF ss vv (agesL ss vv PP.1 ((t : Int), x, tol)) 7 x < errF ss vv (olderL ss vv PP.1 ((t : Int), x, tol) y) 7 x) = c := fun c hc => by
          rw [worst_eq a] at hc
          exact hc
        cases hc : decide (worstV ss vv PP.1 ((t : Int), x, tol) < errF ss vv (olderL ss vv PP.1 ((t : Int), x, tol) y) 7 x) with
        | true =>
          refine hs_le (hs_one (hs_if (t := true) (ht_eq (ht_cmp (he_call C.lerr (hr.mono (by decide)) (hea_cons (he_hg (hg_var 1 rfl)) (hea_cons (he_hg (hg_var 14 rfl)) (hea_cons (he_hg (hg_var 7 rfl)) hea_nil))) ⟨ss, vv, x, _, hs, Nat.le_refl _, hs.lvl hx, hbel, rfl, rfl⟩) (he_call C.lerr (hr.mono (by decide)) (hea_cons (he_hg (hg_var 1 rfl)) (hea_cons (he_hg (hg_var 11 rfl)) (hea_cons (he_hg (hg_var 7 rfl)) hea_nil))) ⟨ss, vv, x, _, hs, Nat.le_refl _, hs.lvl hx, ages_bel a, rfl, rfl⟩) v_gt) (hcmp true hc)) (fun _ => hs_one (hs_append 12 (he_hg (hg_var 13 rfl)) rfl rfl rfl ?_ (hsl := rfl))) fun z => by cases z)) ?_
          · rw [List.length_map]; omega
          · rw [List.filter_cons_of_pos (p := fun y => decide (worstV ss vv PP.1 ((t : Int), x, tol) < errF ss vv (olderL ss vv PP.1 ((t : Int), x, tol) y) 7 x)) hc]
            repeat (first | exact Le.n | refine Le.s ?_ | refine Le.w ?_)
        | false =>
          refine hs_le (hs_one (hs_if (t := false) (ht_eq (ht_cmp (he_call C.lerr (hr.mono (by decide)) (hea_cons (he_hg (hg_var 1 rfl)) (hea_cons (he_hg (hg_var 14 rfl)) (hea_cons (he_hg (hg_var 7 rfl)) hea_nil))) ⟨ss, vv, x, _, hs, Nat.le_refl _, hs.lvl hx, hbel, rfl, rfl⟩) (he_call C.lerr (hr.mono (by decide)) (hea_cons (he_hg (hg_var 1 rfl)) (hea_cons (he_hg (hg_var 11 rfl)) (hea_cons (he_hg (hg_var 7 rfl)) hea_nil))) ⟨ss, vv, x, _, hs, Nat.le_refl _, hs.lvl hx, ages_bel a, rfl, rfl⟩) v_gt) (hcmp false hc)) (fun z => by cases z) fun _ => hs_nil)) ?_
          rw [List.filter_cons_of_neg (p := fun y => decide (worstV ss vv PP.1 ((t : Int), x, tol) < errF ss vv (olderL ss vv PP.1 ((t : Int), x, tol) y) 7 x)) (by rw [hc]; decide), List.filter_nil, List.map_nil, List.append_nil]
          repeat (first | exact Le.n | refine Le.s ?_ | refine Le.w ?_)
      have hkl : (keysD (numD (agesL ss vv PP.1 ((t : Int), x, tol)))).length = ((agesL ss vv PP.1 ((t : Int), x, tol)).map (·.1)).length := by simp only [keysD, numD, List.length_map]
      rw [hkl, List.take_length]
      refine hs_share 12 rfl rfl ?_
      have sdw : Sd 2 (.lst ((weighL ss vv PP.1 ((t : Int), x, tol)).map D.str)) := sd_names fun y hy => hsn y (List.mem_append_left _ (hsub.subset (List.mem_filter.mp hy).1))
      refine hs_le (hs_one (hs_if (t := false) (ht_cmp (he_sh (s := .ol ((weighL ss vv PP.1 ((t : Int), x, tol)).map D.str)) (he_call C.weigh (hr.mono (by decide)) (hea_cons (he_hg (hg_var 3 rfl)) (hea_cons (he_hg (hg_var 2 rfl)) (hea_cons (he_hg (hg_var 4 rfl)) (hea_cons (he_tup (hea_cons (he_hg (hg_var 6 rfl)) (hea_cons (he_hg (hg_var 7 rfl)) (hea_cons (he_hg (hg_var 8 rfl)) hea_nil))) (Nat.le_of_ble_eq_true rfl)) hea_nil)))) ⟨ss, vv, h, PP.1, false, _, a, rfl, rfl⟩)) (he_hg (hg_var 12 rfl)) (v_neSame hu64 sdw.1 (sdw.shaped (by decide)))) (fun z => by cases z) fun _ => hs_nil)) ?_
      repeat (first | exact Le.n | refine Le.s ?_ | refine Le.w ?_)
    rw [show (rngD 0 (4 : Int).toNat).length = 4 from rfl]
    exact hri_ret (he_hg hg_bl) rfl
end
end KX
set_option Elab.async false
set_option linter.all false
set_option maxRecDepth 100000
set_option maxHeartbeats 1000000
namespace KX
open PySem L2 PL
abbrev sLaw : Stmt := top 75
theorem scLaw : FnScope ["_law_script", "_law_by"] ["_law_script"] (defScope sLaw) := ⟨rfl, rfl, rfl, by decide +kernel, rfl, by decide +kernel, by decide +kernel⟩
theorem steps4 {m : Int} (h1 : 1 ≤ m) (h2 : m ≤ 24) : ∃ n : Nat, n ≤ 6 ∧ RgC 0 m 4 n := by
  obtain ⟨k, rfl⟩ := Int.eq_ofNat_of_zero_le (show 0 ≤ m by omega)
  have hk : k ≤ 24 := by omega
  have : ∀ k : Nat, k ≤ 24 → Builtin.Range.small 0 (k : Int) 4 = true ∧ Builtin.Range.rangeSize 0 (k : Int) 4 = (((k + 3) / 4 : Nat) : Int) := by decide
  obtain ⟨a, b⟩ := this k hk
  exact ⟨(k + 3) / 4, by omega, by decide, by decide, a, b⟩
section
variable {P : Program} {w : World} {K : PySem.W.Frag} {mg : Str → Option Value} {base : Heap} {N : Addr}
def spLaw (K : PySem.W.Frag) : Sp := fun vs H Q _ => ∃ (a : Addr) (ns : List Int), vs = [.ref a] ∧ SqL K H a (ns.map V.int) ∧ ∀ H', Q (.bl true) H'
theorem law_start {H : Hp} {a : Addr} {ws : List Int} (hS : SqL K H a (ws.map V.int)) : ∃ G, Ok K ⟨H, G, 0⟩ G H [some (V.ref a), none] [some (.sh (.klst (ws.map D.int))), none] := by
  have key : ∀ G : Hp, Sub G H → Nf G → (G a = some (.lst (ws.map V.int)) ∨ SqL K E0' a (ws.map V.int)) → Ok K ⟨H, G, 0⟩ G H [some (V.ref a), none] [some (.sh (.klst (ws.map D.int))), none] := fun G s n h => ⟨Hk.start s n 0, rfl, (fun i sl e => by
    match i with
    | 0 =>
      cases e
      refine ⟨_, rfl, ?_⟩
      simp only [SlOk, Rep]
      exact ⟨a, ws.map V.int, rfl, h, repL_ints'⟩
    | 1 => cases e
    | n + 2 => cases e), (fun i j s t p e e' o => by
    match i with
    | 0 => cases e; cases o
    | 1 => cases e
    | n + 2 => cases e)⟩
  rcases hS with hS | hS
  · refine ⟨fun b => if b = a then some (.lst (ws.map V.int)) else none, key _ (fun b o e => ?_) (fun b o u e => ?_) (.inl (if_pos rfl))⟩
    · have e : (if b = a then some (HO.lst (ws.map V.int)) else none) = some o := e
      by_cases z : b = a
      · subst z
        rw [if_pos rfl] at e
        cases e
        rcases hS with hS | ⟨u, hS⟩
        · exact .inl hS
        · exact .inr ⟨⟨u, hS⟩, fun _ _ _ z => HO.noConfusion z, fun _ _ z => HO.noConfusion z, fun _ z => HO.noConfusion z⟩
      · rw [if_neg z] at e; cases e
    · have e : (if b = a then some (HO.lst (ws.map V.int)) else none) = some (.frz o u) := e
      by_cases z : b = a
      · rw [if_pos z] at e; cases e
      · rw [if_neg z] at e; cases e
  · exact ⟨E0', key _ (fun _ _ e => by cases e) (fun _ _ _ e => by cases e) (.inr (.inr hS))⟩
theorem ok_law {f : Addr} {fd : FuncData} (F : Fun K "law" "law" sLaw f fd) (B : Bl mg) (c1 : Fio P w K mg base 12 "_law_one_right" LOne) : FnOk P w K mg base CX0 14 f fd ["_law_script"] (spLaw K) := by
  refine F.ok scLaw (fun vs H Q E h => ?_) fun cdv A outer s H vs Q E hr h => ?_
  · obtain ⟨a, ns, rfl, _⟩ := h
    rfl
  · obtain ⟨a, ws, rfl, hS, kk⟩ := h
    refine ⟨_, pss_wss, ?_⟩
    obtain ⟨G, ok0⟩ := law_start hS
    suffices main : HR (cxOf CX0 P w K mg base ["_law_script", "_law_by"] "law" (defScope sLaw) f cdv A outer s H E).nox (defBody sLaw) [some (.sh (.klst (ws.map D.int))), none] yes by
      obtain ⟨ρ', hs⟩ := main
      exact hs ⟨H, G, 0⟩ G H _ _ ok0 fun v σ G' H' ok' rr => by
        rw [show v = .bl true from bl_of rr.ok]
        exact kk H'
    obtain ⟨m, hm⟩ : ∃ m : Int, (if (if ((ws.map D.int).length : Int) < 24 then ((ws.map D.int).length : Int) else 24) > 1 then (if ((ws.map D.int).length : Int) < 24 then ((ws.map D.int).length : Int) else 24) else 1) = m := ⟨_, rfl⟩
    have hm1 : 1 ≤ m ∧ m ≤ 24 := by
      rw [← hm]
      split <;> split <;> omega
    obtain ⟨n, hn, hR⟩ := steps4 hm1.1 hm1.2
    refine hr_cons (hs_for (is := [1]) (hi_range3 (i := 0) (j := m) (w := 4) (n := n) (hea_cons (he_hg hg_int) (hea_cons (he_eq (he_hg (hg_callB (hga_cons hg_int (hga_cons (hg_callB (hga_cons hg_int (hga_cons (hg_callB (hga_cons (hg_var 0 rfl) hga_nil) c_lenK (by rfl) B.len PySem.boot_len) hga_nil)) (c_min2 rfl) (by rfl) B.min PyProof.Rows.boot_min) hga_nil)) (c_max2 rfl) (by rfl) B.max PyProof.Rows.boot_max)) (by rw [← hm])) (hea_cons (he_hg hg_int) hea_nil))) hR (by rfl) B.range) (fun _ => [some (.sh (.klst (ws.map D.int))), none]) rfl fun i d hd => ?_) ?_
    · simp only [List.getElem?_map, Option.map_eq_some_iff] at hd
      obtain ⟨i', hi, rfl⟩ := hd
      refine ⟨_, hb_name 1 scLaw.nd, .inl ?_⟩
      refine hs_skip (ht_not (t := true) (ht_he (he_callIoT (r := yes) c1 (hr.mono (by decide)) (he_eq (he_lst (hea_cons (he_hg (hg_var 0 rfl)) (hea_cons (he_hg (hg_var 1 rfl)) (hea_cons (he_hg hg_int) hea_nil))) (Nat.le_of_ble_eq_true rfl)) rfl) ⟨ws, 0 + (i' : Int) * 4, 0, by omega, by decide, rfl, rfl, rfl, rfl⟩))) (hs_le hs_nil ?_)
      exact .s (.w .n)
    exact hr_ret (he_hg hg_bl)
end
end KX
set_option Elab.async false
set_option linter.all false
set_option maxRecDepth 100000
set_option maxHeartbeats 1000000
namespace KX
open PySem L2 PL
/-! ### the end -/
section
variable {P : Program} {w : World} {K : PySem.W.Frag} {h : Heap} {mg : Str → Option Value} {base : Heap} {N : Addr} {x qual : Str} {st : Stmt} {ps : List Str} {k : Nat}
def GF (K : PySem.W.Frag) (mg : Str → Option Value) (x qual : Str) (st : Stmt) : Prop := ∃ f fd, Fun K x qual st f fd ∧ mg x = some (.ref f)
def GM (K : PySem.W.Frag) (N : Addr) (x qual : Str) (st : Stmt) : Prop := ∃ f fd, Fun K x qual st f fd ∧ Meth K N x f
def GI (K : PySem.W.Frag) (N : Addr) (qual : Str) (st : Stmt) : Prop := ∃ f fd, Fun K "__init__" qual st f fd ∧ Mk K N f
theorem fd_of {Fn : List D → Sl → Prop} (g : GF K mg x qual st) (hok : ∀ {f : Addr} {fd : FuncData}, Fun K x qual st f fd → FnOk P w K mg base CX0 k f fd ps (spR K Fn)) (hb : ∀ {f : Addr} {fd : FuncData}, Fun K x qual st f fd → Binds K fd ps []) : Fd P w K mg base k x Fn :=
  let ⟨f, fd, F, hm⟩ := g; ⟨f, fd, ps, hok F, hm, F.kp, hb F⟩
theorem fio_of {Fn : List D → List D → Sl → List D → Prop} (g : GF K mg x qual st) (hok : ∀ {f : Addr} {fd : FuncData}, Fun K x qual st f fd → FnOk P w K mg base CX0 k f fd ps (spIo K Fn)) (hb : ∀ {f : Addr} {fd : FuncData}, Fun K x qual st f fd → Binds K fd ps []) : Fio P w K mg base k x Fn :=
  let ⟨f, fd, F, hm⟩ := g; ⟨f, fd, ps, hok F, hm, F.kp, hb F⟩
theorem md_of {Fn : List D → Sl → Prop} (g : GM K N x qual st) (hok : ∀ {f : Addr} {fd : FuncData}, Fun K x qual st f fd → FnOk P w K mg base CX0 k f fd ps (spR K Fn)) (hb : ∀ {f : Addr} {fd : FuncData}, Fun K x qual st f fd → Binds K fd ps []) : Md P w K mg base k N x Fn :=
  let ⟨f, fd, F, hm⟩ := g; ⟨f, fd, ps, hok F, hm, hb F⟩
theorem mkd_of {Fn : List D → List (Str × D) → Prop} (hN : mg x = some (.ref N)) (g : GI K N qual st) (hok : ∀ {f : Addr} {fd : FuncData}, Fun K "__init__" qual st f fd → FnOk P w K mg base CX0 k f fd ps (spI K N Fn)) (hb : ∀ {f : Addr} {fd : FuncData}, Fun K "__init__" qual st f fd → Binds K fd ps []) : Mkd P w K mg base k x N Fn :=
  let ⟨f, fd, F, hm⟩ := g; ⟨f, fd, ps, hok F, hm, hN, hb F⟩
theorem gf_mk {f : Addr} {oc : Value} {od an : Option Addr} {osl : Array (Option Value)} {kV doc pm cdv ct : Value} (X : K.In h) (G : h.Ns mainGlobals mg) (a : PySem.W.nsIn K mainGlobals x = some (some (.ref f)))
    (l : K.lookup f = some ⟨oc, od, .func (PySem.W.fnOf x qual (defArgs st) (defBody st) (defScope st) .none kV doc pm an cdv ct), osl⟩) (c : PySem.W.codeIn K cdv qual = true) (k : PySem.W.keepIn K (.ref f) = true) : GF K mg x qual st :=
  ⟨f, _, fun_mk l c k, PySem.W.mg_of X G a⟩
theorem gm_mk {f : Addr} {oc : Value} {od an : Option Addr} {osl : Array (Option Value)} {kV doc pm cdv ct : Value} (a : PySem.W.findIn K (.ref N) x = some (some (.ref f))) (i : PySem.W.isFn K (.ref f) = true)
    (l : K.lookup f = some ⟨oc, od, .func (PySem.W.fnOf x qual (defArgs st) (defBody st) (defScope st) .none kV doc pm an cdv ct), osl⟩) (c : PySem.W.codeIn K cdv qual = true) (k : PySem.W.keepIn K (.ref f) = true) : GM K N x qual st :=
  ⟨f, _, fun_mk l c k, ⟨a, i, k⟩⟩
theorem gi_mk {f : Addr} {oc : Value} {od an : Option Addr} {osl : Array (Option Value)} {kV doc pm cdv ct : Value} (m : PySem.W.makesIn K N = true) (a : PySem.W.findIn K (.ref N) "__init__" = some (some (.ref f))) (i : PySem.W.isFn K (.ref f) = true)
    (l : K.lookup f = some ⟨oc, od, .func (PySem.W.fnOf "__init__" qual (defArgs st) (defBody st) (defScope st) .none kV doc pm an cdv ct), osl⟩) (c : PySem.W.codeIn K cdv qual = true) (k : PySem.W.keepIn K (.ref f) = true) (kc : PySem.W.keepIn K (.ref N) = true) : GI K N qual st :=
  ⟨f, _, fun_mk l c k, ⟨m, a, i, kc⟩⟩
theorem ci_mk {n : Int} {t : Nat} (X : K.In h) (G : h.Ns mainGlobals mg) (a : PySem.W.nsIn K mainGlobals x = some (some (.int n t))) : ∃ t, mg x = some (.int n t) := ⟨t, PySem.W.mg_of X G a⟩
theorem cs_mk {z : Str} {t : Nat} (X : K.In h) (G : h.Ns mainGlobals mg) (a : PySem.W.nsIn K mainGlobals x = some (some (.str z t))) : ∃ t, mg x = some (.str z t) := ⟨t, PySem.W.mg_of X G a⟩
theorem ck_mk {f : Addr} {od : Option Addr} {osl : Array (Option Value)} {its : Array Value} {n : Nat} {xs : List V} (X : K.In h) (G : h.Ns mainGlobals mg) (a : PySem.W.nsIn K mainGlobals x = some (some (.ref f))) (l : K.lookup f = some ⟨.type "tuple", od, .seq its n, osl⟩) (z : its.size ≤ sizeLine) (r : Vals xs its.toList) : ∃ a, mg x = some (.ref a) ∧ SqT K E0' a xs :=
  ⟨f, PySem.W.mg_of X G a, .inr ⟨_, its, n, l, rfl, rfl, z, r⟩⟩
/-- what the top has left -/
structure Tps (K : PySem.W.Frag) (mg : Str → Option Value) (N : Addr) : Prop where
  bl : Bl mg
  cs : Cs K mg
  nc : NetC K N
  hN : mg "Network" = some (.ref N)
  kt : PySem.W.kitAny K (.type "list") [.type "list", .type "tuple"] = some true
  kt2 : PySem.W.kitAny K (.type "tuple") [.type "list", .type "tuple"] = some true
  d_is_whole : GF K mg "is_whole" "is_whole" sIsWhole
  d_is_number : GF K mg "is_number" "is_number" sIsNumber
  d_is_tuple_of : GF K mg "is_tuple_of" "is_tuple_of" sIsTupleOf
  d_is_name : GF K mg "is_name" "is_name" sIsName
  d_is_term : GF K mg "is_term" "is_term" sIsTerm
  d_is_formula : GF K mg "is_formula" "is_formula" sIsFormula
  d_formula_inputs : GF K mg "formula_inputs" "formula_inputs" sFormulaInputs
  d_is_cost : GF K mg "is_cost" "is_cost" sIsCost
  d_is_source : GF K mg "is_source" "is_source" sIsSource
  d_is_view : GF K mg "is_view" "is_view" sIsView
  d_check_sources : GF K mg "check_sources" "check_sources" sCheckSources
  d_check_views : GF K mg "check_views" "check_views" sCheckViews
  make : GI K N "Network.__init__" sNetworkInit
  m_sources : GM K N "sources" "Network.sources" sNetworkSources
  m_views : GM K N "views" "Network.views" sNetworkViews
  m_names : GM K N "names" "Network.names" sNetworkNames
  m_below : GM K N "below" "Network.below" sNetworkBelow
  d_check_network : GF K mg "check_network" "check_network" sCheckNetwork
  d_check_horizon : GF K mg "check_horizon" "check_horizon" sCheckHorizon
  d_is_node : GF K mg "is_node" "is_node" sIsNode
  d_is_refresh : GF K mg "is_refresh" "is_refresh" sIsRefresh
  d_is_query : GF K mg "is_query" "is_query" sIsQuery
  d_is_plan : GF K mg "is_plan" "is_plan" sIsPlan
  d_check_plan : GF K mg "check_plan" "check_plan" sCheckPlan
  d__law_cell_at : GF K mg "_law_cell_at" "_law_cell_at" sLawCellAt
  d__law_draw : GF K mg "_law_draw" "_law_draw" sLawDraw
  d__law_number : GF K mg "_law_number" "_law_number" sLawNumber
  d__law_next : GF K mg "_law_next" "_law_next" sLawNext
  d__law_pick : GF K mg "_law_pick" "_law_pick" sLawPick
  d__law_network : GF K mg "_law_network" "_law_network" sLawNetwork
  d__law_inputs : GF K mg "_law_inputs" "_law_inputs" sLawInputs
  d__law_under : GF K mg "_law_under" "_law_under" sLawUnder
  d__law_query : GF K mg "_law_query" "_law_query" sLawQuery
  d_marked : GF K mg "marked" "marked" sMarked
  d_last_refresh : GF K mg "last_refresh" "last_refresh" sLastRefresh
  d_widened : GF K mg "widened" "widened" sWidened
  d_worst_errors : GF K mg "worst_errors" "worst_errors" sWorstErrors
  d_query_ages : GF K mg "query_ages" "query_ages" sQueryAges
  d_check_planned : GF K mg "check_planned" "check_planned" sCheckPlanned
  d_check_query : GF K mg "check_query" "check_query" sCheckQuery
  d__law_plan : GF K mg "_law_plan" "_law_plan" sLawPlan
  d__law_error : GF K mg "_law_error" "_law_error" sLawError
  d__law_ages : GF K mg "_law_ages" "_law_ages" sLawAges
  d__law_worst : GF K mg "_law_worst" "_law_worst" sLawWorst
  d_worst_error : GF K mg "worst_error" "worst_error" sWorstError
  d_holds : GF K mg "holds" "holds" sHolds
  d_lasts : GF K mg "lasts" "lasts" sLasts
  d_weighing : GF K mg "weighing" "weighing" sWeighing
  d__law_one_right : GF K mg "_law_one_right" "_law_one_right" sLawOneRight
theorem all_ok (T : Tps K mg N) : Fio P w K mg base 12 "_law_one_right" LOne := by
  have d_is_whole : Fd P w K mg base 1 "is_whole" FIsWhole := fd_of T.d_is_whole (fun F => ok_is_whole F T.bl) (fun F => F.binds (ps := ["thing"]) fun _ _ _ _ _ _ us hl => match us, hl with | [_], _ => rfl)
  have d_is_number : Fd P w K mg base 2 "is_number" FIsNumber := fd_of T.d_is_number (fun F => ok_is_number F d_is_whole) (fun F => F.binds (ps := ["thing", "low", "high"]) fun _ _ _ _ _ _ us hl => match us, hl with | [_, _, _], _ => rfl)
  have d_is_tuple_of : Fd P w K mg base 1 "is_tuple_of" FIsTupleOf := fd_of T.d_is_tuple_of (fun F => ok_is_tuple_of F T.bl) (fun F => F.binds (ps := ["thing", "many"]) fun _ _ _ _ _ _ us hl => match us, hl with | [_, _], _ => rfl)
  have d_is_name : Fd P w K mg base 1 "is_name" FIsName := fd_of T.d_is_name (fun F => ok_is_name F T.bl T.cs.LETTERS T.cs.MOST_LETTERS) (fun F => F.binds (ps := ["thing"]) fun _ _ _ _ _ _ us hl => match us, hl with | [_], _ => rfl)
  have d_is_term : Fd P w K mg base 3 "is_term" FIsTerm := fd_of T.d_is_term (fun F => ok_is_term F T.bl T.cs d_is_tuple_of d_is_name d_is_number) (fun F => F.binds (ps := ["thing"]) fun _ _ _ _ _ _ us hl => match us, hl with | [_], _ => rfl)
  have d_is_formula : Fd P w K mg base 4 "is_formula" FIsFormula := fd_of T.d_is_formula (fun F => ok_is_formula F T.bl T.cs d_is_tuple_of d_is_name d_is_term) (fun F => F.binds (ps := ["thing"]) fun _ _ _ _ _ _ us hl => match us, hl with | [_], _ => rfl)
  have d_formula_inputs : Fd P w K mg base 1 "formula_inputs" FFormulaInputs := fd_of T.d_formula_inputs (fun F => ok_formula_inputs F T.bl) (fun F => F.binds (ps := ["formula"]) fun _ _ _ _ _ _ us hl => match us, hl with | [_], _ => rfl)
  have d_is_cost : Fd P w K mg base 3 "is_cost" FIsCost := fd_of T.d_is_cost (fun F => ok_is_cost F T.cs d_is_number) (fun F => F.binds (ps := ["thing"]) fun _ _ _ _ _ _ us hl => match us, hl with | [_], _ => rfl)
  have d_is_source : Fd P w K mg base 4 "is_source" FIsSource := fd_of T.d_is_source (fun F => ok_is_source F T.cs d_is_tuple_of d_is_name d_is_number d_is_cost) (fun F => F.binds (ps := ["name", "pair"]) fun _ _ _ _ _ _ us hl => match us, hl with | [_, _], _ => rfl)
  have d_is_view : Fd P w K mg base 5 "is_view" FIsView := fd_of T.d_is_view (fun F => ok_is_view F T.cs d_is_tuple_of d_is_name d_is_formula d_is_cost) (fun F => F.binds (ps := ["name", "pair"]) fun _ _ _ _ _ _ us hl => match us, hl with | [_, _], _ => rfl)
  have d_check_sources : Fd P w K mg base 5 "check_sources" FCheckSources := fd_of T.d_check_sources (fun F => ok_check_sources F T.bl T.cs d_is_source) (fun F => F.binds (ps := ["sources"]) fun _ _ _ _ _ _ us hl => match us, hl with | [_], _ => rfl)
  have d_check_views : Fd P w K mg base 6 "check_views" FCheckViews := fd_of T.d_check_views (fun F => ok_check_views F T.bl T.cs d_is_view d_formula_inputs) (fun F => F.binds (ps := ["sources", "views"]) fun _ _ _ _ _ _ us hl => match us, hl with | [_, _], _ => rfl)
  have make : Mkd P w K mg base 7 "Network" N NMake := mkd_of T.hN T.make (fun F => ok_net_init F T.bl T.nc d_check_sources d_check_views) (fun F => F.binds (ps := ["self", "sources", "views"]) fun _ _ _ _ _ _ us hl => match us, hl with | [_, _, _], _ => rfl)
  have m_sources : Md P w K mg base 1 N "sources" (NSources N) := md_of T.m_sources (fun F => ok_net_sources F T.bl T.nc) (fun F => F.binds (ps := ["self"]) fun _ _ _ _ _ _ us hl => match us, hl with | [_], _ => rfl)
  have m_views : Md P w K mg base 1 N "views" (NViews N) := md_of T.m_views (fun F => ok_net_views F T.bl T.nc) (fun F => F.binds (ps := ["self"]) fun _ _ _ _ _ _ us hl => match us, hl with | [_], _ => rfl)
  have m_names : Md P w K mg base 1 N "names" (NName N) := md_of T.m_names (fun F => ok_net_names F T.bl T.nc) (fun F => F.binds (ps := ["self"]) fun _ _ _ _ _ _ us hl => match us, hl with | [_], _ => rfl)
  have m_below : Md P w K mg base 2 N "below" (NBelow N) := md_of T.m_below (fun F => ok_net_below F T.bl T.nc d_formula_inputs m_names) (fun F => F.binds (ps := ["self", "name"]) fun _ _ _ _ _ _ us hl => match us, hl with | [_, _], _ => rfl)
  have d_check_network : Fd P w K mg base 1 "check_network" (NCheckNetwork N) := fd_of T.d_check_network (fun F => ok_check_network F T.bl T.nc T.hN) (fun F => F.binds (ps := ["network"]) fun _ _ _ _ _ _ us hl => match us, hl with | [_], _ => rfl)
  have d_check_horizon : Fd P w K mg base 3 "check_horizon" FCheckHorizon := fd_of T.d_check_horizon (fun F => ok_check_horizon F T.cs d_is_number) (fun F => F.binds (ps := ["horizon"]) fun _ _ _ _ _ _ us hl => match us, hl with | [_], _ => rfl)
  have d_is_node : Fd P w K mg base 2 "is_node" (NIsNode N) := fd_of T.d_is_node (fun F => ok_is_node F T.bl T.nc m_names) (fun F => F.binds (ps := ["network", "thing"]) fun _ _ _ _ _ _ us hl => match us, hl with | [_, _], _ => rfl)
  have d_is_refresh : Fd P w K mg base 3 "is_refresh" (NIsRefresh N) := fd_of T.d_is_refresh (fun F => ok_is_refresh F d_is_tuple_of d_is_node d_is_number) (fun F => F.binds (ps := ["network", "horizon", "thing"]) fun _ _ _ _ _ _ us hl => match us, hl with | [_, _, _], _ => rfl)
  have d_is_query : Fd P w K mg base 3 "is_query" (NIsQuery N) := fd_of T.d_is_query (fun F => ok_is_query F T.cs d_is_tuple_of d_is_node d_is_number) (fun F => F.binds (ps := ["network", "horizon", "thing"]) fun _ _ _ _ _ _ us hl => match us, hl with | [_, _, _], _ => rfl)
  have d_is_plan : Fd P w K mg base 4 "is_plan" (NIsPlan N) := fd_of T.d_is_plan (fun F => ok_is_plan F T.bl T.nc T.kt T.kt2 d_is_refresh m_names) (fun F => F.binds (ps := ["network", "horizon", "thing"]) fun _ _ _ _ _ _ us hl => match us, hl with | [_, _, _], _ => rfl)
  have d_check_plan : Fd P w K mg base 5 "check_plan" (NCheckPlan N) := fd_of T.d_check_plan (fun F => ok_check_plan F d_is_plan) (fun F => F.binds (ps := ["network", "horizon", "plan"]) fun _ _ _ _ _ _ us hl => match us, hl with | [_, _, _], _ => rfl)
  have d__law_cell_at : Fd P w K mg base 1 "_law_cell_at" LCell := fd_of T.d__law_cell_at (fun F => ok_cell_at F T.bl) (fun F => F.binds (ps := ["_law_script", "_law_k"]) fun _ _ _ _ _ _ us hl => match us, hl with | [_, _], _ => rfl)
  have d__law_draw : Fd P w K mg base 1 "_law_draw" FDraw := fd_of T.d__law_draw (fun F => ok_draw F ) (fun F => F.binds (ps := ["_law_cell", "_law_k", "_law_below"]) fun _ _ _ _ _ _ us hl => match us, hl with | [_, _, _], _ => rfl)
  have d__law_number : Fd P w K mg base 2 "_law_number" LNumber := fd_of T.d__law_number (fun F => ok_number F T.bl d__law_draw) (fun F => F.binds (ps := ["_law_cell", "_law_k", "_law_below"]) fun _ _ _ _ _ _ us hl => match us, hl with | [_, _, _], _ => rfl)
  have d__law_next : Fio P w K mg base 3 "_law_next" LNext := fio_of T.d__law_next (fun F => ok_next F d__law_cell_at d__law_number) (fun F => F.binds (ps := ["_law_state", "_law_below"]) fun _ _ _ _ _ _ us hl => match us, hl with | [_, _], _ => rfl)
  have d__law_pick : Fio P w K mg base 4 "_law_pick" LPick := fio_of T.d__law_pick (fun F => ok_pick F T.bl d__law_next) (fun F => F.binds (ps := ["_law_state", "_law_things"]) fun _ _ _ _ _ _ us hl => match us, hl with | [_, _], _ => rfl)
  have d__law_network : Fio P w K mg base 5 "_law_network" LNetwork := fio_of T.d__law_network (fun F => ok_network F T.bl d__law_next d__law_pick) (fun F => F.binds (ps := ["_law_state", "_law_most"]) fun _ _ _ _ _ _ us hl => match us, hl with | [_, _], _ => rfl)
  have d__law_inputs : Fd P w K mg base 1 "_law_inputs" LInputs := fd_of T.d__law_inputs (fun F => ok_lawInputs F T.bl) (fun F => F.binds (ps := ["_law_parts", "_law_name"]) fun _ _ _ _ _ _ us hl => match us, hl with | [_, _], _ => rfl)
  have d__law_under_ : ∀ n : Nat, Fd P w K mg base (2 + n) "_law_under" (LUnder n) := by
    intro n
    induction n with
    | zero => exact fd_of T.d__law_under (fun F => ok_lawUnder F d__law_inputs 0 fun m h => by cases h) (fun F => F.binds (ps := ["_law_parts", "_law_name"]) fun _ _ _ _ _ _ us hl => match us, hl with | [_, _], _ => rfl)
    | succ n ih => exact fd_of T.d__law_under (fun F => ok_lawUnder F d__law_inputs (n + 1) fun m h => by cases h; exact ih) (fun F => F.binds (ps := ["_law_parts", "_law_name"]) fun _ _ _ _ _ _ us hl => match us, hl with | [_, _], _ => rfl)
  have d__law_under : Fd P w K mg base (2 + 7) "_law_under" (LUnder 7) := d__law_under_ 7
  have d__law_query : Fio P w K mg base 5 "_law_query" LQuery := fio_of T.d__law_query (fun F => ok_lawQuery F T.bl d__law_next d__law_pick) (fun F => F.binds (ps := ["_law_state", "_law_parts", "_law_horizon"]) fun _ _ _ _ _ _ us hl => match us, hl with | [_, _, _], _ => rfl)
  have d_marked : Fd P w K mg base 1 "marked" LMarked := fd_of T.d_marked (fun F => ok_marked F ) (fun F => F.binds (ps := ["plan"]) fun _ _ _ _ _ _ us hl => match us, hl with | [_], _ => rfl)
  have d_last_refresh : Fd P w K mg base 1 "last_refresh" LLast := fd_of T.d_last_refresh (fun F => ok_lastRefresh F ) (fun F => F.binds (ps := ["done", "name", "tick"]) fun _ _ _ _ _ _ us hl => match us, hl with | [_, _, _], _ => rfl)
  have d_widened : Fd P w K mg base 1 "widened" FWidened := fd_of T.d_widened (fun F => ok_widened F T.bl) (fun F => F.binds (ps := ["formula", "known"]) fun _ _ _ _ _ _ us hl => match us, hl with | [_, _], _ => rfl)
  have d_worst_errors : Fd P w K mg base 3 "worst_errors" (LWorst N) := fd_of T.d_worst_errors (fun F => ok_worst_errors F T.nc d_widened m_sources m_views m_below) (fun F => F.binds (ps := ["network", "name", "ages"]) fun _ _ _ _ _ _ us hl => match us, hl with | [_, _, _], _ => rfl)
  have d_query_ages : Fd P w K mg base 3 "query_ages" (LQAges N) := fd_of T.d_query_ages (fun F => ok_query_ages F T.bl T.nc d_last_refresh d_formula_inputs m_sources m_views m_below) (fun F => F.binds (ps := ["network", "done", "query"]) fun _ _ _ _ _ _ us hl => match us, hl with | [_, _, _], _ => rfl)
  have d_check_planned : Fd P w K mg base 6 "check_planned" (NCheckPlanned N) := fd_of T.d_check_planned (fun F => ok_check_planned F d_check_network d_check_horizon d_check_plan) (fun F => F.binds (ps := ["network", "horizon", "plan"]) fun _ _ _ _ _ _ us hl => match us, hl with | [_, _, _], _ => rfl)
  have d_check_query : Fd P w K mg base 4 "check_query" (NCheckQuery N) := fd_of T.d_check_query (fun F => ok_check_query F d_is_query) (fun F => F.binds (ps := ["network", "horizon", "query"]) fun _ _ _ _ _ _ us hl => match us, hl with | [_, _, _], _ => rfl)
  have d__law_plan : Fio P w K mg base 4 "_law_plan" LPlanG := fio_of T.d__law_plan (fun F => ok_lawPlanG F T.bl d__law_next) (fun F => F.binds (ps := ["_law_state", "_law_parts", "_law_horizon", "_law_luck"]) fun _ _ _ _ _ _ us hl => match us, hl with | [_, _, _, _], _ => rfl)
  have d__law_error_ : ∀ n : Nat, Fd P w K mg base (1 + n) "_law_error" (LErr n) := by
    intro n
    induction n with
    | zero => exact fd_of T.d__law_error (fun F => ok_lawError F T.bl 0 fun m h => by cases h) (fun F => F.binds (ps := ["_law_parts", "_law_spans", "_law_name"]) fun _ _ _ _ _ _ us hl => match us, hl with | [_, _, _], _ => rfl)
    | succ n ih => exact fd_of T.d__law_error (fun F => ok_lawError F T.bl (n + 1) fun m h => by cases h; exact ih) (fun F => F.binds (ps := ["_law_parts", "_law_spans", "_law_name"]) fun _ _ _ _ _ _ us hl => match us, hl with | [_, _, _], _ => rfl)
  have d__law_error : Fd P w K mg base (1 + 7) "_law_error" (LErr 7) := d__law_error_ 7
  have d__law_ages : Fd P w K mg base 10 "_law_ages" LAges := fd_of T.d__law_ages (fun F => ok_lawAges F T.bl d__law_under d__law_inputs) (fun F => F.binds (ps := ["_law_parts", "_law_plan_here", "_law_query_here"]) fun _ _ _ _ _ _ us hl => match us, hl with | [_, _, _], _ => rfl)
  have d__law_worst : Fd P w K mg base 11 "_law_worst" LWorstOf := fd_of T.d__law_worst (fun F => ok_lawWorst F d__law_ages d__law_error) (fun F => F.binds (ps := ["_law_parts", "_law_plan_here", "_law_query_here"]) fun _ _ _ _ _ _ us hl => match us, hl with | [_, _, _], _ => rfl)
  have d_worst_error : Fd P w K mg base 4 "worst_error" (NWorstErr N) := fd_of T.d_worst_error (fun F => ok_worstError F d_worst_errors d_query_ages) (fun F => F.binds (ps := ["network", "done", "query"]) fun _ _ _ _ _ _ us hl => match us, hl with | [_, _, _], _ => rfl)
  have d_holds : Fd P w K mg base 5 "holds" (NHolds N) := fd_of T.d_holds (fun F => ok_holds F d_worst_error) (fun F => F.binds (ps := ["network", "done", "query"]) fun _ _ _ _ _ _ us hl => match us, hl with | [_, _, _], _ => rfl)
  have d_lasts : Fd P w K mg base 7 "lasts" (NLasts N) := fd_of T.d_lasts (fun F => ok_lasts F d_check_planned d_check_query d_marked d_holds) (fun F => F.binds (ps := ["network", "horizon", "plan", "query"]) fun _ _ _ _ _ _ us hl => match us, hl with | [_, _, _, _], _ => rfl)
  have d_weighing : Fd P w K mg base 7 "weighing" (NWeighing N) := fd_of T.d_weighing (fun F => ok_weighing F d_check_planned d_check_query d_marked d_query_ages d_worst_errors) (fun F => F.binds (ps := ["network", "horizon", "plan", "query"]) fun _ _ _ _ _ _ us hl => match us, hl with | [_, _, _, _], _ => rfl)
  have d__law_one_right : Fio P w K mg base 12 "_law_one_right" LOne := fio_of T.d__law_one_right (fun F => ok_oneRight F T.bl { net := d__law_network, next := d__law_next, make := make, plan := d__law_plan, query := d__law_query, lages := d__law_ages, lworst := d__law_worst, lerr := d__law_error, lasts := d_lasts, weigh := d_weighing }) (fun F => F.binds (ps := ["_law_state"]) fun _ _ _ _ _ _ us hl => match us, hl with | [_], _ => rfl)
  exact d__law_one_right
end
end KX
set_option Elab.async false
set_option linter.all false
set_option maxRecDepth 100000
namespace KX
open PySem L2 PL
theorem kt_list {K : PySem.W.Frag} : PySem.W.kitAny K (.type "list") [.type "list", .type "tuple"] = some true := by
  have h := kit_ty (K := K) (a := "list") (b := "list") (r := true) (by decide +kernel)
  simp [PySem.W.kitAny, h]
theorem kt_tuple {K : PySem.W.Frag} : PySem.W.kitAny K (.type "tuple") [.type "list", .type "tuple"] = some true := by
  have h := kit_ty (K := K) (a := "tuple") (b := "list") (r := false) (by decide +kernel)
  have h2 := kit_ty (K := K) (a := "tuple") (b := "tuple") (r := true) (by decide +kernel)
  simp [PySem.W.kitAny, h, h2]
theorem kt_self {K : PySem.W.Frag} {C : Addr} : PySem.W.kitOne K (.ref C) (.ref C) = some true := if_pos (beq_self_eq_true _)
theorem walk {l : PySem.W.OpenLaw} {q : Program} {loose : List Str} {XP : (Str → Option Value) → Heap → Prop} {YP : World → Heap → Prop} {d : DefRec} {K : Params → PySem.W.Frag} (hn : l.most = some 63) (hdf : d.params.defaults = [])
    (hY : ∀ (w : World) (h : Heap), YP w h → (K w.params).In h)
    (F : ∀ (w : World) (mg : Str → Option Value) (fa : Addr) (h : Heap), (K w.params).In h → h.Ns mainGlobals mg → mg d.name = some (.ref fa) →
      ∃ fd : FuncData, (∀ (s : Shared) (u : Value), BindsTo s fd ⟨[u], []⟩ [("_law_script", u)]) ∧ ∀ base : Heap, (K w.params).In base → base.Ns mainGlobals mg → FnOk l.prog w (K w.params) mg base CX0 14 fa fd ["_law_script"] (spLaw (K w.params))) :
    PySem.W.WalkO q loose XP YP l.row.toRowW d [] (fun f vs => PySem.call f vs) :=
  L2.walk_of (n := 63) (k := 14) (x := "_law_script") (CX := fun _ => CX0) (sp := fun w => spLaw (K w.params)) hn (by decide) hdf ⟨rfl, by decide, by decide⟩ hY F (fun _ _ a ns hl _ hS => ⟨a, ns, rfl, hS, fun _ => rfl⟩) fun _ _ _ _ _ z => z
theorem fin {P : Program} {w : World} {K : PySem.W.Frag} {h : Heap} {mg : Str → Option Value} {N fa : Addr} (X : K.In h) (G : h.Ns mainGlobals mg) (hfa : mg "law" = some (.ref fa)) (aN : PySem.W.nsIn K mainGlobals "Network" = some (some (.ref N)))
    (gl : GF K mg "law" "law" sLaw) (T : mg "Network" = some (.ref N) → Tps K mg N) : ∃ fd : FuncData, (∀ (s : Shared) (u : Value), BindsTo s fd ⟨[u], []⟩ [("_law_script", u)]) ∧ ∀ base : Heap, K.In base → base.Ns mainGlobals mg → FnOk P w K mg base CX0 14 fa fd ["_law_script"] (spLaw K) := by
  obtain ⟨f, fd, F, hm⟩ := gl
  have T := T (PySem.W.mg_of X G aN)
  have e := hfa.symm.trans hm
  cases e
  refine ⟨fd, ?_, fun base _ _ => ok_law F T.bl (all_ok T)⟩
  obtain ⟨oc, od, kV, doc, pm, an, cdv, ct, osl, rfl, _, _⟩ := F.ex
  exact fun s v => .of_eq rfl
end KX

open PySem PySem.W PyProof.Rows in
set_option maxRecDepth 100000 in
set_option maxHeartbeats 0 in
theorem PySem.Challenge.cw_fewrefresh_k13_whole_expiry_holds : PySem.Challenge.rw_fewrefresh_k13_whole_expiry.Holds := by
  w_on; o_law; k_head; (case hw => w_witness2)
  k_fill
  refine KX.walk (l := PySem.Challenge.rw_fewrefresh_k13_whole_expiry) rfl rfl (fun w h Y => PySem.W.kIn_of Y) ?F
  case F =>
    intro w mg fa h hK G hmg
    refine' KX.fin hK G hmg ?aN ?gl ?T
    (case aN => k_is)
    (case gl => refine' KX.gf_mk hK G ?a ?l ?c ?k; (case a => k_is); (case l => k_is); (case c => k_is); (case k => k_is))
    intro hN
    refine' { hN := hN, kt := KX.kt_list, kt2 := KX.kt_tuple, bl := ?bl, cs := ?cs, nc := ?nc, d_is_whole := ?d_is_whole, d_is_number := ?d_is_number, d_is_tuple_of := ?d_is_tuple_of, d_is_name := ?d_is_name, d_is_term := ?d_is_term, d_is_formula := ?d_is_formula, d_formula_inputs := ?d_formula_inputs, d_is_cost := ?d_is_cost, d_is_source := ?d_is_source, d_is_view := ?d_is_view, d_check_sources := ?d_check_sources, d_check_views := ?d_check_views, make := ?make, m_sources := ?m_sources, m_views := ?m_views, m_names := ?m_names, m_below := ?m_below, d_check_network := ?d_check_network, d_check_horizon := ?d_check_horizon, d_is_node := ?d_is_node, d_is_refresh := ?d_is_refresh, d_is_query := ?d_is_query, d_is_plan := ?d_is_plan, d_check_plan := ?d_check_plan, d__law_cell_at := ?d__law_cell_at, d__law_draw := ?d__law_draw, d__law_number := ?d__law_number, d__law_next := ?d__law_next, d__law_pick := ?d__law_pick, d__law_network := ?d__law_network, d__law_inputs := ?d__law_inputs, d__law_under := ?d__law_under, d__law_query := ?d__law_query, d_marked := ?d_marked, d_last_refresh := ?d_last_refresh, d_widened := ?d_widened, d_worst_errors := ?d_worst_errors, d_query_ages := ?d_query_ages, d_check_planned := ?d_check_planned, d_check_query := ?d_check_query, d__law_plan := ?d__law_plan, d__law_error := ?d__law_error, d__law_ages := ?d__law_ages, d__law_worst := ?d__law_worst, d_worst_error := ?d_worst_error, d_holds := ?d_holds, d_lasts := ?d_lasts, d_weighing := ?d_weighing, d__law_one_right := ?d__law_one_right }
    (case bl => refine' ⟨mg_none_of hK G ?b0, mg_none_of hK G ?b1, mg_none_of hK G ?b2, mg_none_of hK G ?b3, mg_none_of hK G ?b4, mg_none_of hK G ?b5, mg_none_of hK G ?b6, mg_none_of hK G ?b7, mg_none_of hK G ?b8, mg_none_of hK G ?b9, mg_none_of hK G ?b10, mg_none_of hK G ?b11, mg_none_of hK G ?b12, mg_none_of hK G ?b13, mg_none_of hK G ?b14, mg_none_of hK G ?b15, mg_none_of hK G ?b16, mg_none_of hK G ?b17⟩; (case b0 => k_is); (case b1 => k_is); (case b2 => k_is); (case b3 => k_is); (case b4 => k_is); (case b5 => k_is); (case b6 => k_is); (case b7 => k_is); (case b8 => k_is); (case b9 => k_is); (case b10 => k_is); (case b11 => k_is); (case b12 => k_is); (case b13 => k_is); (case b14 => k_is); (case b15 => k_is); (case b16 => k_is); (case b17 => k_is))
    (case cs => refine' ⟨KX.cs_mk hK G ?c0, KX.ci_mk hK G ?c1, KX.ck_mk hK G ?ka ?kl ?kz ?kr, KX.ci_mk hK G ?c3, KX.ci_mk hK G ?c4, KX.ci_mk hK G ?c5, KX.ci_mk hK G ?c6, KX.ci_mk hK G ?c7, KX.ci_mk hK G ?c8, KX.ci_mk hK G ?c9, KX.ci_mk hK G ?c10, KX.ci_mk hK G ?c11⟩; (case c0 => k_is); (case c1 => k_is); (case ka => k_is); (case kl => k_is); (case kz => decide); (case kr => exact .cons ⟨_, rfl⟩ (.cons ⟨_, rfl⟩ (.cons ⟨_, rfl⟩ .nil))); (case c3 => k_is); (case c4 => k_is); (case c5 => k_is); (case c6 => k_is); (case c7 => k_is); (case c8 => k_is); (case c9 => k_is); (case c10 => k_is); (case c11 => k_is))
    (case nc => refine' ⟨⟨?pg, ?hd, ?po, ?sa⟩, ⟨⟨?pg2, ?hd2, ?po2, ?sa2⟩, ?ha, ?hn, ?ht, ?hm, KX.kt_self⟩, ?n1, ?n2⟩; (case pg => k_is); (case hd => k_is); (case po => k_is); (case sa => k_is); (case pg2 => k_is); (case hd2 => k_is); (case po2 => k_is); (case sa2 => k_is); (case ha => k_is); (case hn => k_is); (case ht => k_is); (case hm => k_is); (case n1 => unfold L2.NoAttr; k_is); (case n2 => unfold L2.NoAttr; k_is))
    (case d_is_whole => refine' KX.gf_mk hK G ?a ?l ?c ?k; (case a => k_is); (case l => k_is); (case c => k_is); (case k => k_is))
    (case d_is_number => refine' KX.gf_mk hK G ?a ?l ?c ?k; (case a => k_is); (case l => k_is); (case c => k_is); (case k => k_is))
    (case d_is_tuple_of => refine' KX.gf_mk hK G ?a ?l ?c ?k; (case a => k_is); (case l => k_is); (case c => k_is); (case k => k_is))
    (case d_is_name => refine' KX.gf_mk hK G ?a ?l ?c ?k; (case a => k_is); (case l => k_is); (case c => k_is); (case k => k_is))
    (case d_is_term => refine' KX.gf_mk hK G ?a ?l ?c ?k; (case a => k_is); (case l => k_is); (case c => k_is); (case k => k_is))
    (case d_is_formula => refine' KX.gf_mk hK G ?a ?l ?c ?k; (case a => k_is); (case l => k_is); (case c => k_is); (case k => k_is))
    (case d_formula_inputs => refine' KX.gf_mk hK G ?a ?l ?c ?k; (case a => k_is); (case l => k_is); (case c => k_is); (case k => k_is))
    (case d_is_cost => refine' KX.gf_mk hK G ?a ?l ?c ?k; (case a => k_is); (case l => k_is); (case c => k_is); (case k => k_is))
    (case d_is_source => refine' KX.gf_mk hK G ?a ?l ?c ?k; (case a => k_is); (case l => k_is); (case c => k_is); (case k => k_is))
    (case d_is_view => refine' KX.gf_mk hK G ?a ?l ?c ?k; (case a => k_is); (case l => k_is); (case c => k_is); (case k => k_is))
    (case d_check_sources => refine' KX.gf_mk hK G ?a ?l ?c ?k; (case a => k_is); (case l => k_is); (case c => k_is); (case k => k_is))
    (case d_check_views => refine' KX.gf_mk hK G ?a ?l ?c ?k; (case a => k_is); (case l => k_is); (case c => k_is); (case k => k_is))
    (case make => refine' KX.gi_mk ?m ?a ?i ?l ?c ?k ?kc; (case m => k_is); (case a => k_is); (case i => k_is); (case l => k_is); (case c => k_is); (case k => k_is); (case kc => k_is))
    (case m_sources => refine' KX.gm_mk ?a ?i ?l ?c ?k; (case a => k_is); (case i => k_is); (case l => k_is); (case c => k_is); (case k => k_is))
    (case m_views => refine' KX.gm_mk ?a ?i ?l ?c ?k; (case a => k_is); (case i => k_is); (case l => k_is); (case c => k_is); (case k => k_is))
    (case m_names => refine' KX.gm_mk ?a ?i ?l ?c ?k; (case a => k_is); (case i => k_is); (case l => k_is); (case c => k_is); (case k => k_is))
    (case m_below => refine' KX.gm_mk ?a ?i ?l ?c ?k; (case a => k_is); (case i => k_is); (case l => k_is); (case c => k_is); (case k => k_is))
    (case d_check_network => refine' KX.gf_mk hK G ?a ?l ?c ?k; (case a => k_is); (case l => k_is); (case c => k_is); (case k => k_is))
    (case d_check_horizon => refine' KX.gf_mk hK G ?a ?l ?c ?k; (case a => k_is); (case l => k_is); (case c => k_is); (case k => k_is))
    (case d_is_node => refine' KX.gf_mk hK G ?a ?l ?c ?k; (case a => k_is); (case l => k_is); (case c => k_is); (case k => k_is))
    (case d_is_refresh => refine' KX.gf_mk hK G ?a ?l ?c ?k; (case a => k_is); (case l => k_is); (case c => k_is); (case k => k_is))
    (case d_is_query => refine' KX.gf_mk hK G ?a ?l ?c ?k; (case a => k_is); (case l => k_is); (case c => k_is); (case k => k_is))
    (case d_is_plan => refine' KX.gf_mk hK G ?a ?l ?c ?k; (case a => k_is); (case l => k_is); (case c => k_is); (case k => k_is))
    (case d_check_plan => refine' KX.gf_mk hK G ?a ?l ?c ?k; (case a => k_is); (case l => k_is); (case c => k_is); (case k => k_is))
    (case d__law_cell_at => refine' KX.gf_mk hK G ?a ?l ?c ?k; (case a => k_is); (case l => k_is); (case c => k_is); (case k => k_is))
    (case d__law_draw => refine' KX.gf_mk hK G ?a ?l ?c ?k; (case a => k_is); (case l => k_is); (case c => k_is); (case k => k_is))
    (case d__law_number => refine' KX.gf_mk hK G ?a ?l ?c ?k; (case a => k_is); (case l => k_is); (case c => k_is); (case k => k_is))
    (case d__law_next => refine' KX.gf_mk hK G ?a ?l ?c ?k; (case a => k_is); (case l => k_is); (case c => k_is); (case k => k_is))
    (case d__law_pick => refine' KX.gf_mk hK G ?a ?l ?c ?k; (case a => k_is); (case l => k_is); (case c => k_is); (case k => k_is))
    (case d__law_network => refine' KX.gf_mk hK G ?a ?l ?c ?k; (case a => k_is); (case l => k_is); (case c => k_is); (case k => k_is))
    (case d__law_inputs => refine' KX.gf_mk hK G ?a ?l ?c ?k; (case a => k_is); (case l => k_is); (case c => k_is); (case k => k_is))
    (case d__law_under => refine' KX.gf_mk hK G ?a ?l ?c ?k; (case a => k_is); (case l => k_is); (case c => k_is); (case k => k_is))
    (case d__law_query => refine' KX.gf_mk hK G ?a ?l ?c ?k; (case a => k_is); (case l => k_is); (case c => k_is); (case k => k_is))
    (case d_marked => refine' KX.gf_mk hK G ?a ?l ?c ?k; (case a => k_is); (case l => k_is); (case c => k_is); (case k => k_is))
    (case d_last_refresh => refine' KX.gf_mk hK G ?a ?l ?c ?k; (case a => k_is); (case l => k_is); (case c => k_is); (case k => k_is))
    (case d_widened => refine' KX.gf_mk hK G ?a ?l ?c ?k; (case a => k_is); (case l => k_is); (case c => k_is); (case k => k_is))
    (case d_worst_errors => refine' KX.gf_mk hK G ?a ?l ?c ?k; (case a => k_is); (case l => k_is); (case c => k_is); (case k => k_is))
    (case d_query_ages => refine' KX.gf_mk hK G ?a ?l ?c ?k; (case a => k_is); (case l => k_is); (case c => k_is); (case k => k_is))
    (case d_check_planned => refine' KX.gf_mk hK G ?a ?l ?c ?k; (case a => k_is); (case l => k_is); (case c => k_is); (case k => k_is))
    (case d_check_query => refine' KX.gf_mk hK G ?a ?l ?c ?k; (case a => k_is); (case l => k_is); (case c => k_is); (case k => k_is))
    (case d__law_plan => refine' KX.gf_mk hK G ?a ?l ?c ?k; (case a => k_is); (case l => k_is); (case c => k_is); (case k => k_is))
    (case d__law_error => refine' KX.gf_mk hK G ?a ?l ?c ?k; (case a => k_is); (case l => k_is); (case c => k_is); (case k => k_is))
    (case d__law_ages => refine' KX.gf_mk hK G ?a ?l ?c ?k; (case a => k_is); (case l => k_is); (case c => k_is); (case k => k_is))
    (case d__law_worst => refine' KX.gf_mk hK G ?a ?l ?c ?k; (case a => k_is); (case l => k_is); (case c => k_is); (case k => k_is))
    (case d_worst_error => refine' KX.gf_mk hK G ?a ?l ?c ?k; (case a => k_is); (case l => k_is); (case c => k_is); (case k => k_is))
    (case d_holds => refine' KX.gf_mk hK G ?a ?l ?c ?k; (case a => k_is); (case l => k_is); (case c => k_is); (case k => k_is))
    (case d_lasts => refine' KX.gf_mk hK G ?a ?l ?c ?k; (case a => k_is); (case l => k_is); (case c => k_is); (case k => k_is))
    (case d_weighing => refine' KX.gf_mk hK G ?a ?l ?c ?k; (case a => k_is); (case l => k_is); (case c => k_is); (case k => k_is))
    (case d__law_one_right => refine' KX.gf_mk hK G ?a ?l ?c ?k; (case a => k_is); (case l => k_is); (case c => k_is); (case k => k_is))
