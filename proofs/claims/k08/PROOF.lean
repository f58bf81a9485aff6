import PyProof.Rows.All
import Wide.All
import OpenK.AllK
import Wide.FinOn
import HandS.ForMost
import HandS.ForExc
import HandS.IsInst
import HandS.TupAny
import HandS.Wide
import HandS.Conv
import HandS.Defaults
import HandS.MakeKw
import HandS.Flow
import HandS.Codes
import HandS.OwnEq
import HandS.EndBits
import PyProof.ReprRoads
import HandS.MakeKwOnly
import HandS.Style
import PySem.Challenge.RW_mathboxes_k08_whole_boxes_moved_and_toge
set_option Elab.async false
set_option linter.all false
set_option maxRecDepth 100000
set_option maxHeartbeats 1000000
set_option autoImplicit false
/-! Values by what they hold: a layer over the heap rules. -/
namespace DL
open PySem L2

/-- a value by what it holds -/
inductive D where
  | non | bl (b : Bool) | int (i : Int) | str (x : Str) | ty (n : String) | adr (a : Addr)
  | tup (xs : List D) | lst (xs : List D) | ins (C : Addr) (fs : List (Str × D))

mutual
inductive Dat (K : PySem.W.Frag) (F : Hp) : V → D → Prop
  | non : Dat K F .non .non
  | bl (b : Bool) : Dat K F (.bl b) (.bl b)
  | int (i : Int) : Dat K F (.int i) (.int i)
  | str (x : Str) : Dat K F (.str x) (.str x)
  | ty (n : String) : Dat K F (.ty n) (.ty n)
  | adr (a : Addr) : Dat K F (.ref a) (.adr a)
  | tup {a : Addr} {vs : List V} {ds : List D} : SqT K F a vs → DatL K F vs ds → Dat K F (.ref a) (.tup ds)
  | lst {a : Addr} {vs : List V} {ds : List D} : F a = some (.lst vs) → DatL K F vs ds → Dat K F (.ref a) (.lst ds)
  | ins {a C dx : Addr} {fs : List (Str × V)} {gs : List (Str × D)} : F a = some (.ins C dx fs) → DatF K F fs gs → Dat K F (.ref a) (.ins C gs)
inductive DatL (K : PySem.W.Frag) (F : Hp) : List V → List D → Prop
  | nil : DatL K F [] []
  | cons {v : V} {vs : List V} {d : D} {ds : List D} : Dat K F v d → DatL K F vs ds → DatL K F (v :: vs) (d :: ds)
inductive DatF (K : PySem.W.Frag) (F : Hp) : List (Str × V) → List (Str × D) → Prop
  | nil : DatF K F [] []
  | cons {x : Str} {v : V} {vs : List (Str × V)} {d : D} {ds : List (Str × D)} : Dat K F v d → DatF K F vs ds → DatF K F ((x, v) :: vs) ((x, d) :: ds)
end

theorem sqT_mono {K : PySem.W.Frag} {F F' : Hp} (e : Same F F') {a : Addr} {xs : List V} (h : SqT K F a xs) : SqT K F' a xs := by
  rcases h with (h | ⟨o, h⟩) | h
  · exact .inl (.inl (e _ _ h))
  · exact .inl (.inr ⟨o, e _ _ h⟩)
  · exact .inr h

section
variable {K : PySem.W.Frag} {F F' : Hp}
mutual
theorem Dat.mono (e : Same F F') : ∀ {v : V} {d : D}, Dat K F v d → Dat K F' v d
  | _, _, .non => .non
  | _, _, .bl b => .bl b
  | _, _, .int i => .int i
  | _, _, .str x => .str x
  | _, _, .ty n => .ty n
  | _, _, .adr a => .adr a
  | _, _, .tup h k => .tup (sqT_mono e h) (DatL.mono e k)
  | _, _, .lst h k => .lst (e _ _ h) (DatL.mono e k)
  | _, _, .ins h k => .ins (e _ _ h) (DatF.mono e k)
theorem DatL.mono (e : Same F F') : ∀ {v : List V} {d : List D}, DatL K F v d → DatL K F' v d
  | _, _, .nil => .nil
  | _, _, .cons h k => .cons (Dat.mono e h) (DatL.mono e k)
theorem DatF.mono (e : Same F F') : ∀ {v : List (Str × V)} {d : List (Str × D)}, DatF K F v d → DatF K F' v d
  | _, _, .nil => .nil
  | _, _, .cons h k => .cons (Dat.mono e h) (DatF.mono e k)
end
theorem DatL.length : ∀ {v : List V} {d : List D}, DatL K F v d → v.length = d.length
  | _, _, .nil => rfl
  | _, _, .cons _ k => by rw [List.length_cons, List.length_cons, DatL.length k]
theorem DatL.append : ∀ {v v' : List V} {d d' : List D}, DatL K F v d → DatL K F v' d' → DatL K F (v ++ v') (d ++ d')
  | _, _, _, _, .nil, k => k
  | _, _, _, _, .cons h t, k => .cons h (DatL.append t k)
theorem DatL.get : ∀ {v : List V} {d : List D} {i : Nat} {x : D}, DatL K F v d → d[i]? = some x → ∃ u, v[i]? = some u ∧ Dat K F u x
  | _, _, _, _, .nil, e => by simp at e
  | _, _, 0, x, .cons h _, e => by
    simp at e
    subst e
    exact ⟨_, rfl, h⟩
  | _, _, i + 1, x, .cons _ k, e => by
    obtain ⟨u, h1, h2⟩ := DatL.get (i := i) (x := x) k (by simpa using e)
    exact ⟨u, by simpa using h1, h2⟩
theorem DatL.get' : ∀ {v : List V} {d : List D} {i : Nat} {u : V}, DatL K F v d → v[i]? = some u → ∃ x, d[i]? = some x ∧ Dat K F u x
  | _, _, _, _, .nil, e => by simp at e
  | _, _, 0, x, .cons h _, e => by
    simp at e
    subst e
    exact ⟨_, rfl, h⟩
  | _, _, i + 1, x, .cons _ k, e => by
    obtain ⟨u, h1, h2⟩ := DatL.get' (i := i) (u := x) k (by simpa using e)
    exact ⟨u, by simpa using h1, h2⟩
theorem DatL.take : ∀ {v : List V} {d : List D} (n : Nat), DatL K F v d → DatL K F (v.take n) (d.take n)
  | _, _, 0, _ => .nil
  | _, _, _ + 1, .nil => .nil
  | _, _, n + 1, .cons h k => .cons h (DatL.take n k)
theorem DatL.drop : ∀ {v : List V} {d : List D} (n : Nat), DatL K F v d → DatL K F (v.drop n) (d.drop n)
  | _, _, 0, h => h
  | _, _, _ + 1, .nil => .nil
  | _, _, n + 1, .cons _ k => DatL.drop n k
theorem DatL.reverse : ∀ {v : List V} {d : List D}, DatL K F v d → DatL K F v.reverse d.reverse
  | _, _, .nil => .nil
  | _, _, .cons h k => by
    rw [List.reverse_cons, List.reverse_cons]
    exact (DatL.reverse k).append (.cons h .nil)
theorem DatL.snoc {v : List V} {d : List D} {u : V} {x : D} (h : DatL K F v d) (k : Dat K F u x) : DatL K F (v ++ [u]) (d ++ [x]) := h.append (.cons k .nil)
theorem DatL.nil_of {d : List D} (h : DatL K F [] d) : d = [] := by cases h; rfl
theorem DatF.lookup : ∀ {v : List (Str × V)} {d : List (Str × D)} {x : Str} {y : D}, DatF K F v d → d.lookup x = some y → ∃ u, v.lookup x = some u ∧ Dat K F u y
  | _, _, _, _, .nil, e => by simp at e
  | (x, v) :: vs, (_, d) :: ds, z, y, .cons h k, e => by
    rw [List.lookup_cons] at e ⊢
    by_cases q : z = x
    · subst q
      simp at e ⊢
      subst e
      exact h
    · have q' : (z == x) = false := by simp [q]
      rw [q'] at e ⊢
      exact DatF.lookup k e
theorem DatF.length : ∀ {v : List (Str × V)} {d : List (Str × D)}, DatF K F v d → v.length = d.length
  | _, _, .nil => rfl
  | _, _, .cons _ k => by rw [List.length_cons, List.length_cons, DatF.length k]
theorem DatF.none : ∀ {v : List (Str × V)} {d : List (Str × D)} {x : Str}, DatF K F v d → d.lookup x = Option.none → v.lookup x = Option.none
  | _, _, _, .nil, _ => rfl
  | (x, v) :: vs, (_, d) :: ds, z, .cons h k, e => by
    rw [List.lookup_cons] at e ⊢
    by_cases q : z = x
    · subst q
      simp at e
    · have q' : (z == x) = false := by simp [q]
      rw [q'] at e ⊢
      exact DatF.none k e
/-- ints -/
theorem DatL.ints : ∀ {v : List V} {ns : List Int}, DatL K F v (ns.map D.int) → v = ns.map V.int
  | _, [], .nil => rfl
  | _, n :: ns, .cons h k => by
    cases h
    rw [DatL.ints k]
    rfl
theorem DatL.bls : ∀ {v : List V} {ns : List Bool}, DatL K F v (ns.map D.bl) → v = ns.map V.bl
  | _, [], .nil => rfl
  | _, n :: ns, .cons h k => by
    cases h
    rw [DatL.bls k]
    rfl
theorem DatL.strs : ∀ {v : List V} {ns : List Str}, DatL K F v (ns.map D.str) → v = ns.map V.str
  | _, [], .nil => rfl
  | _, n :: ns, .cons h k => by
    cases h
    rw [DatL.strs k]
    rfl
end

/-! ### the state: F is what is kept for good, W a well (a list of three ints that draws change) -/
def WellAt (H : Hp) (a : Addr) : Prop := ∃ i j k : Int, H a = some (.lst [.int i, .int j, .int k])
structure Good (W : Option Addr) (F H : Hp) : Prop where
  sub : Same F H
  well : ∀ a, W = some a → F a = none ∧ WellAt H a
structure Fr (W : Option Addr) (F H F' H' : Hp) : Prop where
  sub : Same F' H'
  grow : Same F F'
  keep : ∀ a o, H a = some o → W ≠ some a → H' a = some o
  new : ∀ a o, F' a = some o → F a = some o ∨ H a = none
  well : ∀ a, W = some a → F' a = none ∧ WellAt H' a
section
variable {W : Option Addr} {F H F1 H1 F2 H2 : Hp}
theorem Fr.good (f : Fr W F H F1 H1) : Good W F1 H1 := ⟨f.sub, f.well⟩
theorem Good.rfl (g : Good W F H) : Fr W F H F H := ⟨g.sub, Same.refl F, fun _ _ h _ => h, fun _ _ h => .inl h, g.well⟩
theorem Fr.trans (f : Fr W F H F1 H1) (g : Fr W F1 H1 F2 H2) : Fr W F H F2 H2 where
  sub := g.sub
  grow := f.grow.trans g.grow
  keep := fun a o h n => g.keep a o (f.keep a o h n) n
  new := fun a o h => by
    rcases g.new a o h with h | h
    · exact f.new a o h
    · right
      cases q : H a with
      | none => rfl
      | some u =>
        by_cases hw : W = some a
        · obtain ⟨_, i, j, k, e⟩ := f.well a hw
          rw [h] at e
          cases e
        · have := f.keep a u q hw
          rw [h] at this
          cases this
  well := g.well
/-- a new object, kept for good -/
theorem Good.laid (g : Good W F H) {p : Addr} {o : HO} (hp : H p = none) : Fr W F H (upd F p o) (upd H p o) where
  sub := fun a u h => by
    by_cases e : a = p
    · subst e
      rw [upd_same] at h ⊢
      exact h
    · rw [upd_ne e] at h ⊢
      exact g.sub a u h
  grow := fun a u h => by
    have e : a ≠ p := fun z => by
      subst z
      rw [g.sub a u h] at hp
      cases hp
    rw [upd_ne e]
    exact h
  keep := fun a u h _ => by
    rw [upd_ne (ne_of_none h hp)]
    exact h
  new := fun a u h => by
    by_cases e : a = p
    · subst e
      exact .inr hp
    · rw [upd_ne e] at h
      exact .inl h
  well := fun a h => by
    obtain ⟨n, i, j, k, e⟩ := g.well a h
    have ne : a ≠ p := ne_of_none e hp
    exact ⟨by rw [upd_ne ne]; exact n, i, j, k, by rw [upd_ne ne]; exact e⟩
/-- a new object, not kept -/
theorem Good.hid (g : Good W F H) {p : Addr} {o : HO} (hp : H p = none) : Fr W F H F (upd H p o) where
  sub := fun a u h => by
    have h' := g.sub a u h
    rw [upd_ne (ne_of_none h' hp)]
    exact h'
  grow := Same.refl F
  keep := fun a u h _ => by
    rw [upd_ne (ne_of_none h hp)]
    exact h
  new := fun a u h => .inl h
  well := fun a h => by
    obtain ⟨n, i, j, k, e⟩ := g.well a h
    have ne : a ≠ p := ne_of_none e hp
    exact ⟨n, i, j, k, by rw [upd_ne ne]; exact e⟩
theorem Good.free (g : Good W F H) {p : Addr} (hp : H p = none) : F p = none := g.sub.free hp
end

/-! ### slots -/
inductive Sl where
  | un | fz (d : D) | ow (ds : List D)
inductive SlAt (K : PySem.W.Frag) (W : Option Addr) (H0 F H : Hp) : Option V → Sl → Prop
  | un (o : Option V) : SlAt K W H0 F H o .un
  | fz {v : V} {d : D} : Dat K F v d → SlAt K W H0 F H (some v) (.fz d)
  | ow {a : Addr} {vs : List V} {ds : List D} : F a = none → W ≠ some a → H0 a = none → H a = some (.lst vs) → DatL K F vs ds → SlAt K W H0 F H (some (.ref a)) (.ow ds)
structure Slots (K : PySem.W.Frag) (W : Option Addr) (H0 F H : Hp) (σ : St) (ρ : List Sl) : Prop where
  at_ : Paired (SlAt K W H0 F H) σ ρ
  apart : ∀ (i j : Nat) (ds es : List D), i ≠ j → ρ[i]? = some (Sl.ow ds) → ρ[j]? = some (Sl.ow es) → σ[i]? ≠ σ[j]?
section
variable {K : PySem.W.Frag} {W : Option Addr} {H0 F H F1 H1 : Hp}
theorem SlAt.fr (f : Fr W F H F1 H1) {o : Option V} {s : Sl} (h : SlAt K W H0 F H o s) : SlAt K W H0 F1 H1 o s := by
  cases h with
  | un => exact .un o
  | fz h => exact .fz (h.mono f.grow)
  | @ow a vs ds n w h0 e d =>
    refine .ow ?_ w h0 (f.keep a _ e w) (d.mono f.grow)
    cases q : F1 a with
    | none => rfl
    | some u =>
      rcases f.new a u q with z | z
      · rw [n] at z; cases z
      · rw [e] at z; cases z
theorem paired_mono {α β : Type} {R S : α → β → Prop} (h : ∀ a b, R a b → S a b) : ∀ {xs : List α} {ys : List β}, Paired R xs ys → Paired S xs ys
  | _, _, .nil => .nil
  | _, _, .cons r t => .cons (h _ _ r) (paired_mono h t)
theorem paired_get {α β : Type} {R : α → β → Prop} : ∀ {xs : List α} {ys : List β} {i : Nat} {y : β}, Paired R xs ys → ys[i]? = some y → ∃ x, xs[i]? = some x ∧ R x y
  | _, _, _, _, .nil, e => by simp at e
  | _, _, 0, y, .cons h _, e => by
    simp at e
    subst e
    exact ⟨_, rfl, h⟩
  | _, _, i + 1, y, .cons _ k, e => by
    obtain ⟨u, h1, h2⟩ := paired_get (i := i) (y := y) k (by simpa using e)
    exact ⟨u, by simpa using h1, h2⟩
theorem paired_set {α β : Type} {R : α → β → Prop} {x : α} {y : β} (r : R x y) : ∀ {xs : List α} {ys : List β} (i : Nat), Paired R xs ys → Paired R (xs.set i x) (ys.set i y)
  | _, _, _, .nil => .nil
  | _, _, 0, .cons _ t => .cons r t
  | _, _, i + 1, .cons q t => .cons q (paired_set r i t)
theorem Slots.fr (f : Fr W F H F1 H1) {σ : St} {ρ : List Sl} (s : Slots K W H0 F H σ ρ) : Slots K W H0 F1 H1 σ ρ := ⟨paired_mono (fun _ _ h => h.fr f) s.at_, s.apart⟩
theorem Slots.len {σ : St} {ρ : List Sl} (s : Slots K W H0 F H σ ρ) : σ.length = ρ.length := Paired.length s.at_
theorem Slots.fz {σ : St} {ρ : List Sl} (s : Slots K W H0 F H σ ρ) {i : Nat} {d : D} (h : ρ[i]? = some (.fz d)) : ∃ v, σ[i]? = some (some v) ∧ Dat K F v d := by
  obtain ⟨x, h1, h2⟩ := paired_get s.at_ h
  cases h2 with
  | fz h2 => exact ⟨_, h1, h2⟩
theorem Slots.ow {σ : St} {ρ : List Sl} (s : Slots K W H0 F H σ ρ) {i : Nat} {ds : List D} (h : ρ[i]? = some (.ow ds)) : ∃ a vs, σ[i]? = some (some (.ref a)) ∧ F a = none ∧ W ≠ some a ∧ H0 a = none ∧ H a = some (.lst vs) ∧ DatL K F vs ds := by
  obtain ⟨x, h1, h2⟩ := paired_get s.at_ h
  cases h2 with
  | ow n w h0 e d => exact ⟨_, _, h1, n, w, h0, e, d⟩
/-- a slot is set to a value that is kept -/
theorem Slots.set {σ : St} {ρ : List Sl} (s : Slots K W H0 F H σ ρ) (i : Nat) {v : V} {d : D} (h : Dat K F v d) : Slots K W H0 F H (σ.set i (some v)) (ρ.set i (.fz d)) := by
  refine ⟨paired_set (.fz h) i s.at_, fun j k ds es n h1 h2 => ?_⟩
  have nj : j ≠ i := fun e => by
    subst e
    rw [List.getElem?_set] at h1
    split at h1
    · split at h1 <;> simp at h1
    · rename_i hh; exact hh rfl
  have nk : k ≠ i := fun e => by
    subst e
    rw [List.getElem?_set] at h2
    split at h2
    · split at h2 <;> simp at h2
    · rename_i hh; exact hh rfl
  rw [List.getElem?_set_ne (Ne.symm nj)] at h1
  rw [List.getElem?_set_ne (Ne.symm nk)] at h2
  rw [List.getElem?_set_ne (Ne.symm nj), List.getElem?_set_ne (Ne.symm nk)]
  exact s.apart j k ds es n h1 h2
/-- a slot is forgotten -/
theorem Slots.forget {σ : St} {ρ : List Sl} (s : Slots K W H0 F H σ ρ) (i : Nat) (o : Option V) : Slots K W H0 F H (σ.set i o) (ρ.set i .un) := by
  refine ⟨paired_set (.un o) i s.at_, fun j k ds es n h1 h2 => ?_⟩
  have nj : j ≠ i := fun e => by
    subst e
    rw [List.getElem?_set] at h1
    split at h1
    · split at h1 <;> simp at h1
    · rename_i hh; exact hh rfl
  have nk : k ≠ i := fun e => by
    subst e
    rw [List.getElem?_set] at h2
    split at h2
    · split at h2 <;> simp at h2
    · rename_i hh; exact hh rfl
  rw [List.getElem?_set_ne (Ne.symm nj)] at h1
  rw [List.getElem?_set_ne (Ne.symm nk)] at h2
  rw [List.getElem?_set_ne (Ne.symm nj), List.getElem?_set_ne (Ne.symm nk)]
  exact s.apart j k ds es n h1 h2
end
end DL
set_option Elab.async false
set_option linter.all false
set_option maxRecDepth 100000
set_option maxHeartbeats 1000000
set_option autoImplicit false
namespace DL
open PySem L2
/-- W: the well that draws change; F0, H0: the def's entry; XP: what is wanted of an exception (class, fields) -/
structure Dx where
  W : Option Addr
  F0 : Hp
  H0 : Hp
  XP : Addr → List (Str × D) → Prop
abbrev DE := List Sl → (D → Prop) → Prop
abbrev DA := List Sl → (List D → Prop) → Prop
abbrev DT := List Sl → (Bool → Prop) → Prop
structure At (K : PySem.W.Frag) (c : Dx) (F H : Hp) (σ : St) (ρ : List Sl) : Prop where
  en : Fr c.W c.F0 c.H0 F H
  sl : Slots K c.W c.H0 F H σ ρ
def up (X : Cx) (c : Dx) (den : DE) : TE := fun σ H Q => ∃ F ρ, At X.K c F H σ ρ ∧ den ρ fun d => ∀ v F' H', Fr c.W F H F' H' → Dat X.K F' v d → Q v H'
def upA (X : Cx) (c : Dx) (den : DA) : TA := fun σ H Q => ∃ F ρ, At X.K c F H σ ρ ∧ den ρ fun d => ∀ v F' H', Fr c.W F H F' H' → DatL X.K F' v d → Q v H'
def upT (X : Cx) (c : Dx) (den : DT) : TT := fun σ H Q => ∃ F ρ, At X.K c F H σ ρ ∧ den ρ fun b => ∀ F' H', Fr c.W F H F' H' → Q b H'
def Mono {α : Type} (den : List Sl → (α → Prop) → Prop) : Prop := ∀ ρ P P', (∀ d, P d → P' d) → den ρ P → den ρ P'
structure PD (X : Cx) (c : Dx) (e : Expr) (den : DE) : Prop where
  pe : PE X e (up X c den)
  mono : Mono den
structure PDA (X : Cx) (c : Dx) (es : List Expr) (den : DA) : Prop where
  pa : PA X es (upA X c den)
  mono : Mono den
structure PDT (X : Cx) (c : Dx) (e : Expr) (den : DT) : Prop where
  pt : PT X e (upT X c den)
  mono : Mono den
section
variable {X : Cx} {c : Dx} {F H F1 H1 : Hp} {σ : St} {ρ : List Sl}
theorem At.good (a : At X.K c F H σ ρ) : Good c.W F H := a.en.good
theorem At.fr (a : At X.K c F H σ ρ) (f : Fr c.W F H F1 H1) : At X.K c F1 H1 σ ρ := ⟨a.en.trans f, a.sl.fr f⟩
theorem imp {e : Expr} {t t' : TE} (h : PE X e t) (i : ∀ σ H Q, t' σ H Q → t σ H Q) : PE X e t' := ⟨fun pins s σ H Q I q => h.run pins s σ H Q I (i σ H Q q)⟩
theorem impT {e : Expr} {t t' : TT} (h : PT X e t) (i : ∀ σ H Q, t' σ H Q → t σ H Q) : PT X e t' := ⟨fun pins s σ H Q I q => h.run pins s σ H Q I (i σ H Q q)⟩
theorem impA {e : List Expr} {t t' : TA} (h : PA X e t) (i : ∀ σ H Q, t' σ H Q → t σ H Q) : PA X e t' := ⟨fun ps pins s σ H Q I q => h.run ps pins s σ H Q I (i σ H Q q)⟩

/-! ### names, constants -/
@[simp] def dVar (i : Nat) : DE := fun ρ P => ∃ d, ρ[i]? = some (.fz d) ∧ P d
@[simp] def dC (d : D) : DE := fun _ P => P d
theorem pd_var {i : Nat} {e : Expr} (h : PE X e (tVar i)) : PD X c e (dVar i) := by
  refine ⟨imp h fun σ H Q q => ?_, fun ρ P P' m ⟨d, h, p⟩ => ⟨d, h, m d p⟩⟩
  obtain ⟨F, ρ, a, d, e, q⟩ := q
  obtain ⟨v, h1, h2⟩ := a.sl.fz e
  exact ⟨v, h1, q v F H a.good.rfl h2⟩
theorem pd_c {e : Expr} {v : V} {d : D} (h : PE X e (tC v)) (hd : ∀ F, Dat X.K F v d) : PD X c e (dC d) := by
  refine ⟨imp h fun σ H Q q => ?_, fun ρ P P' m p => m _ p⟩
  obtain ⟨F, ρ, a, q⟩ := q
  exact q v F H a.good.rfl (hd F)
theorem pd_int {i : Int} {j pos} : PD X c (.Constant (.int i) j pos) (dC (.int i)) := pd_c pe_int fun _ => .int i
theorem pd_bl {b j pos} : PD X c (.Constant (.bool b) j pos) (dC (.bl b)) := pd_c pe_bl fun _ => .bl b
theorem pd_non {j pos} : PD X c (.Constant .none j pos) (dC .non) := pd_c pe_non fun _ => .non
theorem pd_str {x j pos} : PD X c (.Constant (.str x) j pos) (dC (.str x)) := pd_c pe_str fun _ => .str x

/-! ### arguments, displays -/
@[simp] def dNil : DA := fun _ P => P []
@[simp] def dCons (a : DE) (r : DA) : DA := fun ρ P => a ρ fun d => r ρ fun ds => P (d :: ds)
theorem pda_nil : PDA X c [] dNil := by
  refine ⟨impA pa_nil fun σ H Q q => ?_, fun ρ P P' m p => m _ p⟩
  obtain ⟨F, ρ, a, q⟩ := q
  exact q [] F H a.good.rfl .nil
theorem pda_cons {e : Expr} {es : List Expr} {de : DE} {da : DA} (h : PD X c e de) (k : PDA X c es da) (hs : starEach (e :: es) X.env = (false, eval e X.env) :: starEach es X.env := by rfl) : PDA X c (e :: es) (dCons de da) := by
  refine ⟨impA (pa_cons h.pe k.pa hs) fun σ H Q q => ?_, fun ρ P P' m => h.mono ρ _ _ fun d => k.mono ρ _ _ fun ds => m _⟩
  obtain ⟨F, ρ, a, q⟩ := q
  refine ⟨F, ρ, a, h.mono _ _ _ (fun d q v F1 H1 f1 d1 => ?_) q⟩
  refine ⟨F1, ρ, a.fr f1, k.mono _ _ _ (fun ds q vs F2 H2 f2 d2 => ?_) q⟩
  exact q _ F2 H2 (f1.trans f2) (.cons (d1.mono f2.grow) d2)
@[simp] def dTup (da : DA) : DE := fun ρ P => da ρ fun ds => ds.length ≤ 1000 ∧ P (.tup ds)
@[simp] def dLst (da : DA) : DE := fun ρ P => da ρ fun ds => ds.length ≤ 1000 ∧ P (.lst ds)
theorem le_line {n : Nat} (h : n ≤ 1000) : n ≤ sizeLine := Nat.le_of_lt (small1000 h)
theorem pd_tup {es : List Expr} {da : DA} {x1 pos} (h : PDA X c es da) : PD X c (.Tuple es x1 pos) (dTup da) := by
  refine ⟨imp (pe_tup h.pa) fun σ H Q q => ?_, fun ρ P P' m => h.mono ρ _ _ fun ds q => ⟨q.1, m _ q.2⟩⟩
  obtain ⟨F, ρ, a, q⟩ := q
  refine ⟨F, ρ, a, h.mono _ _ _ (fun ds q vs F1 H1 f1 d1 => ⟨by rw [d1.length]; exact le_line q.1, fun p hp => ?_⟩) q⟩
  have f2 := f1.good.laid (o := .tup vs) hp
  exact q.2 _ _ _ (f1.trans f2) (.tup (.of upd_same) (d1.mono f2.grow))
theorem pd_lst {es : List Expr} {da : DA} {pos} (h : PDA X c es da) : PD X c (.List es pos) (dLst da) := by
  refine ⟨imp (pe_lst h.pa) fun σ H Q q => ?_, fun ρ P P' m => h.mono ρ _ _ fun ds q => ⟨q.1, m _ q.2⟩⟩
  obtain ⟨F, ρ, a, q⟩ := q
  refine ⟨F, ρ, a, h.mono _ _ _ (fun ds q vs F1 H1 f1 d1 => ⟨by rw [d1.length]; exact le_line q.1, fun p hp => ?_⟩) q⟩
  have f2 := f1.good.laid (o := .lst vs) hp
  exact q.2 _ _ _ (f1.trans f2) (.lst upd_same (d1.mono f2.grow))

/-! ### operators of two values -/
abbrev F2 := D → D → (D → Prop) → Prop
def Mono2 (f : F2) : Prop := ∀ x y P P', (∀ d, P d → P' d) → f x y P → f x y P'
/-- the heap's relation r is served by f -/
def Serves (X : Cx) (c : Dx) (r : R2) (f : F2) : Prop := ∀ F H x y dx dy P Q, Good c.W F H → Dat X.K F x dx → Dat X.K F y dy → f dx dy P → (∀ d v F' H', P d → Fr c.W F H F' H' → Dat X.K F' v d → Q v H') → r x y H Q
@[simp] def dOp (f : F2) (da db : DE) : DE := fun ρ P => da ρ fun x => db ρ fun y => f x y P
section
variable {a b : Expr} {da db : DE} {r : R2} {f : F2} {pos : Pos}
theorem op_up (hf : Serves X c r f) (ma : Mono da) (mb : Mono db) : ∀ σ H Q, up X c (dOp f da db) σ H Q → tOp r (up X c da) (up X c db) σ H Q := by
  intro σ H Q q
  obtain ⟨F, ρ, a, q⟩ := q
  refine ⟨F, ρ, a, ma _ _ _ (fun d q v F1 H1 f1 d1 => ?_) q⟩
  refine ⟨F1, ρ, a.fr f1, mb _ _ _ (fun d2 q v2 F2 H2 f2 d2 => ?_) q⟩
  exact hf F2 H2 v v2 _ _ _ Q f2.good (d1.mono f2.grow) d2 q fun d v F' H' p f3 dd => p v F' H' (f1.trans (f2.trans f3)) dd
theorem mono_op (hf : Mono2 f) (ma : Mono da) (mb : Mono db) : Mono (dOp f da db) := fun ρ P P' m => ma ρ _ _ fun x => mb ρ _ _ fun y => hf x y P P' m
theorem pd_op {op : Operator} (ho : OpR X (binaryOp op) r) (hf : Serves X c r f) (hm : Mono2 f) (ha : PD X c a da) (hb : PD X c b db) : PD X c (.BinOp a op b pos) (dOp f da db) :=
  ⟨imp (pe_op ho ha.pe hb.pe) (op_up hf ha.mono hb.mono), mono_op hm ha.mono hb.mono⟩
theorem pd_cmp {op : CmpOp} (ho : OpR X (compareOp op) r) (hf : Serves X c r f) (hm : Mono2 f) (ha : PD X c a da) (hb : PD X c b db) (hn : behindInMarks op b = false) : PD X c (.Compare a [op] [b] pos) (dOp f da db) :=
  ⟨imp (pe_cmpR ho ha.pe hb.pe hn) (op_up hf ha.mono hb.mono), mono_op hm ha.mono hb.mono⟩
theorem pd_ix (ho : IxR X r) (hf : Serves X c r f) (hm : Mono2 f) (ha : PD X c a da) (hb : PD X c b db) (hs : PlainIx b) : PD X c (.Subscript a b pos) (dOp f da db) :=
  ⟨imp (pe_ix ho ha.pe hb.pe hs) (op_up hf ha.mono hb.mono), mono_op hm ha.mono hb.mono⟩

/-! ints -/
def fI (C : Int → Int → Prop) (g : Int → Int → Int) : F2 := fun x y P => ∃ i j, x = .int i ∧ y = .int j ∧ C i j ∧ P (.int (g i j))
def fI0 (g : Int → Int → Int) : F2 := fun x y P => ∃ i j, x = .int i ∧ y = .int j ∧ P (.int (g i j))
def fB0 (g : Int → Int → Bool) : F2 := fun x y P => ∃ i j, x = .int i ∧ y = .int j ∧ P (.bl (g i j))
theorem mono_fI {C g} : Mono2 (fI C g) := fun _ _ _ _ m ⟨i, j, a, b, k, p⟩ => ⟨i, j, a, b, k, m _ p⟩
theorem mono_fI0 {g} : Mono2 (fI0 g) := fun _ _ _ _ m ⟨i, j, a, b, p⟩ => ⟨i, j, a, b, m _ p⟩
theorem mono_fB0 {g} : Mono2 (fB0 g) := fun _ _ _ _ m ⟨i, j, a, b, p⟩ => ⟨i, j, a, b, m _ p⟩
theorem serves_I {C g} : Serves X c (rI C fun i j => .int (g i j)) (fI C g) := by
  intro F H x y dx dy P Q G hx hy h q
  obtain ⟨i, j, rfl, rfl, hc, p⟩ := h
  cases hx
  cases hy
  exact ⟨i, j, rfl, rfl, hc, q _ _ F H p G.rfl (.int _)⟩
theorem serves_I0 {g} : Serves X c (rI0 fun i j => .int (g i j)) (fI0 g) := by
  intro F H x y dx dy P Q G hx hy h q
  obtain ⟨i, j, rfl, rfl, p⟩ := h
  cases hx
  cases hy
  exact ⟨i, j, rfl, rfl, q _ _ F H p G.rfl (.int _)⟩
theorem serves_B0 {g} : Serves X c (rI0 fun i j => .bl (g i j)) (fB0 g) := by
  intro F H x y dx dy P Q G hx hy h q
  obtain ⟨i, j, rfl, rfl, p⟩ := h
  cases hx
  cases hy
  exact ⟨i, j, rfl, rfl, q _ _ F H p G.rfl (.bl _)⟩
theorem pd_add (ha : PD X c a da) (hb : PD X c b db) : PD X c (.BinOp a .Add b pos) (dOp (fI0 fun i j => i + j) da db) := pd_op op_add serves_I0 mono_fI0 ha hb
theorem pd_sub (ha : PD X c a da) (hb : PD X c b db) : PD X c (.BinOp a .Sub b pos) (dOp (fI0 fun i j => i - j) da db) := pd_op op_sub serves_I0 mono_fI0 ha hb
theorem pd_mul (ha : PD X c a da) (hb : PD X c b db) : PD X c (.BinOp a .Mult b pos) (dOp (fI CMulW fun i j => i * j) da db) := pd_op op_mulW serves_I mono_fI ha hb
theorem pd_fdiv (ha : PD X c a da) (hb : PD X c b db) : PD X c (.BinOp a .FloorDiv b pos) (dOp (fI CDivW fun i j => i / j) da db) := pd_op op_fdivW serves_I mono_fI ha hb
theorem pd_mod (ha : PD X c a da) (hb : PD X c b db) : PD X c (.BinOp a .Mod b pos) (dOp (fI (fun _ j => 0 < j) fun i j => i % j) da db) := pd_op op_mod serves_I mono_fI ha hb
theorem pd_pow (ha : PD X c a da) (hb : PD X c b db) : PD X c (.BinOp a .Pow b pos) (dOp (fI CPow fun i j => i ^ j.toNat) da db) := pd_op op_pow serves_I mono_fI ha hb
theorem pd_lt (ha : PD X c a da) (hb : PD X c b db) : PD X c (.Compare a [.Lt] [b] pos) (dOp (fB0 fun i j => decide (i < j)) da db) := pd_cmp op_lt serves_B0 mono_fB0 ha hb (nobehind _ (by decide) (by decide))
theorem pd_le (ha : PD X c a da) (hb : PD X c b db) : PD X c (.Compare a [.LtE] [b] pos) (dOp (fB0 fun i j => decide (i ≤ j)) da db) := pd_cmp op_le serves_B0 mono_fB0 ha hb (nobehind _ (by decide) (by decide))
theorem pd_gt (ha : PD X c a da) (hb : PD X c b db) : PD X c (.Compare a [.Gt] [b] pos) (dOp (fB0 fun i j => decide (j < i)) da db) := pd_cmp op_gt serves_B0 mono_fB0 ha hb (nobehind _ (by decide) (by decide))
theorem pd_ge (ha : PD X c a da) (hb : PD X c b db) : PD X c (.Compare a [.GtE] [b] pos) (dOp (fB0 fun i j => decide (j ≤ i)) da db) := pd_cmp op_ge serves_B0 mono_fB0 ha hb (nobehind _ (by decide) (by decide))
end

/-! one-place -/
@[simp] def dUn (f : D → (D → Prop) → Prop) (da : DE) : DE := fun ρ P => da ρ fun x => f x P
def fNeg : D → (D → Prop) → Prop := fun x P => ∃ i, x = .int i ∧ P (.int (-i))
theorem pd_neg {a : Expr} {da : DE} {pos} (ha : PD X c a da) : PD X c (.UnaryOp .USub a pos) (dUn fNeg da) := by
  refine ⟨imp (pe_un un_neg ha.pe) fun σ H Q q => ?_, fun ρ P P' m => ha.mono ρ _ _ fun x ⟨i, e, p⟩ => ⟨i, e, m _ p⟩⟩
  obtain ⟨F, ρ, a, q⟩ := q
  refine ⟨F, ρ, a, ha.mono _ _ _ (fun d q v F1 H1 f1 d1 => ?_) q⟩
  obtain ⟨i, rfl, q⟩ := q
  cases d1
  exact ⟨i, rfl, q _ F1 H1 f1 (.int _)⟩

/-! ### and, or, not, tests -/
@[simp] def dB (de : DE) : DT := fun ρ P => de ρ fun x => ∃ b, x = .bl b ∧ P b
@[simp] def dTV (dt : DT) : DE := fun ρ P => dt ρ fun b => P (.bl b)
@[simp] def dAndV (da db : DE) : DE := fun ρ P => da ρ fun x => ∃ b, x = .bl b ∧ if b = true then db ρ P else P (.bl false)
@[simp] def dOrV (da db : DE) : DE := fun ρ P => da ρ fun x => ∃ b, x = .bl b ∧ if b = true then P (.bl true) else db ρ P
@[simp] def dNotV (da : DE) : DE := fun ρ P => da ρ fun x => ∃ b, x = .bl b ∧ P (.bl (!b))
section
variable {a b : Expr} {rest : List Expr} {da db : DE} {ta tb : DT} {pos : Pos}
theorem pd_one {op} (h : PD X c a da) : PD X c (.BoolOp op [a] pos) da := ⟨pe_one h.pe, h.mono⟩
theorem pd_and (ha : PD X c a da) (hb : PD X c (.BoolOp .And (b :: rest) pos) db) : PD X c (.BoolOp .And (a :: b :: rest) pos) (dAndV da db) := by
  refine ⟨imp (pe_and ha.pe hb.pe) fun σ H Q q => ?_, fun ρ P P' m => ha.mono ρ _ _ fun x ⟨i, e, p⟩ => ⟨i, e, ?_⟩⟩
  · obtain ⟨F, ρ, a, q⟩ := q
    refine ⟨F, ρ, a, ha.mono _ _ _ (fun d q v F1 H1 f1 d1 => ?_) q⟩
    obtain ⟨i, rfl, q⟩ := q
    cases d1
    refine ⟨i, rfl, ?_⟩
    cases i with
    | true => exact ⟨F1, ρ, a.fr f1, hb.mono _ _ _ (fun d p v F' H' f3 dd => p v F' H' (f1.trans f3) dd) q⟩
    | false => exact q _ F1 H1 f1 (.bl _)
  · cases i with
    | true => exact hb.mono _ _ _ m p
    | false => exact m _ p
theorem pd_or (ha : PD X c a da) (hb : PD X c (.BoolOp .Or (b :: rest) pos) db) : PD X c (.BoolOp .Or (a :: b :: rest) pos) (dOrV da db) := by
  refine ⟨imp (pe_or ha.pe hb.pe) fun σ H Q q => ?_, fun ρ P P' m => ha.mono ρ _ _ fun x ⟨i, e, p⟩ => ⟨i, e, ?_⟩⟩
  · obtain ⟨F, ρ, a, q⟩ := q
    refine ⟨F, ρ, a, ha.mono _ _ _ (fun d q v F1 H1 f1 d1 => ?_) q⟩
    obtain ⟨i, rfl, q⟩ := q
    cases d1
    refine ⟨i, rfl, ?_⟩
    cases i with
    | false => exact ⟨F1, ρ, a.fr f1, hb.mono _ _ _ (fun d p v F' H' f3 dd => p v F' H' (f1.trans f3) dd) q⟩
    | true => exact q _ F1 H1 f1 (.bl _)
  · cases i with
    | false => exact hb.mono _ _ _ m p
    | true => exact m _ p
theorem pd_not (ha : PD X c a da) : PD X c (.UnaryOp .Not a pos) (dNotV da) := by
  refine ⟨imp (pe_not ha.pe) fun σ H Q q => ?_, fun ρ P P' m => ha.mono ρ _ _ fun x ⟨i, e, p⟩ => ⟨i, e, m _ p⟩⟩
  obtain ⟨F, ρ, a, q⟩ := q
  refine ⟨F, ρ, a, ha.mono _ _ _ (fun d q v F1 H1 f1 d1 => ?_) q⟩
  obtain ⟨i, rfl, q⟩ := q
  cases d1
  exact ⟨i, rfl, q _ F1 H1 f1 (.bl _)⟩
/-- a value that is a bool, as a test -/
theorem pdt_val (h : PD X c a da) (he : ∀ whole, isTrue a X.env whole = (do let v ← whole; standAt a.pos; holding [v] (truthy v)) := by intro _; rfl) : PDT X c a (dB da) := by
  refine ⟨impT (pt_val h.pe he) fun σ H Q q => ?_, fun ρ P P' m => h.mono ρ _ _ fun x ⟨i, e, p⟩ => ⟨i, e, m _ p⟩⟩
  obtain ⟨F, ρ, a, q⟩ := q
  refine ⟨F, ρ, a, h.mono _ _ _ (fun d q v F1 H1 f1 d1 => ?_) q⟩
  obtain ⟨i, rfl, q⟩ := q
  cases d1
  exact ⟨i, rfl, q F1 H1 f1⟩
/-- a comparison as a test -/
theorem pdt_cmp {op : CmpOp} {r : R2} {f : F2} (ho : OpR X (compareOp op) r) (hf : Serves X c r f) (hm : Mono2 f) (ha : PD X c a da) (hb : PD X c b db) (hn : behindInMarks op b = false) : PDT X c (.Compare a [op] [b] pos) (dB (dOp f da db)) := by
  have mo := mono_op hm ha.mono hb.mono
  refine ⟨impT (pt_cmpR ho ha.pe hb.pe hn) fun σ H Q q => ?_, fun ρ P P' m => mo ρ _ _ fun x ⟨i, e, p⟩ => ⟨i, e, m _ p⟩⟩
  obtain ⟨F, ρ, a, q⟩ := q
  refine op_up hf ha.mono hb.mono σ H _ ⟨F, ρ, a, mo _ _ _ (fun d q v F1 H1 f1 d1 => ?_) q⟩
  obtain ⟨i, rfl, q⟩ := q
  cases d1
  exact ⟨i, rfl, q F1 H1 f1⟩
@[simp] def dTAnd (t u : DT) : DT := fun ρ P => t ρ fun b => if b = true then u ρ P else P false
@[simp] def dTOr (t u : DT) : DT := fun ρ P => t ρ fun b => if b = true then P true else u ρ P
@[simp] def dTNot (t : DT) : DT := fun ρ P => t ρ fun b => P (!b)
structure PDW (X : Cx) (c : Dx) (e : Expr) (den : DT) : Prop where
  pw : PW X e (upT X c den)
  mono : Mono den
theorem impW {e : Expr} {t t' : TT} (h : PW X e t) (i : ∀ σ H Q, t' σ H Q → t σ H Q) : PW X e t' := ⟨fun wh pins s σ H Q I q => h.run wh pins s σ H Q I (i σ H Q q)⟩
theorem pdw_and1 (h : PDT X c a ta) : PDW X c (.BoolOp .And [a] pos) ta := ⟨pw_and1 h.pt, h.mono⟩
theorem pdw_or1 (h : PDT X c a ta) : PDW X c (.BoolOp .Or [a] pos) ta := ⟨pw_or1 h.pt, h.mono⟩
theorem pdw_and (ha : PDT X c a ta) (hb : PDW X c (.BoolOp .And (b :: rest) pos) tb) : PDW X c (.BoolOp .And (a :: b :: rest) pos) (dTAnd ta tb) := by
  refine ⟨impW (pw_and ha.pt hb.pw) fun σ H Q q => ?_, fun ρ P P' m => ha.mono ρ _ _ fun b p => ?_⟩
  · obtain ⟨F, ρ, a, q⟩ := q
    refine ⟨F, ρ, a, ha.mono _ _ _ (fun d q F1 H1 f1 => ?_) q⟩
    cases d with
    | true => exact ⟨F1, ρ, a.fr f1, hb.mono _ _ _ (fun d p F' H' f3 => p F' H' (f1.trans f3)) q⟩
    | false => exact q F1 H1 f1
  · cases b with
    | true => exact hb.mono _ _ _ m p
    | false => exact m _ p
theorem pdw_or (ha : PDT X c a ta) (hb : PDW X c (.BoolOp .Or (b :: rest) pos) tb) : PDW X c (.BoolOp .Or (a :: b :: rest) pos) (dTOr ta tb) := by
  refine ⟨impW (pw_or ha.pt hb.pw) fun σ H Q q => ?_, fun ρ P P' m => ha.mono ρ _ _ fun b p => ?_⟩
  · obtain ⟨F, ρ, a, q⟩ := q
    refine ⟨F, ρ, a, ha.mono _ _ _ (fun d q F1 H1 f1 => ?_) q⟩
    cases d with
    | false => exact ⟨F1, ρ, a.fr f1, hb.mono _ _ _ (fun d p F' H' f3 => p F' H' (f1.trans f3)) q⟩
    | true => exact q F1 H1 f1
  · cases b with
    | false => exact hb.mono _ _ _ m p
    | true => exact m _ p
theorem pdt_w {t : DT} (h : PDW X c a t) : PDT X c a t := ⟨h.pw.pt, h.mono⟩
theorem pdt_not (h : PDT X c a ta) : PDT X c (.UnaryOp .Not a pos) (dTNot ta) := by
  refine ⟨impT (pt_not h.pt) fun σ H Q q => ?_, fun ρ P P' m => h.mono ρ _ _ fun b p => m _ p⟩
  exact q
@[simp] def dIf (t : DT) (da db : DE) : DE := fun ρ P => t ρ fun b => if b = true then da ρ P else db ρ P
theorem pd_if {e : Expr} {t : DT} (hc : PDT X c e t) (ha : PD X c a da) (hb : PD X c b db) : PD X c (.IfExp e a b pos) (dIf t da db) := by
  refine ⟨imp (pe_ifExp hc.pt ha.pe hb.pe) fun σ H Q q => ?_, fun ρ P P' m => hc.mono ρ _ _ fun b p => ?_⟩
  · obtain ⟨F, ρ, a, q⟩ := q
    refine ⟨F, ρ, a, hc.mono _ _ _ (fun d q F1 H1 f1 => ?_) q⟩
    cases d with
    | false => exact ⟨F1, ρ, a.fr f1, hb.mono _ _ _ (fun d p v F' H' f3 dd => p v F' H' (f1.trans f3) dd) q⟩
    | true => exact ⟨F1, ρ, a.fr f1, ha.mono _ _ _ (fun d p v F' H' f3 dd => p v F' H' (f1.trans f3) dd) q⟩
  · cases b with
    | false => exact hb.mono _ _ _ m p
    | true => exact ha.mono _ _ _ m p
end

/-! ### calls of what is built in, of defs -/
abbrev FN := List D → (D → Prop) → Prop
def ServesC (X : Cx) (c : Dx) (r : List V → Hp → VK → Prop) (f : FN) : Prop := ∀ F H xs ds P Q, Good c.W F H → DatL X.K F xs ds → f ds P → (∀ d v F' H', P d → Fr c.W F H F' H' → Dat X.K F' v d → Q v H') → r xs H Q
@[simp] def dCall (f : FN) (da : DA) : DE := fun ρ P => da ρ fun ds => f ds P
def MonoF (f : FN) : Prop := ∀ ds P P', (∀ d, P d → P' d) → f ds P → f ds P'
theorem call_up {r : List V → Hp → VK → Prop} {f : FN} {da : DA} (hf : ServesC X c r f) (ma : Mono da) : ∀ σ H Q, up X c (dCall f da) σ H Q → upA X c da σ H fun vs H1 => r vs H1 Q := by
  intro σ H Q q
  obtain ⟨F, ρ, a, q⟩ := q
  refine ⟨F, ρ, a, ma _ _ _ (fun ds q vs F1 H1 f1 d1 => ?_) q⟩
  exact hf F1 H1 vs ds _ Q f1.good d1 q fun d v F' H' p f3 dd => p v F' H' (f1.trans f3) dd
theorem mono_call {f : FN} {da : DA} (hf : MonoF f) (ma : Mono da) : Mono (dCall f da) := fun ρ P P' m => ma ρ _ _ fun ds => hf ds P P' m
end
end DL
set_option Elab.async false
set_option linter.all false
set_option maxRecDepth 100000
set_option maxHeartbeats 1000000
set_option autoImplicit false
namespace DL
open PySem PySem.Spec PyProof.Rows L2
section
variable {X : Cx} {c : Dx}
/-! ### calls of built-in things -/
theorem pd_callB {id : String} {x : Str} {p pos : Pos} {e : Expr} {es : List Expr} {r : List V → Hp → VK → Prop} {f : FN} {da : DA} (hc : CallR X (.builtin id) r) (hf : ServesC X c r f) (mf : MonoF f) (hg : Gl X x) (hm : X.mg x = none) (hv : bootBuiltins x = some (.builtin id)) (ha : PDA X c (e :: es) da)
    (hn : x ≠ "__name__" := by decide) (hdb : (x == ("__debug__" : Str)) = false := by decide)
    (he : starEach (e :: es) X.env = (false, eval e X.env) :: starEach es X.env := by rfl) (hpl : (backTo pos (starEach es X.env)).any (·.1) = false := by rfl) : PD X c (.Call (.Name x p) (e :: es) [] pos) (dCall f da) :=
  ⟨imp (pe_callB hc hg hm hv ha.pa hn hdb he hpl) (call_up hf ha.mono), mono_call mf ha.mono⟩
theorem pd_callTy {T : String} {x : Str} {p pos : Pos} {e : Expr} {es : List Expr} {r : List V → Hp → VK → Prop} {f : FN} {da : DA} (hc : CallR X (.type T) r) (hf : ServesC X c r f) (mf : MonoF f) (hg : Gl X x) (hm : X.mg x = none) (hv : bootBuiltins x = some (.type T)) (ha : PDA X c (e :: es) da)
    (hn : x ≠ "__name__" := by decide) (hdb : (x == ("__debug__" : Str)) = false := by decide)
    (he : starEach (e :: es) X.env = (false, eval e X.env) :: starEach es X.env := by rfl) (hpl : (backTo pos (starEach es X.env)).any (·.1) = false := by rfl) : PD X c (.Call (.Name x p) (e :: es) [] pos) (dCall f da) :=
  ⟨imp (pe_callTy hc hg hm hv ha.pa hn hdb he hpl) (call_up hf ha.mono), mono_call mf ha.mono⟩

/-! len -/
def fLen : FN := fun ds P => ∃ n : Nat, ((∃ l, ds = [.lst l] ∧ n = l.length) ∨ (∃ l, ds = [.tup l] ∧ n = l.length) ∨ (∃ s : Str, ds = [.str s] ∧ s.length ≤ sizeLine ∧ n = s.length)) ∧ P (.int n)
theorem mono_fLen : MonoF fLen := fun ds P P' m ⟨n, a, p⟩ => ⟨n, a, m _ p⟩
theorem datL1 {K : PySem.W.Frag} {F : Hp} {xs : List V} {d : D} (h : DatL K F xs [d]) : ∃ v, xs = [v] ∧ Dat K F v d := by
  cases h with
  | cons h k =>
    cases k
    exact ⟨_, rfl, h⟩
theorem datL2 {K : PySem.W.Frag} {F : Hp} {xs : List V} {d e : D} (h : DatL K F xs [d, e]) : ∃ v u, xs = [v, u] ∧ Dat K F v d ∧ Dat K F u e := by
  cases h with
  | cons h k =>
    obtain ⟨u, rfl, hu⟩ := datL1 k
    exact ⟨_, _, rfl, h, hu⟩
theorem sq_sub {K : PySem.W.Frag} {F H : Hp} (s : Same F H) {a : Addr} {xs : List V} (h : SqL K F a xs) : SqL K H a xs := s.seq h
theorem serves_len : ServesC X c (fun xs H Q => ∃ x n, xs = [x] ∧ LenV X.K x H n ∧ Q (.int n) H) fLen := by
  intro F H xs ds P Q G hx h q
  obtain ⟨n, h, p⟩ := h
  rcases h with ⟨l, rfl, rfl⟩ | ⟨l, rfl, rfl⟩ | ⟨s, rfl, hs, rfl⟩
  · obtain ⟨v, rfl, hv⟩ := datL1 hx
    cases hv with
    | lst hs hl => exact ⟨_, _, rfl, .inl ⟨_, SqL.of (G.sub _ _ hs), hl.length.symm⟩, q _ _ F H p G.rfl (.int _)⟩
  · obtain ⟨v, rfl, hv⟩ := datL1 hx
    cases hv with
    | tup hs hl => exact ⟨_, _, rfl, .inr ⟨_, sqT_mono G.sub hs, hl.length.symm⟩, q _ _ F H p G.rfl (.int _)⟩
  · obtain ⟨v, rfl, hv⟩ := datL1 hx
    cases hv
    exact ⟨_, _, rfl, ⟨hs, rfl⟩, q _ _ F H p G.rfl (.int _)⟩
/-! int -/
def fInt : FN := fun ds P => (∃ i, ds = [.int i] ∧ P (.int i)) ∨ ∃ k, ds = [.bl k] ∧ P (.int (if k then 1 else 0))
theorem mono_fInt : MonoF fInt := fun ds P P' m h => h.elim (fun ⟨i, e, p⟩ => .inl ⟨i, e, m _ p⟩) fun ⟨i, e, p⟩ => .inr ⟨i, e, m _ p⟩
theorem serves_int : ServesC X c (fun xs H Q => (∃ i, xs = [.int i] ∧ Q (.int i) H) ∨ ∃ k, xs = [.bl k] ∧ Q (.int (if k then 1 else 0)) H) fInt := by
  intro F H xs ds P Q G hx h q
  rcases h with ⟨i, rfl, p⟩ | ⟨k, rfl, p⟩
  · obtain ⟨v, rfl, hv⟩ := datL1 hx
    cases hv
    exact .inl ⟨i, rfl, q _ _ F H p G.rfl (.int _)⟩
  · obtain ⟨v, rfl, hv⟩ := datL1 hx
    cases hv
    exact .inr ⟨k, rfl, q _ _ F H p G.rfl (.int _)⟩
/-! max, all, tuple, list -/
def fMax : FN := fun ds P => ∃ ns : List Int, ds = [.lst (ns.map D.int)] ∧ 0 < ns.length ∧ ∀ m, m ∈ ns → (∀ y, y ∈ ns → y ≤ m) → P (.int m)
theorem mono_fMax : MonoF fMax := fun ds P P' m ⟨ns, a, b, p⟩ => ⟨ns, a, b, fun k h1 h2 => m _ (p k h1 h2)⟩
theorem serves_max : ServesC X c (rMax X.K) fMax := by
  intro F H xs ds P Q G hx h q
  obtain ⟨ns, rfl, h0, p⟩ := h
  obtain ⟨v, rfl, hv⟩ := datL1 hx
  cases hv with
  | lst hs hl =>
    rw [hl.ints] at hs
    exact ⟨_, ns, rfl, SqL.of (G.sub _ _ hs), h0, fun m h1 h2 => q _ _ F H (p m h1 h2) G.rfl (.int _)⟩
def fMin : FN := fun ds P => ∃ ns : List Int, ds = [.lst (ns.map D.int)] ∧ 0 < ns.length ∧ ∀ m, m ∈ ns → (∀ y, y ∈ ns → m ≤ y) → P (.int m)
def fAll : FN := fun ds P => ∃ bs : List Bool, ds = [.lst (bs.map D.bl)] ∧ P (.bl (bs.all id))
theorem mono_fAll : MonoF fAll := fun ds P P' m ⟨ns, a, p⟩ => ⟨ns, a, m _ p⟩
theorem serves_all : ServesC X c (rAll X.K) fAll := by
  intro F H xs ds P Q G hx h q
  obtain ⟨ns, rfl, p⟩ := h
  obtain ⟨v, rfl, hv⟩ := datL1 hx
  cases hv with
  | lst hs hl =>
    rw [hl.bls] at hs
    exact ⟨_, ns, rfl, SqL.of (G.sub _ _ hs), q _ _ F H p G.rfl (.bl _)⟩
def fTupOf : FN := fun ds P => ∃ l, ds = [.lst l] ∧ P (.tup l) ∨ ds = [.tup l] ∧ P (.tup l)
theorem mono_fTupOf : MonoF fTupOf := fun ds P P' m ⟨l, h⟩ => ⟨l, h.elim (fun a => .inl ⟨a.1, m _ a.2⟩) fun a => .inr ⟨a.1, m _ a.2⟩⟩
theorem serves_tupOf : ServesC X c (fun xs H Q => ∃ p ys, xs = [.ref p] ∧ ((SqL X.K H p ys ∧ ∀ l, H l = none → Q (.ref l) (upd H l (.tup ys))) ∨ (SqT X.K H p ys ∧ Q (.ref p) H))) fTupOf := by
  intro F H xs ds P Q G hx h q
  obtain ⟨l, ⟨rfl, p⟩ | ⟨rfl, p⟩⟩ := h
  · obtain ⟨v, rfl, hv⟩ := datL1 hx
    cases hv with
    | lst hs hl =>
      refine ⟨_, _, rfl, .inl ⟨SqL.of (G.sub _ _ hs), fun t ht => ?_⟩⟩
      exact q _ _ _ _ p (G.laid ht) (.tup (.of upd_same) (hl.mono (G.laid (o := .tup _) ht).grow))
  · obtain ⟨v, rfl, hv⟩ := datL1 hx
    cases hv with
    | tup hs hl => exact ⟨_, _, rfl, .inr ⟨sqT_mono G.sub hs, q _ _ F H p G.rfl (.tup hs hl)⟩⟩
def fLstOf : FN := fun ds P => ∃ l, (ds = [.lst l] ∨ ds = [.tup l]) ∧ P (.lst l)
theorem mono_fLstOf : MonoF fLstOf := fun ds P P' m ⟨l, h, p⟩ => ⟨l, h, m _ p⟩
theorem serves_lstOf : ServesC X c (fun xs H Q => ∃ p ys, xs = [.ref p] ∧ (SqL X.K H p ys ∨ SqT X.K H p ys) ∧ ∀ l, H l = none → Q (.ref l) (upd H l (.lst ys))) fLstOf := by
  intro F H xs ds P Q G hx h q
  obtain ⟨l, h, p⟩ := h
  rcases h with rfl | rfl
  · obtain ⟨v, rfl, hv⟩ := datL1 hx
    cases hv with
    | lst hs hl =>
      refine ⟨_, _, rfl, .inl (SqL.of (G.sub _ _ hs)), fun t ht => ?_⟩
      exact q _ _ _ _ p (G.laid ht) (.lst upd_same (hl.mono (G.laid (o := .lst _) ht).grow))
  · obtain ⟨v, rfl, hv⟩ := datL1 hx
    cases hv with
    | tup hs hl =>
      refine ⟨_, _, rfl, .inr (sqT_mono G.sub hs), fun t ht => ?_⟩
      exact q _ _ _ _ p (G.laid ht) (.lst upd_same (hl.mono (G.laid (o := .lst _) ht).grow))

/-! ### == and != of data -/
mutual
def D.py : D → Option PyData
  | .non => some .none
  | .bl b => some (.bool b)
  | .int i => some (.int i)
  | .str x => some (.str x)
  | .tup xs => (D.pyL xs).map .tuple
  | .lst xs => (D.pyL xs).map .list
  | .ty _ => none
  | .adr _ => none
  | .ins _ _ => none
def D.pyL : List D → Option (List PyData)
  | [] => some []
  | x :: xs => (D.py x).bind fun y => (D.pyL xs).map fun ys => y :: ys
end
mutual
theorem dat_dp {K : PySem.W.Frag} {F : Hp} : ∀ {v : V} {d : D} {p : PyData}, Dat K F v d → d.py = some p → Dp K F v p
  | _, _, _, .non, h => by simp only [D.py, Option.some.injEq] at h; subst h; exact .non
  | _, _, _, .bl b, h => by simp only [D.py, Option.some.injEq] at h; subst h; exact .bl b
  | _, _, _, .int b, h => by simp only [D.py, Option.some.injEq] at h; subst h; exact .int b
  | _, _, _, .str b, h => by simp only [D.py, Option.some.injEq] at h; subst h; exact .str b
  | _, _, _, .ty _, h => by simp [D.py] at h
  | _, _, _, .adr _, h => by simp [D.py] at h
  | _, _, _, .ins _ _, h => by simp [D.py] at h
  | _, .tup ds, _, .tup hs hl, h => by
    simp only [D.py] at h
    cases q : D.pyL ds with
    | none => rw [q] at h; simp at h
    | some ps =>
      rw [q] at h
      simp only [Option.map_some, Option.some.injEq] at h
      subst h
      exact .tup hs (datL_dp hl q)
  | _, .lst ds, _, .lst hs hl, h => by
    simp only [D.py] at h
    cases q : D.pyL ds with
    | none => rw [q] at h; simp at h
    | some ps =>
      rw [q] at h
      simp only [Option.map_some, Option.some.injEq] at h
      subst h
      exact .lst (.of hs) (datL_dp hl q)
theorem datL_dp {K : PySem.W.Frag} {F : Hp} : ∀ {v : List V} {d : List D} {p : List PyData}, DatL K F v d → D.pyL d = some p → DpAll K F v p
  | _, _, _, .nil, h => by simp only [D.pyL, Option.some.injEq] at h; subst h; exact .nil
  | _, d :: ds, _, .cons h1 h2, h => by
    simp only [D.pyL] at h
    cases q : D.py d with
    | none => rw [q] at h; simp at h
    | some p =>
      rw [q] at h
      cases q2 : D.pyL ds with
      | none => rw [q2] at h; simp at h
      | some ps =>
        rw [q2] at h
        simp only [Option.bind_some, Option.map_some, Option.some.injEq] at h
        subst h
        exact .cons (dat_dp h1 q) (datL_dp h2 q2)
end
mutual
theorem Dp.mono {K : PySem.W.Frag} {F H : Hp} (s : Same F H) : ∀ {v : V} {p : PyData}, Dp K F v p → Dp K H v p
  | _, _, .non => .non
  | _, _, .bl b => .bl b
  | _, _, .int i => .int i
  | _, _, .str x => .str x
  | _, _, .lst h k => .lst (s.seq h) (DpAll.mono s k)
  | _, _, .tup h k => .tup (sqT_mono s h) (DpAll.mono s k)
theorem DpAll.mono {K : PySem.W.Frag} {F H : Hp} (s : Same F H) : ∀ {v : List V} {p : List PyData}, DpAll K F v p → DpAll K H v p
  | _, _, .nil => .nil
  | _, _, .cons h k => .cons (Dp.mono s h) (DpAll.mono s k)
end
def fEq (n : Bool) : F2 := fun x y P => ∃ d e, x.py = some d ∧ y.py = some e ∧ SeqAt.shaped d = true ∧ SeqAt.shaped e = true ∧ P (.bl (PyData.eqv d e != n))
theorem mono_fEq {n : Bool} : Mono2 (fEq n) := fun _ _ _ _ m ⟨d, e, a, b, k, l, p⟩ => ⟨d, e, a, b, k, l, m _ p⟩
theorem serves_eq : Serves X c (rEqD X.K) (fEq false) := by
  intro F H x y dx dy P Q G hx hy h q
  obtain ⟨d, e, h1, h2, h3, h4, p⟩ := h
  refine ⟨d, e, Dp.mono G.sub (dat_dp hx h1), Dp.mono G.sub (dat_dp hy h2), h3, h4, q _ _ F H p G.rfl ?_⟩
  rw [show (PyData.eqv d e != false) = PyData.eqv d e from by cases PyData.eqv d e <;> rfl]
  exact .bl _
theorem serves_ne : Serves X c (rNeD X.K) (fEq true) := by
  intro F H x y dx dy P Q G hx hy h q
  obtain ⟨d, e, h1, h2, h3, h4, p⟩ := h
  refine ⟨d, e, Dp.mono G.sub (dat_dp hx h1), Dp.mono G.sub (dat_dp hy h2), h3, h4, q _ _ F H p G.rfl ?_⟩
  rw [show (PyData.eqv d e != true) = !PyData.eqv d e from by cases PyData.eqv d e <;> rfl]
  exact .bl _
/-! ### is None -/
def D.isNon : D → Bool
  | .non => true
  | _ => false
theorem dat_non {K : PySem.W.Frag} {F : Hp} {v : V} {d : D} (h : Dat K F v d) : decide (v = .non) = d.isNon := by
  cases h <;> simp [D.isNon]
def fIs (n : Bool) : F2 := fun x y P => y = .non ∧ P (.bl (x.isNon != n))
theorem mono_fIs {n : Bool} : Mono2 (fIs n) := fun _ _ _ _ m ⟨a, p⟩ => ⟨a, m _ p⟩
theorem serves_is : Serves X c (fun x y H Q => y = .non ∧ Q (.bl (decide (x = .non))) H) (fIs false) := by
  intro F H x y dx dy P Q G hx hy h q
  obtain ⟨rfl, p⟩ := h
  cases hy
  rw [dat_non hx]
  refine ⟨rfl, q _ _ F H p G.rfl ?_⟩
  rw [show (dx.isNon != false) = dx.isNon from by cases dx.isNon <;> rfl]
  exact .bl _
theorem serves_isnot : Serves X c (fun x y H Q => y = .non ∧ Q (.bl (!decide (x = .non))) H) (fIs true) := by
  intro F H x y dx dy P Q G hx hy h q
  obtain ⟨rfl, p⟩ := h
  cases hy
  rw [dat_non hx]
  refine ⟨rfl, q _ _ F H p G.rfl ?_⟩
  rw [show (dx.isNon != true) = !dx.isNon from by cases dx.isNon <;> rfl]
  exact .bl _

/-! ### items -/
def fIx : F2 := fun x y P => ∃ l i d, (x = .lst l ∨ x = .tup l) ∧ y = .int i ∧ atI l i = some d ∧ P d
theorem mono_fIx : Mono2 fIx := fun _ _ _ _ m ⟨l, i, d, a, b, k, p⟩ => ⟨l, i, d, a, b, k, m _ p⟩
theorem datL_atI {K : PySem.W.Frag} {F : Hp} {vs : List V} {ds : List D} {i : Int} {d : D} (h : DatL K F vs ds) (e : atI ds i = some d) : ∃ v, atI vs i = some v ∧ Dat K F v d := by
  unfold atI at e ⊢
  rw [h.length]
  cases q : ixN ds.length i with
  | none => rw [q] at e; simp at e
  | some j =>
    rw [q] at e
    exact h.get e
theorem serves_ixL : Serves X c (fun x y H Q => rIxL X.K x y H Q ∨ rIxT X.K x y H Q) fIx := by
  intro F H x y dx dy P Q G hx hy h q
  obtain ⟨l, i, d, h, rfl, e, p⟩ := h
  cases hy
  rcases h with rfl | rfl
  · cases hx with
    | lst hs hl =>
      obtain ⟨v, h1, h2⟩ := datL_atI hl e
      exact .inl ⟨_, _, i, v, rfl, rfl, SqL.of (G.sub _ _ hs), h1, q _ _ F H p G.rfl h2⟩
  · cases hx with
    | tup hs hl =>
      obtain ⟨v, h1, h2⟩ := datL_atI hl e
      exact .inr ⟨_, _, i, v, rfl, rfl, sqT_mono G.sub hs, h1, q _ _ F H p G.rfl h2⟩
theorem pd_item {a b : Expr} {da db : DE} {pos} (ha : PD X c a da) (hb : PD X c b db) (hs : PlainIx b) : PD X c (.Subscript a b pos) (dOp fIx da db) := pd_ix (ix_list.or ix_tup) serves_ixL mono_fIx ha hb hs

/-! ### lists and tuples put together -/
def rCatS (K : PySem.W.Frag) : R2 := fun x y H Q => ∃ l b xs zs, x = .ref l ∧ y = .ref b ∧ SqL K H l xs ∧ SqL K H b zs ∧ xs.length + zs.length ≤ sizeLine ∧ ∀ p, H p = none → Q (.ref p) (upd H p (.lst (xs ++ zs)))
theorem op_catS : OpR X (binaryOp .Add) (rCatS X.K) := by
  intro pins s σ H x y v u Q I rx ry h
  obtain ⟨l, b, xs, zs, rfl, rfl, hH, hB, hz, q⟩ := h
  cases rx
  cases ry
  obtain ⟨its, r, pl, hl⟩ := I.list hH
  obtain ⟨its2, r2, pl2, hl2⟩ := I.list hB
  obtain ⟨⟨cls, dd, data, sl⟩, ho, hc, n, hd⟩ := id pl.isList
  obtain ⟨⟨cls2, dd2, data2, sl2⟩, ho2, hc2, n2, hd2⟩ := id pl2.isList
  simp only at hc hd hc2 hd2
  subst hc hd hc2 hd2
  have e2 : its.toArray ++ its2.toArray = (its ++ its2).toArray := by simp
  have hz2 : its.toArray.size + its2.toArray.size ≤ sizeLine := by
    rw [List.size_toArray, List.size_toArray, ← r.length, ← r2.length]
    exact hz
  refine concat_meets ⟨_, ho, rfl⟩ ⟨_, ho2, rfl⟩ noFill_list_add seq_list_add PySem.F.slot_list_add PySem.F.entry_list_add (PySem.F.args_list_add_2 _ _) (list_addW l b its.toArray its2.toArray n n2 dd dd2 sl sl2 hz2) ⟨ho, ho2, ?_⟩
  rw [e2]
  exact ⟨.ref _, _, I.lnew (t' := s.toks) (r.append r2) (by rw [List.length_append]; omega), rfl, q _ I.fresh⟩
def fCat : F2 := fun x y P => ∃ l m, x = .lst l ∧ y = .lst m ∧ l.length + m.length ≤ sizeLine ∧ P (.lst (l ++ m))
theorem mono_fCat : Mono2 fCat := fun _ _ _ _ m ⟨l, k, a, b, z, p⟩ => ⟨l, k, a, b, z, m _ p⟩
theorem serves_cat : Serves X c (rCatS X.K) fCat := by
  intro F H x y dx dy P Q G hx hy h q
  obtain ⟨l, m, rfl, rfl, z, p⟩ := h
  cases hx with
  | lst hs hl =>
    cases hy with
    | lst ks kl =>
      refine ⟨_, _, _, _, rfl, rfl, SqL.of (G.sub _ _ hs), SqL.of (G.sub _ _ ks), by rw [hl.length, kl.length]; exact z, fun t ht => ?_⟩
      exact q _ _ _ _ p (G.laid ht) (.lst upd_same ((hl.append kl).mono (G.laid (o := .lst _) ht).grow))
theorem pd_cat {a b : Expr} {da db : DE} {pos} (ha : PD X c a da) (hb : PD X c b db) : PD X c (.BinOp a .Add b pos) (dOp fCat da db) := pd_op op_catS serves_cat mono_fCat ha hb
def fCatT : F2 := fun x y P => ∃ l m, x = .tup l ∧ y = .tup m ∧ l.length + m.length ≤ sizeLine ∧ P (.tup (l ++ m))
theorem mono_fCatT : Mono2 fCatT := fun _ _ _ _ m ⟨l, k, a, b, z, p⟩ => ⟨l, k, a, b, z, m _ p⟩
theorem serves_catT : Serves X c (rCatA X.K) fCatT := by
  intro F H x y dx dy P Q G hx hy h q
  obtain ⟨l, m, rfl, rfl, z, p⟩ := h
  cases hx with
  | @tup a vs ds hs hl =>
    cases hy with
    | @tup b us es ks kl =>
      refine ⟨_, _, _, _, rfl, rfl, sqT_mono G.sub hs, sqT_mono G.sub ks, by rw [hl.length, kl.length]; exact z, fun e => ?_, fun n e => ?_, fun _ _ t ht => ?_⟩
      · subst e
        have e2 := hl.nil_of
        subst e2
        exact q _ _ F H p G.rfl (.tup ks kl)
      · subst e
        have e2 := kl.nil_of
        subst e2
        rw [List.append_nil] at p
        exact q _ _ F H p G.rfl (.tup hs hl)
      · exact q _ _ _ _ p (G.laid ht) (.tup (.of upd_same) ((hl.append kl).mono (G.laid (o := .tup _) ht).grow))
theorem pd_catT {a b : Expr} {da db : DE} {pos} (ha : PD X c a da) (hb : PD X c b db) : PD X c (.BinOp a .Add b pos) (dOp fCatT da db) := pd_op op_catA serves_catT mono_fCatT ha hb

/-! ### x in (texts) -/
def fInS (n : Bool) : F2 := fun x y P => ∃ (s : Str) (l : List Str), x = .str s ∧ y = .tup (l.map D.str) ∧ P (.bl ((l.any fun z => z == s) != n))
theorem any_str (s : Str) : ∀ l : List Str, inV (.str s) (l.map V.str) = l.any fun z => z == s
  | [] => rfl
  | z :: l => by
    have ih := any_str s l
    unfold inV at ih ⊢
    rw [List.map_cons, List.any_cons, List.any_cons, ih]
    rfl
theorem flat_strs : ∀ l : List Str, (l.map V.str).all flatV = true
  | [] => rfl
  | z :: l => by rw [List.map_cons, List.all_cons, flat_strs l]; rfl
theorem serves_in : Serves X c (rIn X.K false) (fInS false) := by
  intro F H x y dx dy P Q G hx hy h q
  obtain ⟨s, l, rfl, rfl, p⟩ := h
  cases hx
  cases hy with
  | tup hs hl =>
    rw [hl.strs] at hs
    refine ⟨_, _, rfl, .inr (sqT_mono G.sub hs), rfl, flat_strs l, ?_⟩
    rw [any_str]
    refine q _ _ F H p G.rfl ?_
    rw [show ((l.any fun z => z == s) != false) = l.any fun z => z == s from by cases l.any fun z => z == s <;> rfl]
    exact .bl _
theorem mono_fInS {n : Bool} : Mono2 (fInS n) := fun _ _ _ _ m ⟨s, l, a, b, p⟩ => ⟨s, l, a, b, m _ p⟩

/-! ### slices -/
abbrev DO := List Sl → (Option Int → Prop) → Prop
structure PDO (X : Cx) (c : Dx) (e : Option Expr) (den : DO) : Prop where
  po : PO X e (fun σ H Q => ∃ F ρ, At X.K c F H σ ρ ∧ den ρ fun b => ∀ F' H', Fr c.W F H F' H' → Q b H')
  mono : Mono den
@[simp] def dNoPart : DO := fun _ P => P none
@[simp] def dPart (de : DE) : DO := fun ρ P => de ρ fun d => ∃ i, d = .int i ∧ P (some i)
theorem impO {e : Option Expr} {t t' : TO} (h : PO X e t) (i : ∀ σ H Q, t' σ H Q → t σ H Q) : PO X e t' := ⟨fun pins s σ H Q I q => h.run pins s σ H Q I (i σ H Q q)⟩
theorem pdo_none : PDO X c none dNoPart := ⟨impO po_none fun σ H Q q => by
  obtain ⟨F, ρ, a, q⟩ := q
  exact q F H a.good.rfl, fun _ _ _ m p => m _ p⟩
theorem pdo_some {e : Expr} {de : DE} (h : PD X c e de) : PDO X c (some e) (dPart de) := ⟨impO (po_some h.pe) fun σ H Q q => by
  obtain ⟨F, ρ, a, q⟩ := q
  refine ⟨F, ρ, a, h.mono _ _ _ (fun d q v F1 H1 f1 d1 => ?_) q⟩
  obtain ⟨i, rfl, q⟩ := q
  cases d1
  exact ⟨i, rfl, q F1 H1 f1⟩, fun ρ P P' m => h.mono ρ _ _ fun d ⟨i, e, p⟩ => ⟨i, e, m _ p⟩⟩
def cutD (xs : List D) (lo hi : Option Int) : List D := (xs.drop (HT.sIx xs.length 0 lo)).take (HT.sIx xs.length xs.length hi - HT.sIx xs.length 0 lo)
theorem datL_cut {K : PySem.W.Frag} {F : Hp} {vs : List V} {ds : List D} (h : DatL K F vs ds) (lo hi : Option Int) : DatL K F (cutV vs lo hi) (cutD ds lo hi) := by
  unfold cutV cutD
  rw [h.length]
  exact (h.drop _).take _
@[simp] def dSl (te : DE) (tl th : DO) : DE := fun ρ P => te ρ fun x => tl ρ fun l => th ρ fun u => (∃ xs, x = .lst xs ∧ P (.lst (cutD xs l u))) ∨ ∃ xs, x = .tup xs ∧ P (.tup (cutD xs l u))
theorem cut_whole {xs : List D} {lo hi : Option Int} (h : HT.sIx xs.length 0 lo = 0 ∧ HT.sIx xs.length xs.length hi = xs.length) : cutD xs lo hi = xs := by
  unfold cutD
  rw [h.1, h.2]
  simp
theorem pd_slice {e : Expr} {lo hi : Option Expr} {de : DE} {dl dh : DO} {p2 pos} (he : PD X c e de) (hl : PDO X c lo dl) (hh : PDO X c hi dh) : PD X c (.Subscript e (.Slice lo hi none p2) pos) (dSl de dl dh) := by
  refine ⟨imp (pe_slice (sl_list.or sl_tupA) he.pe hl.po hh.po) fun σ H Q q => ?_, fun ρ P P' m => he.mono ρ _ _ fun x => hl.mono ρ _ _ fun l => hh.mono ρ _ _ fun u => fun h => h.elim (fun ⟨xs, e, p⟩ => .inl ⟨xs, e, m _ p⟩) fun ⟨xs, e, p⟩ => .inr ⟨xs, e, m _ p⟩⟩
  obtain ⟨F, ρ, a, q⟩ := q
  refine ⟨F, ρ, a, he.mono _ _ _ (fun x q v F1 H1 f1 d1 => ?_) q⟩
  refine ⟨F1, ρ, a.fr f1, hl.mono _ _ _ (fun l q F2 H2 f2 => ?_) q⟩
  refine ⟨F2, ρ, (a.fr f1).fr f2, hh.mono _ _ _ (fun u q F3 H3 f3 => ?_) q⟩
  have d3 := d1.mono (f2.trans f3).grow
  have G := f3.good
  rcases q with ⟨xs, rfl, p⟩ | ⟨xs, rfl, p⟩
  · cases d3 with
    | lst hs hl =>
      refine .inl ⟨_, _, rfl, SqL.of (G.sub _ _ hs), fun t ht => ?_⟩
      exact p _ _ _ (f1.trans (f2.trans (f3.trans (G.laid ht)))) (.lst upd_same ((datL_cut hl l u).mono (G.laid (o := .lst _) ht).grow))
  · cases d3 with
    | @tup b vs _ hs hl =>
      have hlen := hl.length
      refine .inr ⟨_, _, rfl, sqT_mono G.sub hs, fun w => ?_, fun _ t ht => ?_⟩
      · rw [hlen] at w
        rw [cut_whole w] at p
        exact p _ _ _ (f1.trans (f2.trans f3)) (.tup hs hl)
      · exact p _ _ _ (f1.trans (f2.trans (f3.trans (G.laid ht)))) (.tup (.of upd_same) ((datL_cut hl l u).mono (G.laid (o := .tup _) ht).grow))
end
end DL
set_option Elab.async false
set_option linter.all false
set_option maxRecDepth 100000
set_option maxHeartbeats 1000000
set_option autoImplicit false
namespace DL
open PySem PySem.Spec PyProof.Rows L2
section
variable {X : Cx} {c : Dx}
/-! ### targets -/
abbrev DG := D → List Sl → Option (List Sl)
def GOk (K : PySem.W.Frag) (c : Dx) (set : DG) (ns : List Nat) (g : TG) : Prop := ∀ F H x d σ ρ ρ' (Q : L2.St → Hp → Prop), Good c.W F H → Slots K c.W c.H0 F H σ ρ → Dat K F x d → set d ρ = some ρ' →
    (∀ σ', Slots K c.W c.H0 F H σ' ρ' → (∀ vs : List Nat, (∀ n ∈ ns, n ∈ vs) → wipe σ' vs = wipe σ vs) → Q σ' H) → g x σ H Q
structure PGd (X : Cx) (c : Dx) (tg : Expr) (set : DG) (ns : List Nat) (g : TG) : Prop where
  pg : PG X tg g
  ok : GOk X.K c set ns g
theorem wipe_set {σ : L2.St} {i : Nat} {o : Option V} : ∀ {vs : List Nat}, i ∈ vs → wipe (σ.set i o) vs = wipe σ vs
  | v :: vs, h => by
    unfold wipe
    by_cases e : i ∈ vs
    · rw [wipe_set e]
    · have ev : i = v := by
        rcases List.mem_cons.mp h with z | z
        · exact z
        · exact absurd z e
      subst ev
      rw [wipe_out e, List.set_set]
  where wipe_out {σ : L2.St} {i : Nat} {o : Option V} : ∀ {vs : List Nat}, i ∉ vs → wipe (σ.set i o) vs = (wipe σ vs).set i o
  | [], _ => rfl
  | v :: vs, h => by
    have h1 : i ≠ v := fun e => h (by simp [e])
    have h2 : i ∉ vs := fun e => h (by simp [e])
    unfold wipe
    rw [wipe_out h2, List.set_comm _ _ h1]
@[simp] def setN (i : Nat) : DG := fun d ρ => some (ρ.set i (.fz d))
theorem pgd_name {i : Nat} {x : Str} {pos : Pos} (hN : X.N.Nodup) (hi : X.N[i]? = some x) (hx : Loc X.env.scope x) (hf : X.fn x = true ∨ X.env.scope.names.lookup x = some .local := by first | exact .inl rfl | exact .inr rfl | assumption) : PGd X c (.Name x pos) (setN i) [i] (gName i) :=
  ⟨pg_name hN hi hx hf, fun F H x d σ ρ ρ' Q G s hd e k => by
    obtain rfl := Option.some.inj e
    exact k _ (s.set i hd) fun vs h => wipe_set (h i (by simp))⟩
abbrev DGs := List D → List Sl → Option (List Sl)
structure PGds (X : Cx) (c : Dx) (tg : List Expr) (set : DGs) (ns : List Nat) (g : TGs) : Prop where
  pg : PGs X tg g
  ok : ∀ F H x d σ ρ ρ' (Q : L2.St → Hp → Prop), Good c.W F H → Slots X.K c.W c.H0 F H σ ρ → DatL X.K F x d → set d ρ = some ρ' →
    (∀ σ', Slots X.K c.W c.H0 F H σ' ρ' → (∀ vs : List Nat, (∀ n ∈ ns, n ∈ vs) → wipe σ' vs = wipe σ vs) → Q σ' H) → g x σ H Q
@[simp] def setNil : DGs := fun ds ρ => match ds with
  | [] => some ρ
  | _ => none
@[simp] def setCons (s : DG) (t : DGs) : DGs := fun ds ρ => match ds with
  | [] => none
  | d :: r => (s d ρ).bind fun ρ1 => t r ρ1
theorem pgds_nil : PGds X c [] setNil [] gNil := ⟨pgs_nil, fun F H x d σ ρ ρ' Q G s hd e k => by
  cases hd with
  | nil =>
    obtain rfl := Option.some.inj e
    exact ⟨rfl, k _ s fun _ _ => rfl⟩
  | cons _ _ => cases e⟩
theorem pgds_cons {e : Expr} {es : List Expr} {s : DG} {t : DGs} {ns ms : List Nat} {g : TG} {u : TGs} (h : PGd X c e s ns g) (k : PGds X c es t ms u) (hs : (assignEach (e :: es) X.env).map (·.2) = assign e X.env :: (assignEach es X.env).map (·.2) := by rfl) : PGds X c (e :: es) (setCons s t) (ns ++ ms) (gCons g u) := by
  refine ⟨pgs_cons h.pg k.pg hs, fun F H x d σ ρ ρ' Q G sl hd e q => ?_⟩
  cases hd with
  | nil => cases e
  | @cons v vs d ds h1 h2 =>
    unfold setCons at e
    simp only at e
    cases q1 : s d ρ with
    | none => rw [q1] at e; cases e
    | some ρ1 =>
      rw [q1] at e
      simp only [Option.bind_some] at e
      refine ⟨v, vs, rfl, h.ok F H v d σ ρ ρ1 _ G sl h1 q1 fun σ1 s1 w1 => ?_⟩
      refine k.ok F H vs ds σ1 ρ1 ρ' _ G s1 h2 e fun σ2 s2 w2 => q σ2 s2 fun ws hw => ?_
      rw [w2 ws fun n hn => hw n (List.mem_append_right _ hn), w1 ws fun n hn => hw n (List.mem_append_left _ hn)]
@[simp] def setT (t : DGs) : DG := fun d ρ => match d with
  | .tup ds => t ds ρ
  | _ => none
theorem pgd_tup {es : List Expr} {kk : Nat} {pos : Pos} {t : DGs} {ns : List Nat} {u : TGs} {n : Nat} (hc : X.calm = true) (h : PGds X c es t ns u) (ht : ∀ ds ρ ρ', t ds ρ = some ρ' → ds.length = n)
    (hn : (assignEach es X.env).length = n := by rfl) (hst : (assignEach es X.env).findIdx? (·.1) = none := by rfl) : PGd X c (.Tuple es kk pos) (setT t) ns (gTup X.K n u) := by
  refine ⟨pg_tup hc h.pg hn hst, fun F H x d σ ρ ρ' Q G s hd e k => ?_⟩
  cases hd with
  | tup hs hl =>
    exact ⟨_, _, rfl, sqT_mono G.sub hs, hl.length.trans (ht _ _ _ e), h.ok F H _ _ σ ρ ρ' Q G s hl e k⟩
  | _ => cases e
theorem setNil_len {ds : List D} {ρ ρ' : List Sl} (h : setNil ds ρ = some ρ') : ds.length = 0 := by
  cases ds with
  | nil => rfl
  | cons _ _ => cases h
theorem setCons_len {s : DG} {t : DGs} {n : Nat} (h : ∀ ds ρ ρ', t ds ρ = some ρ' → ds.length = n) : ∀ ds ρ ρ', setCons s t ds ρ = some ρ' → ds.length = n + 1 := by
  intro ds ρ ρ' e
  cases ds with
  | nil => cases e
  | cons d r =>
    unfold setCons at e
    simp only at e
    cases q1 : s d ρ with
    | none => rw [q1] at e; cases e
    | some ρ1 =>
      rw [q1] at e
      rw [List.length_cons, h _ _ _ e]
theorem set0 : ∀ ds ρ ρ', setNil ds ρ = some ρ' → ds.length = 0 := fun _ _ _ h => setNil_len h

/-! ### what is walked -/
def WalksD (X : Cx) (c : Dx) (F : Hp) (J : It) (xs : List D) : Prop := ∀ F1 H1, Same F F1 → Good c.W F1 H1 → ∀ i,
  (∀ d, xs[i]? = some d → J.go i H1 ∧ ∀ x H', J.yld i H1 x H' → ∃ F', Fr c.W F1 H1 F' H' ∧ Dat X.K F' x d) ∧ (xs.length ≤ i → J.stop i H1)
def upI (X : Cx) (c : Dx) (di : DA) : TI := fun σ H R => ∃ F ρ, At X.K c F H σ ρ ∧ di ρ fun xs => ∀ J F' H', Fr c.W F H F' H' → WalksD X c F' J xs → R J H'
structure PId (X : Cx) (c : Dx) (tg iter : Expr) (di : DA) : Prop where
  pi : PI X tg iter (upI X c di)
  mono : Mono di
theorem impI {tg iter : Expr} {t t' : TI} (h : PI X tg iter t) (i : ∀ σ H Q, t' σ H Q → t σ H Q) : PI X tg iter t' := ⟨fun pins s σ H Q I q => h.run pins s σ H Q I (i σ H Q q)⟩
@[simp] def dItL (de : DE) : DA := fun ρ P => de ρ fun d => ∃ xs, d = .lst xs ∧ P xs
@[simp] def dItT (de : DE) : DA := fun ρ P => de ρ fun d => ∃ xs, d = .tup xs ∧ P xs
theorem walks_list {K : PySem.W.Frag} {F : Hp} {a : Addr} {vs : List V} {xs : List D} (hK : X.K = K) (hs : SqL K F a vs) (hl : DatL K F vs xs) : WalksD X c F (Itl K a) xs := by
  subst hK
  intro F1 H1 e G i
  have hs1 := G.sub.seq (e.seq hs)
  refine ⟨fun d hd => ?_, fun h => ⟨vs, hs1, by rw [hl.length]; exact h⟩⟩
  obtain ⟨v, h1, h2⟩ := hl.get hd
  refine ⟨⟨vs, v, hs1, h1⟩, fun x H' y => ?_⟩
  obtain ⟨eq, y⟩ := y
  subst eq
  have e1 := y vs hs1
  rw [h1] at e1
  obtain rfl := Option.some.inj e1
  exact ⟨F1, G.rfl, h2.mono e⟩
theorem walks_tup {K : PySem.W.Frag} {F : Hp} {a : Addr} {vs : List V} {xs : List D} (hK : X.K = K) (hs : SqT K F a vs) (hl : DatL K F vs xs) : WalksD X c F (Itt K a) xs := by
  subst hK
  intro F1 H1 e G i
  have hs1 := sqT_mono G.sub (sqT_mono e hs)
  refine ⟨fun d hd => ?_, fun h => ⟨vs, hs1, by rw [hl.length]; exact h⟩⟩
  obtain ⟨v, h1, h2⟩ := hl.get hd
  refine ⟨⟨vs, v, hs1, h1⟩, fun x H' y => ?_⟩
  obtain ⟨eq, y⟩ := y
  subst eq
  have e1 := y vs hs1
  rw [h1] at e1
  obtain rfl := Option.some.inj e1
  exact ⟨F1, G.rfl, h2.mono e⟩
theorem pid_list {tg l : Expr} {de : DE} (h : PD X c l de) : PId X c tg l (dItL de) := by
  refine ⟨impI (pi_list h.pe) fun σ H Q q => ?_, fun ρ P P' m => h.mono ρ _ _ fun d ⟨xs, e, p⟩ => ⟨xs, e, m _ p⟩⟩
  obtain ⟨F, ρ, a, q⟩ := q
  refine ⟨F, ρ, a, h.mono _ _ _ (fun d q v F1 H1 f1 d1 => ?_) q⟩
  obtain ⟨xs, rfl, q⟩ := q
  cases d1 with
  | lst hs hl => exact ⟨_, rfl, ⟨_, .of (f1.good.sub _ _ hs)⟩, q _ F1 H1 f1 (walks_list rfl (.of hs) hl)⟩
theorem pid_tup {tg l : Expr} {de : DE} (h : PD X c l de) : PId X c tg l (dItT de) := by
  refine ⟨impI (pi_tup h.pe) fun σ H Q q => ?_, fun ρ P P' m => h.mono ρ _ _ fun d ⟨xs, e, p⟩ => ⟨xs, e, m _ p⟩⟩
  obtain ⟨F, ρ, a, q⟩ := q
  refine ⟨F, ρ, a, h.mono _ _ _ (fun d q v F1 H1 f1 d1 => ?_) q⟩
  obtain ⟨xs, rfl, q⟩ := q
  cases d1 with
  | tup hs hl => exact ⟨_, rfl, ⟨_, sqT_mono f1.good.sub hs⟩, q _ F1 H1 f1 (walks_tup rfl hs hl)⟩
/-- range(n) -/
@[simp] def dItR (de : DE) : DA := fun ρ P => de ρ fun d => ∃ n : Int, d = .int n ∧ n < 2 ^ 62 ∧ -(2 ^ 62) ≤ n ∧ P ((List.range n.toNat).map fun (i : Nat) => D.int (i : Int))
theorem pid_range {tg a : Expr} {de : DE} {p pos : Pos} (hg : Gl X "range") (hm : X.mg "range" = none) (h : PD X c a de) (hs : starEach [a] X.env = [(false, eval a X.env)] := by rfl) : PId X c tg (.Call (.Name "range" p) [a] [] pos) (dItR de) := by
  refine ⟨impI (pi_range1 hg hm (pa_cons h.pe pa_nil hs) hs) fun σ H Q q => ?_, fun ρ P P' m => h.mono ρ _ _ fun d ⟨xs, e, l, l2, p⟩ => ⟨xs, e, l, l2, m _ p⟩⟩
  obtain ⟨F, ρ, a, q⟩ := q
  refine ⟨F, ρ, a, h.mono _ _ _ (fun d q v F1 H1 f1 d1 => ?_) q⟩
  obtain ⟨n, rfl, l, l2, q⟩ := q
  cases d1
  refine ⟨n, rfl, l2, l, q _ F1 H1 f1 fun F2 H2 e G i => ⟨fun d hd => ?_, fun hi => ?_⟩⟩
  · have hi : i < n.toNat := by
      have := (List.getElem?_eq_some_iff.mp hd).1
      simpa using this
    rw [List.getElem?_map, List.getElem?_range hi] at hd
    simp only [Option.map_some, Option.some.injEq] at hd
    subst hd
    refine ⟨hi, fun x H' y => ?_⟩
    obtain ⟨eq, y⟩ := y
    subst eq y
    refine ⟨F2, G.rfl, ?_⟩
    rw [Int.zero_add]
    exact .int _
  · show n.toNat ≤ i
    simpa using hi

/-! ### list comprehensions -/
@[simp] def dWipe (ρ : List Sl) : List Nat → List Sl
  | [] => ρ
  | v :: vs => (dWipe ρ vs).set v .un
theorem Slots.wipe {F H : Hp} {σ : L2.St} {ρ : List Sl} (s : Slots X.K c.W c.H0 F H σ ρ) : ∀ vs : List Nat, Slots X.K c.W c.H0 F H (L2.wipe σ vs) (dWipe ρ vs)
  | [] => s
  | v :: vs => (Slots.wipe s vs).forget v none
def dComp (set : DG) (tt : DT) (de : DE) (ρ : List Sl) : List D → List D → (List D → Prop) → Prop
  | [], acc, P => P acc
  | x :: r, acc, P => ∃ ρ1, set x ρ = some ρ1 ∧ tt ρ1 fun b => if b = true then de ρ1 fun y => dComp set tt de ρ r (acc ++ [y]) P else dComp set tt de ρ r acc P
theorem dComp_mono {set : DG} {tt : DT} {de : DE} (mt : Mono tt) (me : Mono de) {ρ : List Sl} : ∀ (xs acc : List D) (P P' : List D → Prop), (∀ d, P d → P' d) → dComp set tt de ρ xs acc P → dComp set tt de ρ xs acc P'
  | [], acc, P, P', m, h => m _ h
  | x :: r, acc, P, P', m, ⟨ρ1, e, h⟩ => ⟨ρ1, e, mt _ _ _ (fun b q => by
      cases b with
      | true => exact me _ _ _ (fun y q => dComp_mono mt me r _ P P' m q) q
      | false => exact dComp_mono mt me r _ P P' m q) h⟩
@[simp] def dLc (di : DA) (set : DG) (tt : DT) (de : DE) (vs : List Nat) : DE := fun ρ P => di ρ fun xs => xs.length < sizeLine ∧ dComp set tt de (dWipe ρ vs) xs [] fun ys => P (.lst ys)
abbrev dYes : DT := fun _ P => P true
structure PTd (X : Cx) (c : Dx) (ifs : List Expr) (t : DT) : Prop where
  pt : PTs X ifs (upT X c t)
  mono : Mono t
theorem ptd_nil : PTd X c [] dYes := ⟨⟨fun pins s σ H Q I h => by
  obtain ⟨F, ρ, a, q⟩ := h
  exact pts_nil.run pins s σ H Q I (q F H a.good.rfl)⟩, fun _ _ _ m p => m _ p⟩
theorem ptd_one {e : Expr} {t : DT} (h : PDT X c e t) : PTd X c [e] t := ⟨pts_one h.pt, h.mono⟩
theorem same_upd {F : Hp} {p : Addr} {o : HO} (h : F p = none) : Same F (upd F p o) := fun a u e => by
  rw [upd_ne (ne_of_none e h)]
  exact e
theorem wipe_wipe {σ : L2.St} {vs : List Nat} : L2.wipe (L2.wipe σ vs) vs = L2.wipe σ vs := by
  have key : ∀ (ws : List Nat), (∀ v ∈ ws, v ∈ vs) → L2.wipe (L2.wipe σ vs) ws = L2.wipe σ vs := by
    intro ws
    induction ws with
    | nil => intro _; rfl
    | cons v r ih =>
      intro h
      show (L2.wipe (L2.wipe σ vs) r).set v none = L2.wipe σ vs
      rw [ih fun x hx => h x (List.mem_cons_of_mem _ hx)]
      have hv := h v (List.mem_cons_self ..)
      have : ∀ (us : List Nat), v ∈ us → (L2.wipe σ us).set v none = L2.wipe σ us := by
        intro us
        induction us with
        | nil => intro hm; cases hm
        | cons u t iht =>
          intro hm
          show ((L2.wipe σ t).set u none).set v none = (L2.wipe σ t).set u none
          by_cases e : v = u
          · subst e
            rw [List.set_set]
          · have hm' : v ∈ t := (List.mem_cons.mp hm).resolve_left e
            rw [List.set_comm _ _ (Ne.symm e), iht hm']
      exact this vs hv
  exact key vs fun v h => h
section
variable {W : Option Addr} {F1 H1 F2 H2 F5 H5 : Hp} {Dl : Addr} {o o' : HO}
theorem upd_own (g : Fr W F1 H1 F5 H5) (hD : H1 Dl = none) (n : F5 Dl = none) (w : W ≠ some Dl) : Fr W F1 H1 F5 (upd H5 Dl o') where
  sub := fun a u h => by
    rw [upd_ne (ne_of_none h n)]
    exact g.sub a u h
  grow := g.grow
  keep := fun a u h k => by
    rw [upd_ne (ne_of_none h hD)]
    exact g.keep a u h k
  new := g.new
  well := fun a h => by
    have ne : a ≠ Dl := fun e => w (by rw [h, e])
    obtain ⟨n, i, j, k, e⟩ := g.well a h
    exact ⟨n, i, j, k, by rw [upd_ne ne]; exact e⟩
theorem freeze_new (f : Fr W F1 H1 F2 H2) (hD : H1 Dl = none) (n : F2 Dl = none) (h : H2 Dl = some o) (w : W ≠ some Dl) : Fr W F1 H1 (upd F2 Dl o) H2 where
  sub := fun a u e => by
    by_cases q : a = Dl
    · subst q
      rw [upd_same] at e
      rw [h, e]
    · rw [upd_ne q] at e
      exact f.sub a u e
  grow := fun a u e => by
    have e2 := f.grow a u e
    rw [upd_ne (ne_of_none e2 n)]
    exact e2
  keep := f.keep
  new := fun a u e => by
    by_cases q : a = Dl
    · subst q
      exact .inr hD
    · rw [upd_ne q] at e
      exact f.new a u e
  well := fun a e => by
    have ne : a ≠ Dl := fun q => w (by rw [e, q])
    obtain ⟨n, r⟩ := f.well a e
    exact ⟨by rw [upd_ne ne]; exact n, r⟩
theorem own_free (f : Fr W F2 H2 F5 H5) (n : F2 Dl = none) (h : H2 Dl = some o) : F5 Dl = none := by
  cases z : F5 Dl with
  | none => rfl
  | some u =>
    rcases f.new Dl u z with e | e
    · rw [n] at e; cases e
    · rw [h] at e; cases e
end
theorem lc_up {di : DA} {set : DG} {g : TG} {tt : DT} {de : DE} {ns : List Nat} (own : List Nat) (hi : Mono di) (hg : GOk X.K c set ns g) (hns : ∀ n ∈ ns, n ∈ own) (mt : Mono tt) (me : Mono de) :
    ∀ σ H Q, up X c (dLc di set tt de own) σ H Q → tLc (upI X c di) g (upT X c tt) (up X c de) own σ H Q := by
  intro σ H Q q
  obtain ⟨F, ρ, a, q⟩ := q
  refine ⟨F, ρ, a, hi _ _ _ (fun xs q J F1 H1 f1 wk Dl hD => ?_) q⟩
  obtain ⟨hz, q⟩ := q
  have a1 := a.fr f1
  have hDW : c.W ≠ some Dl := fun e => by
    obtain ⟨_, i, j, k, e2⟩ := f1.well _ e
    rw [hD] at e2; cases e2
  -- the invariant
  refine ⟨fun i m H2 => m = xs.length - i ∧ i ≤ xs.length ∧ ∃ F2 acc dacc, Fr c.W F1 H1 F2 H2 ∧ F2 Dl = none ∧ H2 Dl = some (.lst acc) ∧ DatL X.K F2 acc dacc ∧ acc.length ≤ i ∧
    dComp set tt de (dWipe ρ own) (xs.drop i) dacc (fun ys => ∀ v F' H', Fr c.W F H F' H' → Dat X.K F' v (.lst ys) → Q v H'), ⟨xs.length, by omega, by omega, F1, [], [], f1.good.hid hD, f1.good.free hD, upd_same, .nil, Nat.le_refl _, by simpa using q⟩, ?_⟩
  · rintro i m H2 ⟨rfl, hi, F2, acc, dacc, f12, fD2, hacc, dl, hlen, q2⟩
    have W2 := wk F2 H2 f12.grow f12.good i
    by_cases hlt : i < xs.length
    · have hx : xs[i]? = some xs[i] := List.getElem?_eq_getElem hlt
      rw [List.drop_eq_getElem_cons hlt] at q2
      obtain ⟨ρ1, eset, q2⟩ := q2
      obtain ⟨hgo, hy⟩ := W2.1 _ hx
      refine .inr ⟨hgo, fun H' => ∃ F3 acc dacc, Fr c.W F1 H1 F3 H' ∧ F3 Dl = none ∧ H' Dl = some (.lst acc) ∧ DatL X.K F3 acc dacc ∧ acc.length ≤ i + 1 ∧
        dComp set tt de (dWipe ρ own) (xs.drop (i + 1)) dacc (fun ys => ∀ v F' H', Fr c.W F H F' H' → Dat X.K F' v (.lst ys) → Q v H'), fun H' hN => ⟨xs.length - (i + 1), by omega, rfl, by omega, hN⟩, fun x H3 y => ?_⟩
      obtain ⟨F3, f3, dx⟩ := hy x H3 y
      have f123 := f12.trans f3
      have hD3 : H3 Dl = some (.lst acc) := f3.keep _ _ hacc hDW
      refine hg F3 H3 x xs[i] _ _ ρ1 _ f3.good ((a1.fr f123).sl.wipe own) dx eset fun σ' s' w' => ⟨?_, ?_⟩
      · have := w' own hns
        rw [this, wipe_wipe]
      · refine ⟨F3, ρ1, ⟨(a1.fr f123).en, s'⟩, mt _ _ _ (fun b q F4 H4 f4 => ?_) q2⟩
        cases b with
        | true =>
          refine ⟨F4, ρ1, ⟨((a1.fr f123).en).trans f4, s'.fr f4⟩, me _ _ _ (fun y q v F5 H5 f5 dy => ?_) q⟩
          have hD5 : H5 Dl = some (.lst acc) := f5.keep _ _ (f4.keep _ _ hD3 hDW) hDW
          have fD5 : F5 Dl = none := own_free (f3.trans (f4.trans f5)) fD2 hacc
          exact ⟨acc, hD5, by omega, F5, acc ++ [v], dacc ++ [y], upd_own (f12.trans (f3.trans (f4.trans f5))) hD fD5 hDW, fD5, upd_same, ((dl.mono (f3.trans (f4.trans f5)).grow).snoc dy), by simp; omega, q⟩
        | false =>
          exact ⟨F4, acc, dacc, f12.trans (f3.trans f4), own_free (f3.trans f4) fD2 hacc, f4.keep _ _ hD3 hDW, dl.mono (f3.trans f4).grow, by omega, q⟩
    · have e : i = xs.length := by omega
      subst e
      refine .inl ⟨W2.2 (Nat.le_refl _), ?_⟩
      rw [List.drop_length] at q2
      have f := freeze_new f12 hD fD2 hacc hDW
      exact q2 (.ref Dl) (upd F2 Dl (.lst acc)) H2 (f1.trans f) (.lst upd_same (dl.mono (same_upd fD2)))
end
end DL
set_option Elab.async false
set_option linter.all false
set_option maxRecDepth 100000
set_option maxHeartbeats 1000000
set_option autoImplicit false
namespace DL
open PySem PySem.Spec PyProof.Rows L2
section
variable {X : Cx} {c : Dx}
theorem pd_lc {elt tg iter : Expr} {ifs : List Expr} {scope : Scope} {own : List (Str × Nat)} {pos : Pos} {di : DA} {set : DG} {ns : List Nat} {g : TG} {tt : DT} {de : DE} (hc : X.calm = true) (hN : X.N.Nodup) (hi : PId X c tg iter di) (ok : BlkOk X.N X.env.scope scope own)
    (hg : ∀ (s : Shared) (H : Hp) (C : Addr) (cl : List (Str × Addr)) (fp : List Addr), PGd (X.blk s H scope (compEnvC scope cl C X.env) fp) c tg set ns g) (hns : ∀ n ∈ ns, n ∈ own.map (·.2))
    (ht : ∀ (s : Shared) (H : Hp) (C : Addr) (cl : List (Str × Addr)) (fp : List Addr), PTd (X.blk s H scope (compEnvC scope cl C X.env) fp) c ifs tt)
    (he : ∀ (s : Shared) (H : Hp) (C : Addr) (cl : List (Str × Addr)) (fp : List Addr), PD (X.blk s H scope (compEnvC scope cl C X.env) fp) c elt de) (hs : ∀ x, foldedSetIterable iter X.env x = pure x := by intro _; rfl) :
    PD X c (.ListComp elt [⟨tg, iter, ifs, 0⟩] scope pos) (dLc di set tt de (own.map (·.2))) := by
  have mt : Mono tt := (ht X.s_0 X.H_0 0 [] []).mono
  have me : Mono de := (he X.s_0 X.H_0 0 [] []).mono
  refine ⟨imp (pe_lc hc hN hi.pi ok (fun s H C cl fp => (hg s H C cl fp).pg) (fun s H C cl fp => (ht s H C cl fp).pt) (fun s H C cl fp => (he s H C cl fp).pe) hs)
    (lc_up _ hi.mono (hg X.s_0 X.H_0 0 [] []).ok hns mt me), fun ρ P P' m => hi.mono ρ _ _ fun xs q => ⟨q.1, dComp_mono mt me _ _ _ _ (fun ys p => m _ p) q.2⟩⟩

/-! ### statements -/
structure DEnds where
  nx : List Sl → Prop
  rt : D → Prop
  bk : List Sl → Prop := fun _ => False
  ct : List Sl → Prop := fun _ => False
structure Links (X : Cx) (c : Dx) (F : Hp) (De : DEnds) (E : Ends) : Prop where
  nx : ∀ ρ' σ' F' H', De.nx ρ' → Same F F' → At X.K c F' H' σ' ρ' → E.nx σ' H'
  rt : ∀ d v F' H', De.rt d → Same F F' → Fr c.W c.F0 c.H0 F' H' → Dat X.K F' v d → E.rt v H'
  bk : ∀ ρ' σ' F' H', De.bk ρ' → Same F F' → At X.K c F' H' σ' ρ' → E.bk σ' H'
  ct : ∀ ρ' σ' F' H', De.ct ρ' → Same F F' → At X.K c F' H' σ' ρ' → E.ct σ' H'
abbrev DS := DEnds → List Sl → Prop
def upS (X : Cx) (c : Dx) (den : DS) : TS := fun E σ H => ∃ F ρ De, At X.K c F H σ ρ ∧ Links X c F De E ∧ den De ρ
structure PSd (X : Cx) (c : Dx) (st : Stmt) (den : DS) : Prop where
  ps : PS X st (upS X c den)
structure PSsd (X : Cx) (c : Dx) (st : List Stmt) (den : DS) : Prop where
  ps : PSs X st (upS X c den)
theorem impS {st : Stmt} {t t' : TS} (h : PS X st t) (i : ∀ D σ H, t' D σ H → t D σ H) : PS X st t' := ⟨fun pins s σ H D I q => h.run pins s σ H D I (i D σ H q)⟩
theorem impSs {st : List Stmt} {t t' : TS} (h : PSs X st t) (i : ∀ D σ H, t' D σ H → t D σ H) : PSs X st t' := ⟨fun pins s σ H D I q => h.run pins s σ H D I (i D σ H q)⟩
theorem Links.grow {F F' : Hp} {De : DEnds} {E : Ends} (l : Links X c F De E) (e : Same F F') : Links X c F' De E :=
  ⟨fun ρ' σ' F1 H1 h s a => l.nx ρ' σ' F1 H1 h (e.trans s) a, fun d v F1 H1 h s a => l.rt d v F1 H1 h (e.trans s) a, fun ρ' σ' F1 H1 h s a => l.bk ρ' σ' F1 H1 h (e.trans s) a, fun ρ' σ' F1 H1 h s a => l.ct ρ' σ' F1 H1 h (e.trans s) a⟩
@[simp] def dSkip : DS := fun De ρ => De.nx ρ
@[simp] def dSeq (a b : DS) : DS := fun De ρ => a { De with nx := fun ρ' => b De ρ' } ρ
theorem pssd_nil : PSsd X c [] dSkip := ⟨impSs pss_nil fun D σ H q => by
  obtain ⟨F, ρ, De, a, l, q⟩ := q
  exact l.nx ρ σ F H q (Same.refl F) a⟩
theorem pssd_cons {st : Stmt} {rest : List Stmt} {a b : DS} (h1 : PSd X c st a) (h2 : PSsd X c rest b) : PSsd X c (st :: rest) (dSeq a b) := ⟨impSs (pss_cons h1.ps h2.ps) fun D σ H q => by
  obtain ⟨F, ρ, De, a, l, q⟩ := q
  exact ⟨F, ρ, { De with nx := fun ρ' => b De ρ' }, a, ⟨fun ρ' σ' F' H' h s a' => ⟨F', ρ', De, a', l.grow s, h⟩, l.rt, l.bk, l.ct⟩, q⟩⟩
theorem pssd_one {st : Stmt} {a : DS} (h1 : PSd X c st a) : PSsd X c [st] a := ⟨pss_one h1.ps⟩
theorem psd_pass {pos} : PSd X c (.Pass pos) dSkip := ⟨impS ps_pass fun D σ H q => by
  obtain ⟨F, ρ, De, a, l, q⟩ := q
  exact l.nx ρ σ F H q (Same.refl F) a⟩
theorem psd_doc {x j pos pos'} : PSd X c (.Expr (.Constant (.str x) j pos) pos') dSkip := ⟨impS ps_doc fun D σ H q => by
  obtain ⟨F, ρ, De, a, l, q⟩ := q
  exact l.nx ρ σ F H q (Same.refl F) a⟩
@[simp] def dNever : DS := fun _ _ => False
theorem psd_never {st : Stmt} : PSd X c st dNever := ⟨impS ps_never fun D σ H q => by
  obtain ⟨F, ρ, De, a, l, q⟩ := q
  exact q⟩
@[simp] def dRet (de : DE) : DS := fun De ρ => de ρ De.rt
theorem psd_ret {e : Expr} {de : DE} {pos} (h : PD X c e de) : PSd X c (.Return (some e) pos) (dRet de) := ⟨impS (ps_ret h.pe) fun D σ H q => by
  obtain ⟨F, ρ, De, a, l, q⟩ := q
  exact ⟨F, ρ, a, h.mono _ _ _ (fun d q v F' H' f dd => l.rt d v F' H' q f.grow (a.en.trans f) dd) q⟩⟩
@[simp] def dRetN : DS := fun De _ => De.rt .non
theorem psd_retN {pos} : PSd X c (.Return none pos) dRetN := ⟨impS ps_retN fun D σ H q => by
  obtain ⟨F, ρ, De, a, l, q⟩ := q
  exact l.rt .non .non F H q (Same.refl F) a.en .non⟩
@[simp] def dIfS (t : DT) (a b : DS) : DS := fun De ρ => t ρ fun k => if k = true then a De ρ else b De ρ
theorem psd_if {e : Expr} {xs ys : List Stmt} {t : DT} {a b : DS} {pos} (hc : PDT X c e t) (ha : PSsd X c xs a) (hb : PSsd X c ys b) : PSd X c (.If e xs ys pos) (dIfS t a b) := ⟨impS (ps_if hc.pt ha.ps hb.ps) fun D σ H q => by
  obtain ⟨F, ρ, De, a, l, q⟩ := q
  refine ⟨F, ρ, a, hc.mono _ _ _ (fun k q F1 H1 f1 => ?_) q⟩
  cases k with
  | true => exact ⟨F1, ρ, De, a.fr f1, l.grow f1.grow, q⟩
  | false => exact ⟨F1, ρ, De, a.fr f1, l.grow f1.grow, q⟩⟩
@[simp] def dDrop (de : DE) : DS := fun De ρ => de ρ fun _ => De.nx ρ
theorem psd_expr {e : Expr} {de : DE} {pos : Pos} (h : PD X c e de) (hs : swapsWith e none pos.line X.env = pure false := by rfl) : PSd X c (.Expr e pos) (dDrop de) := ⟨impS (ps_expr h.pe hs) fun D σ H q => by
  obtain ⟨F, ρ, De, a, l, q⟩ := q
  exact ⟨F, ρ, a, h.mono _ _ _ (fun d q v F' H' f dd => l.nx ρ σ F' H' q f.grow (a.fr f)) q⟩⟩
/-! assignments -/
@[simp] def dAsg (de : DE) (set : DG) : DS := fun De ρ => de ρ fun d => ∃ ρ', set d ρ = some ρ' ∧ De.nx ρ'
theorem asg_up {de : DE} {set : DG} {ns : List Nat} {g : TG} (m : Mono de) (hg : GOk X.K c set ns g) : ∀ D σ H, upS X c (dAsg de set) D σ H → tAsg (up X c de) g D σ H := by
  intro D σ H q
  obtain ⟨F, ρ, De, a, l, q⟩ := q
  refine ⟨F, ρ, a, m _ _ _ (fun d q v F1 H1 f dd => ?_) q⟩
  obtain ⟨ρ', e, q⟩ := q
  exact hg F1 H1 v d σ ρ ρ' _ f.good (a.fr f).sl dd e fun σ' s' _ => l.nx ρ' σ' F1 H1 q f.grow ⟨a.en.trans f, s'⟩
theorem psd_asg {tg e : Expr} {de : DE} {set : DG} {ns : List Nat} {g : TG} {pos : Pos} (he : PD X c e de) (hg : PGd X c tg set ns g) (hs : swapsWithSole [tg] e pos.line X.env = pure false := by rfl) (hw : swappedStores [tg] e X.env = pure none := by rfl) (h1 : (assignEach [tg] X.env).map (·.2) = [assign tg X.env] := by rfl) :
    PSd X c (.Assign [tg] e pos) (dAsg de set) := ⟨impS (ps_asg he.pe hg.pg hs hw h1) (asg_up he.mono hg.ok)⟩
@[simp] def dSet (i : Nat) (de : DE) : DS := fun De ρ => de ρ fun d => De.nx (ρ.set i (.fz d))
theorem psd_set {i : Nat} {x : Str} {e : Expr} {de : DE} {pos pos' : Pos} (hN : X.N.Nodup) (hi : X.N[i]? = some x) (hx : Loc X.env.scope x) (he : PD X c e de) (hs : swapsWith e (some (.Name x pos')) pos.line X.env = pure false := by rfl)
    (hf : X.fn x = true ∨ X.env.scope.names.lookup x = some .local := by first | exact .inl rfl | exact .inr rfl | assumption) : PSd X c (.Assign [.Name x pos'] e pos) (dSet i de) := ⟨impS (ps_set hN hi hx he.pe hs hf) fun D σ H q => by
  obtain ⟨F, ρ, De, a, l, q⟩ := q
  refine ⟨F, ρ, a, he.mono _ _ _ (fun d q v F1 H1 f dd => ?_) q⟩
  exact l.nx _ _ F1 H1 q f.grow ⟨a.en.trans f, (a.fr f).sl.set i dd⟩⟩
/-- y = [.. for ..] -/
theorem psd_setLc {i : Nat} {y : Str} {py : Pos} {elt tg iter : Expr} {ifs : List Expr} {scope : Scope} {own : List (Str × Nat)} {pos spos : Pos} {di : DA} {set : DG} {ns : List Nat} {g : TG} {tt : DT} {de : DE} (hc : X.calm = true) (hN : X.N.Nodup) (hy : X.N[i]? = some y) (hyl : X.env.scope.names.lookup y = some .local)
    (hsw : swapsWith (.ListComp elt [⟨tg, iter, ifs, 0⟩] scope pos) (some (.Name y py)) spos.line X.env = pure true) (hi : PId X c tg iter di) (ok : BlkOk X.N X.env.scope scope own)
    (hg : ∀ (s : Shared) (H : Hp) (C : Addr) (cl : List (Str × Addr)) (fp : List Addr), PGd (X.blk s H scope (compEnvC scope cl C X.env) fp) c tg set ns g) (hns : ∀ n ∈ ns, n ∈ own.map (·.2))
    (ht : ∀ (s : Shared) (H : Hp) (C : Addr) (cl : List (Str × Addr)) (fp : List Addr), PTd (X.blk s H scope (compEnvC scope cl C X.env) fp) c ifs tt)
    (he : ∀ (s : Shared) (H : Hp) (C : Addr) (cl : List (Str × Addr)) (fp : List Addr), PD (X.blk s H scope (compEnvC scope cl C X.env) fp) c elt de) (hs : ∀ x, foldedSetIterable iter X.env x = pure x := by intro _; rfl) :
    PSd X c (.Assign [.Name y py] (.ListComp elt [⟨tg, iter, ifs, 0⟩] scope pos) spos) (dSet i (dLc di set tt de (own.map (·.2)))) := by
  have mt : Mono tt := (ht X.s_0 X.H_0 0 [] []).mono
  have me : Mono de := (he X.s_0 X.H_0 0 [] []).mono
  refine ⟨impS (ps_setLc (g := g) (tt := upT X c tt) (te := up X c de) hc hN hy hyl hsw hi.pi ok (fun s H C cl fp => (hg s H C cl fp).pg) (fun s H C cl fp => (ht s H C cl fp).pt) (fun s H C cl fp => (he s H C cl fp).pe) hs) fun D σ H q => ?_⟩
  obtain ⟨F, ρ, De, a, l, q⟩ := q
  refine lc_up _ hi.mono (hg X.s_0 X.H_0 0 [] []).ok hns mt me σ H _ ⟨F, ρ, a, hi.mono ρ _ _ (fun xs q => ⟨q.1, dComp_mono mt me _ _ _ _ (fun ys p => ?_) q.2⟩) q⟩
  exact fun v F1 H1 f dd => l.nx _ _ F1 H1 p f.grow ⟨a.en.trans f, (a.fr f).sl.set i dd⟩
/-- x, y = a, b -/
@[simp] def dPar (i j : Nat) (da : DA) : DS := fun De ρ => da ρ fun ds => ∃ d e, ds = [d, e] ∧ De.nx ((ρ.set i (.fz d)).set j (.fz e))
theorem psd_par {i j : Nat} {x y : Str} {a b : Expr} {da : DA} {px py pt pos : Pos} {kt k2 pt2} (hc : X.calm = true) (hN : X.N.Nodup) (hi : X.N[i]? = some x) (hj : X.N[j]? = some y) (hij : i ≠ j)
    (hx : X.env.scope.names.lookup x = some .local) (hy : X.env.scope.names.lookup y = some .local) (ha : PDA X c [a, b] da)
    (hw : swappedStores [.Tuple [.Name x px, .Name y py] kt pt] (.Tuple [a, b] k2 pt2) X.env = pure (some [x, y]))
    (hs : swapsWithSole [.Tuple [.Name x px, .Name y py] kt pt] (.Tuple [a, b] k2 pt2) pos.line X.env = pure false := by rfl) :
    PSd X c (.Assign [.Tuple [.Name x px, .Name y py] kt pt] (.Tuple [a, b] k2 pt2) pos) (dPar i j da) := ⟨impS (ps_par hc hN hi hj hij hx hy ha.pa hw hs) fun D σ H q => by
  obtain ⟨F, ρ, De, a, l, q⟩ := q
  refine ⟨F, ρ, a, ha.mono _ _ _ (fun ds q vs F1 H1 f dd => ?_) q⟩
  obtain ⟨d, e, rfl, q⟩ := q
  obtain ⟨v, u, rfl, h1, h2⟩ := datL2 dd
  exact ⟨v, u, rfl, l.nx _ _ F1 H1 q f.grow ⟨a.en.trans f, ((a.fr f).sl.set i h1).set j h2⟩⟩⟩
/-! for -/
def dLoop (set : DG) (body : DS) (De : DEnds) : List D → List Sl → Prop
  | [], ρ => De.nx ρ
  | d :: r, ρ => ∃ ρ1, set d ρ = some ρ1 ∧ body { De with nx := fun ρ' => dLoop set body De r ρ', ct := fun ρ' => dLoop set body De r ρ', bk := De.nx } ρ1
@[simp] def dFor (di : DA) (set : DG) (body : DS) : DS := fun De ρ => di ρ fun xs => dLoop set body De xs ρ
theorem psd_for {tg iter : Expr} {body : List Stmt} {di : DA} {set : DG} {ns : List Nat} {g : TG} {db : DS} {pos : Pos} (hp : PassesOwn (model X.prog X.w) X.A X.env X.xe) (hc : X.calm = true) (hi : PId X c tg iter di) (hg : PGd X c tg set ns g) (hb : PSsd X c body db)
    (hs : ∀ x, foldedSetIterable iter X.env x = pure x := by intro _; rfl) : PSd X c (.For tg iter body [] pos) (dFor di set db) := ⟨impS (ps_for hp hc hi.pi hg.pg hb.ps hs) fun D σ H q => by
  obtain ⟨F, ρ, De, a, l, q⟩ := q
  refine ⟨F, ρ, a, hi.mono _ _ _ (fun xs q J F1 H1 f1 wk => ?_) q⟩
  refine ⟨fun i m σ2 H2 => m = xs.length - i ∧ i ≤ xs.length ∧ ∃ F2 ρ2, Same F1 F2 ∧ At X.K c F2 H2 σ2 ρ2 ∧ dLoop set db De (xs.drop i) ρ2, ⟨xs.length, by omega, by omega, F1, ρ, Same.refl F1, a.fr f1, by simpa using q⟩, ?_⟩
  rintro i m σ2 H2 ⟨rfl, hi', F2, ρ2, s2, a2, q2⟩
  have W2 := wk F2 H2 s2 a2.good i
  by_cases hlt : i < xs.length
  · have hx : xs[i]? = some xs[i] := List.getElem?_eq_getElem hlt
    rw [List.drop_eq_getElem_cons hlt] at q2
    obtain ⟨ρ1, eset, q2⟩ := q2
    obtain ⟨hgo, hy⟩ := W2.1 _ hx
    refine .inr ⟨hgo, fun σ' H' => ∃ F3 ρ3, Same F1 F3 ∧ At X.K c F3 H' σ' ρ3 ∧ dLoop set db De (xs.drop (i + 1)) ρ3, fun σ' H' hN => ⟨xs.length - (i + 1), by omega, rfl, by omega, hN⟩, fun x H3 y => ?_⟩
    obtain ⟨F3, f3, dx⟩ := hy x H3 y
    refine hg.ok F3 H3 x xs[i] σ2 ρ2 ρ1 _ f3.good (a2.fr f3).sl dx eset fun σ' s' _ => ?_
    refine ⟨F3, ρ1, { De with nx := fun ρ' => dLoop set db De (xs.drop (i + 1)) ρ', ct := fun ρ' => dLoop set db De (xs.drop (i + 1)) ρ', bk := De.nx }, ⟨a2.en.trans f3, s'⟩, ⟨fun ρ' σ'' F' H' h s a' => ⟨F', ρ', s2.trans (f3.grow.trans s), a', h⟩, fun d v F' H' h s => l.rt d v F' H' h (f1.grow.trans (s2.trans (f3.grow.trans s))),
      fun ρ' σ'' F' H' h s a' => l.nx ρ' σ'' F' H' h (f1.grow.trans (s2.trans (f3.grow.trans s))) a', fun ρ' σ'' F' H' h s a' => ⟨F', ρ', s2.trans (f3.grow.trans s), a', h⟩⟩, q2⟩
  · have e : i = xs.length := by omega
    subst e
    rw [List.drop_length] at q2
    exact .inl ⟨W2.2 (Nat.le_refl _), l.nx _ _ F2 H2 q2 (f1.grow.trans s2) a2⟩⟩
end
end DL
set_option Elab.async false
set_option linter.all false
set_option maxRecDepth 100000
set_option maxHeartbeats 1000000
set_option autoImplicit false
namespace DL
open PySem PySem.Spec PyProof.Rows L2
/-! ### a list of one's own, grown -/
section
variable {X : Cx} {c : Dx}
/-- l.append(y), l.extend(zs): the list l is its own -/
def rExtS (K : PySem.W.Frag) : V → List V → Hp → VK → Prop := fun x vs H Q => ∃ l b xs zs, x = .ref l ∧ vs = [.ref b] ∧ l ≠ b ∧ H l = some (.lst xs) ∧ SqL K H b zs ∧ xs.length + zs.length ≤ sizeLine ∧ Q .non (upd H l (.lst (xs ++ zs)))
theorem slots_own {K : PySem.W.Frag} {W : Option Addr} {H0 F H : Hp} {σ : L2.St} {ρ : List Sl} (s : Slots K W H0 F H σ ρ) {i : Nat} {ds es : List D} {a : Addr} {vs : List V} (h : ρ[i]? = some (.ow ds)) (hs : σ[i]? = some (some (.ref a))) (n : F a = none) (w : W ≠ some a) (h0 : H0 a = none) (d : DatL K F vs es) :
    Slots K W H0 F (upd H a (.lst vs)) σ (ρ.set i (.ow es)) := by
  have hi : i < ρ.length := (List.getElem?_eq_some_iff.mp h).1
  have other : ∀ {o : Option V} {t : Sl} {j : Nat}, j ≠ i → σ[j]? = some o → ρ[j]? = some t → SlAt K W H0 F H o t → SlAt K W H0 F (upd H a (.lst vs)) o t := by
    intro o t j hj e1 e2 k
    cases k with
    | un => exact .un _
    | fz k => exact .fz k
    | @ow b us fs n' w' h0' e' d' =>
      have ne : b ≠ a := fun q => by
        subst q
        exact s.apart j i fs ds hj e2 h (by rw [e1, hs])
      exact .ow n' w' h0' (by rw [upd_ne ne]; exact e') d'
  refine ⟨?_, fun j k ds1 ds2 njk h1 h2 => ?_⟩
  · have key : ∀ (σ' : L2.St) (ρ' : List Sl) (m : Nat), Paired (SlAt K W H0 F H) σ' ρ' → (∀ j o, σ'[j]? = some o → σ[m + j]? = some o) → (∀ j t, ρ'[j]? = some t → ρ[m + j]? = some t) →
        Paired (SlAt K W H0 F (upd H a (.lst vs))) σ' (if m ≤ i then ρ'.set (i - m) (.ow es) else ρ') := by
      intro σ' ρ' m p
      induction p generalizing m with
      | nil => intro _ _; split <;> exact .nil
      | @cons o t os ts r p ih =>
        intro g1 g2
        have e1 := g1 0 o rfl
        have e2 := g2 0 t rfl
        rw [Nat.add_zero] at e1 e2
        have ih' := ih (m + 1) (fun j o hj => by rw [Nat.add_right_comm]; exact g1 (j + 1) o (by simpa using hj)) (fun j o hj => by rw [Nat.add_right_comm]; exact g2 (j + 1) o (by simpa using hj))
        by_cases hm : m ≤ i
        · rw [if_pos hm]
          by_cases hmi : m = i
          · subst hmi
            rw [Nat.sub_self, List.set_cons_zero]
            rw [if_neg (by omega)] at ih'
            refine .cons ?_ ih'
            rw [hs] at e1
            obtain rfl := Option.some.inj e1
            exact .ow n w h0 upd_same d
          · rw [if_pos (show m + 1 ≤ i by omega)] at ih'
            have e3 : i - m = (i - (m + 1)) + 1 := by omega
            rw [e3, List.set_cons_succ]
            exact .cons (other hmi e1 e2 r) ih'
        · rw [if_neg hm]
          rw [if_neg (show ¬ m + 1 ≤ i by omega)] at ih'
          exact .cons (other (by omega) e1 e2 r) ih'
    have k := key σ ρ 0 s.at_ (fun j o h => by rw [Nat.zero_add]; exact h) (fun j o h => by rw [Nat.zero_add]; exact h)
    simpa using k
  · by_cases hj : j = i
    · subst hj
      have hk : k ≠ j := Ne.symm njk
      rw [List.getElem?_set_ne (Ne.symm hk)] at h2
      exact s.apart j k ds ds2 njk h h2
    · rw [List.getElem?_set_ne (Ne.symm hj)] at h1
      by_cases hk : k = i
      · subst hk
        exact s.apart j k ds1 ds njk h1 h
      · rw [List.getElem?_set_ne (Ne.symm hk)] at h2
        exact s.apart j k ds1 ds2 njk h1 h2
theorem own_upd {W : Option Addr} {F0 H0 F H : Hp} {a : Addr} {o : HO} (f : Fr W F0 H0 F H) (n : F a = none) (w : W ≠ some a) (h0 : H0 a = none) : Fr W F0 H0 F (upd H a o) := upd_own f h0 n w
/-- name = []: a list of its own -/
@[simp] def dNewL (i : Nat) (da : DA) : DS := fun De ρ => da ρ fun ds => ds.length ≤ 1000 ∧ De.nx (ρ.set i (.ow ds))
theorem slots_new {K : PySem.W.Frag} {W : Option Addr} {H0 F H : Hp} {σ : L2.St} {ρ : List Sl} (s : Slots K W H0 F H σ ρ) (g : Good W F H) {i : Nat} {p : Addr} {vs : List V} {ds : List D} (hp : H p = none) (h0 : H0 p = none) (d : DatL K F vs ds) :
    Slots K W H0 F (upd H p (.lst vs)) (σ.set i (some (.ref p))) (ρ.set i (.ow ds)) := by
  have s1 := s.fr (g.hid (o := .lst vs) hp)
  have w : W ≠ some p := fun e => by
    obtain ⟨_, x, y, z, q⟩ := g.well p e
    rw [hp] at q; cases q
  have ref_ne : ∀ (j : Nat) fs, ρ[j]? = some (.ow fs) → σ[j]? ≠ some (some (.ref p)) := fun j fs h e => by
    obtain ⟨a, us, h1, _, _, _, h2, _⟩ := s.ow h
    rw [h1] at e
    cases e
    rw [hp] at h2; cases h2
  refine ⟨paired_set (.ow (g.free hp) w h0 upd_same d) i s1.at_, fun j k ds1 ds2 njk h1 h2 => ?_⟩
  by_cases hj : j = i
  · subst hj
    have hk : k ≠ j := Ne.symm njk
    have hl : j < σ.length := by
      have := (List.getElem?_eq_some_iff.mp h1).1
      rw [List.length_set] at this
      rw [s.len]; exact this
    rw [List.getElem?_set_ne (Ne.symm hk)] at h2
    rw [List.getElem?_set_self hl, List.getElem?_set_ne (Ne.symm hk)]
    exact fun e => ref_ne k ds2 h2 e.symm
  · rw [List.getElem?_set_ne (Ne.symm hj)] at h1
    rw [List.getElem?_set_ne (Ne.symm hj)]
    by_cases hk : k = i
    · subst hk
      have hl : k < σ.length := by
        have := (List.getElem?_eq_some_iff.mp h2).1
        rw [List.length_set] at this
        rw [s.len]; exact this
      rw [List.getElem?_set_self hl]
      exact ref_ne j ds1 h1
    · rw [List.getElem?_set_ne (Ne.symm hk)] at h2
      rw [List.getElem?_set_ne (Ne.symm hk)]
      exact s.apart j k ds1 ds2 njk h1 h2
theorem entry_none {F H : Hp} (f : Fr c.W c.F0 c.H0 F H) {p : Addr} (hp : H p = none) : c.H0 p = none := by
  cases q : c.H0 p with
  | none => rfl
  | some u =>
    by_cases w : c.W = some p
    · obtain ⟨_, i, j, k, e⟩ := f.well p w
      rw [hp] at e; cases e
    · rw [f.keep p u q w] at hp; cases hp
theorem psd_newL {i : Nat} {x : Str} {es : List Expr} {da : DA} {pos pos' lp : Pos} (hN : X.N.Nodup) (hi : X.N[i]? = some x) (hx : Loc X.env.scope x) (he : PDA X c es da) (hs : swapsWith (.List es lp) (some (.Name x pos')) pos.line X.env = pure false := by rfl)
    (hf : X.fn x = true ∨ X.env.scope.names.lookup x = some .local := by first | exact .inl rfl | exact .inr rfl | assumption) : PSd X c (.Assign [.Name x pos'] (.List es lp) pos) (dNewL i da) := ⟨impS (ps_set hN hi hx (pe_lst he.pa) hs hf) fun D σ H q => by
  obtain ⟨F, ρ, De, a, l, q⟩ := q
  refine ⟨F, ρ, a, he.mono _ _ _ (fun ds q vs F1 H1 f dd => ⟨by rw [dd.length]; exact le_line q.1, fun p hp => ?_⟩) q⟩
  have a1 := a.fr f
  exact l.nx _ _ F1 _ q.2 f.grow ⟨a1.en.trans (f.good.hid hp), slots_new a1.sl f.good hp (entry_none a1.en hp) dd⟩⟩
/-- what is one's own becomes what is kept -/
@[simp] def dKeep (i : Nat) (d : DS) : DS := fun De ρ => ∃ ds, ρ[i]? = some (.ow ds) ∧ d De (ρ.set i (.fz (.lst ds)))
theorem keep_up (i : Nat) {d : DS} : ∀ D σ H, upS X c (dKeep i d) D σ H → upS X c d D σ H := by
  intro D σ H q
  obtain ⟨F, ρ, De, a, l, ds, e, q⟩ := q
  obtain ⟨p, vs, h1, h2, h3, h4, h5, h6⟩ := a.sl.ow e
  have g : Same F (upd F p (.lst vs)) := same_upd h2
  refine ⟨upd F p (.lst vs), _, De, ⟨freeze_new a.en h4 h2 h5 h3, ?_⟩, l.grow g, q⟩
  have hi : i < ρ.length := (List.getElem?_eq_some_iff.mp e).1
  have other : ∀ {o : Option V} {t : Sl} {j : Nat}, j ≠ i → σ[j]? = some o → ρ[j]? = some t → SlAt X.K c.W c.H0 F H o t → SlAt X.K c.W c.H0 (upd F p (.lst vs)) H o t := by
    intro o t j hj e1 e2 k
    cases k with
    | un => exact .un _
    | fz k => exact .fz (k.mono g)
    | @ow b us fs n' w' h0' e' d' =>
      have ne : b ≠ p := fun z => by
        subst z
        exact a.sl.apart j i fs ds hj e2 e (by rw [e1, h1])
      exact .ow (by rw [upd_ne ne]; exact n') w' h0' e' (d'.mono g)
  refine ⟨?_, fun j k ds1 ds2 njk g1 g2 => ?_⟩
  · have key : ∀ (σ' : L2.St) (ρ' : List Sl) (m : Nat), Paired (SlAt X.K c.W c.H0 F H) σ' ρ' → (∀ j o, σ'[j]? = some o → σ[m + j]? = some o) → (∀ j t, ρ'[j]? = some t → ρ[m + j]? = some t) →
        Paired (SlAt X.K c.W c.H0 (upd F p (.lst vs)) H) σ' (if m ≤ i then ρ'.set (i - m) (.fz (.lst ds)) else ρ') := by
      intro σ' ρ' m p'
      induction p' generalizing m with
      | nil => intro _ _; split <;> exact .nil
      | @cons o t os ts r p' ih =>
        intro g1 g2
        have e1 := g1 0 o rfl
        have e2 := g2 0 t rfl
        rw [Nat.add_zero] at e1 e2
        have ih' := ih (m + 1) (fun j o hj => by rw [Nat.add_right_comm]; exact g1 (j + 1) o (by simpa using hj)) (fun j o hj => by rw [Nat.add_right_comm]; exact g2 (j + 1) o (by simpa using hj))
        by_cases hm : m ≤ i
        · rw [if_pos hm]
          by_cases hmi : m = i
          · subst hmi
            rw [Nat.sub_self, List.set_cons_zero]
            rw [if_neg (by omega)] at ih'
            refine .cons ?_ ih'
            rw [h1] at e1
            obtain rfl := Option.some.inj e1
            exact .fz (.lst upd_same (h6.mono g))
          · rw [if_pos (show m + 1 ≤ i by omega)] at ih'
            have e3 : i - m = (i - (m + 1)) + 1 := by omega
            rw [e3, List.set_cons_succ]
            exact .cons (other hmi e1 e2 r) ih'
        · rw [if_neg hm]
          rw [if_neg (show ¬ m + 1 ≤ i by omega)] at ih'
          exact .cons (other (by omega) e1 e2 r) ih'
    have k := key σ ρ 0 a.sl.at_ (fun j o h => by rw [Nat.zero_add]; exact h) (fun j o h => by rw [Nat.zero_add]; exact h)
    simpa using k
  · have nj : j ≠ i := fun z => by
      subst z
      rw [List.getElem?_set_self hi] at g1; cases g1
    have nk : k ≠ i := fun z => by
      subst z
      rw [List.getElem?_set_self hi] at g2; cases g2
    rw [List.getElem?_set_ne (Ne.symm nj)] at g1
    rw [List.getElem?_set_ne (Ne.symm nk)] at g2
    exact a.sl.apart j k ds1 ds2 njk g1 g2
theorem pssd_keep (i : Nat) {sts : List Stmt} {d : DS} (h : PSsd X c sts d) : PSsd X c sts (dKeep i d) := ⟨impSs h.ps (keep_up i)⟩
theorem psd_keep (i : Nat) {st : Stmt} {d : DS} (h : PSd X c st d) : PSd X c st (dKeep i d) := ⟨impS h.ps (keep_up i)⟩
/-- name.append(e) -/
@[simp] def dApp (i : Nat) (de : DE) : DS := fun De ρ => ∃ ds, ρ[i]? = some (.ow ds) ∧ de ρ fun y => ds.length < sizeLine ∧ De.nx (ρ.set i (.ow (ds ++ [y])))
theorem psd_append {i : Nat} {o e : Expr} {de : DE} {apos cpos pos : Pos} (ho : PE X o (tVar i)) (h : PD X c e de) (hst : starEach [e] X.env = [(false, eval e X.env)] := by rfl)
    (hbase : attributeBase o "append" X.env (eval o X.env) = eval o X.env := by rfl)
    (hfew : ((backTo cpos (starEach [e] X.env)).all (fun x => !x.1) && (backToKw cpos (keywordEach [] X.env)).all (fun x => x.1.isSome)
      && decide ([e].length + ([] : List Keyword).length + (if ([] : List Keyword).isEmpty then 0 else 1) < 30)) = true := by rfl)
    (hline : (apos.endLine == cpos.line) = true := by rfl) (hs : swapsWith (.Call (.Attribute o "append" apos) [e] [] cpos) none pos.line X.env = pure false := by rfl) :
    PSd X c (.Expr (.Call (.Attribute o "append" apos) [e] [] cpos) pos) (dApp i de) := ⟨impS (ps_expr (pe_bm PySem.F.plainAttrs_list PySem.F.slot_list_append PySem.F.type_list_append mt_append ho (pa_cons h.pe pa_nil hst) hbase hfew hline hst) hs) fun D σ H q => by
  obtain ⟨F, ρ, De, a, l, ds, e, q⟩ := q
  obtain ⟨p, vs, h1, h2, h3, h4, h5, h6⟩ := a.sl.ow e
  refine ⟨_, h1, .inl ⟨rfl, _, SqL.of h5⟩, F, ρ, a, h.mono _ _ _ (fun y q v F1 H1 f dd => ?_) q⟩
  have a1 := a.fr f
  have hp : H1 p = some (.lst vs) := f.keep _ _ h5 h3
  have n1 : F1 p = none := own_free f h2 h5
  have d6 := h6.mono f.grow
  refine ⟨p, vs, v, rfl, rfl, hp, by rw [h6.length]; exact q.1, ?_⟩
  exact l.nx _ _ F1 _ q.2 f.grow ⟨own_upd a1.en n1 h3 h4, slots_own a1.sl e h1 n1 h3 h4 (d6.snoc dd)⟩⟩
/-- name.extend(e) -/
@[simp] def dExt (i : Nat) (de : DE) : DS := fun De ρ => ∃ ds, ρ[i]? = some (.ow ds) ∧ de ρ fun y => ∃ es, y = .lst es ∧ ds.length + es.length ≤ sizeLine ∧ De.nx (ρ.set i (.ow (ds ++ es)))
theorem psd_extend {i : Nat} {o e : Expr} {de : DE} {apos cpos pos : Pos} (ho : PE X o (tVar i)) (h : PD X c e de) (hst : starEach [e] X.env = [(false, eval e X.env)] := by rfl)
    (hbase : attributeBase o "extend" X.env (eval o X.env) = eval o X.env := by rfl)
    (hfew : ((backTo cpos (starEach [e] X.env)).all (fun x => !x.1) && (backToKw cpos (keywordEach [] X.env)).all (fun x => x.1.isSome)
      && decide ([e].length + ([] : List Keyword).length + (if ([] : List Keyword).isEmpty then 0 else 1) < 30)) = true := by rfl)
    (hline : (apos.endLine == cpos.line) = true := by rfl) (hs : swapsWith (.Call (.Attribute o "extend" apos) [e] [] cpos) none pos.line X.env = pure false := by rfl) :
    PSd X c (.Expr (.Call (.Attribute o "extend" apos) [e] [] cpos) pos) (dExt i de) := ⟨impS (ps_expr (pe_bm PySem.F.plainAttrs_list PySem.F.slot_list_extend PySem.F.type_list_extend mt_extend ho (pa_cons h.pe pa_nil hst) hbase hfew hline hst) hs) fun D σ H q => by
  obtain ⟨F, ρ, De, a, l, ds, e, q⟩ := q
  obtain ⟨p, vs, h1, h2, h3, h4, h5, h6⟩ := a.sl.ow e
  refine ⟨_, h1, .inl ⟨rfl, _, SqL.of h5⟩, F, ρ, a, h.mono _ _ _ (fun y q v F1 H1 f dd => ?_) q⟩
  obtain ⟨es, rfl, hz, q⟩ := q
  have a1 := a.fr f
  have hp : H1 p = some (.lst vs) := f.keep _ _ h5 h3
  have n1 : F1 p = none := own_free f h2 h5
  have d6 := h6.mono f.grow
  cases dd with
  | lst ks kl =>
    refine ⟨p, _, vs, _, rfl, rfl, hp, f.good.sub _ _ ks, by rw [h6.length, kl.length]; exact hz, ?_⟩
    exact l.nx _ _ F1 _ q f.grow ⟨own_upd a1.en n1 h3 h4, slots_own a1.sl e h1 n1 h3 h4 (d6.append kl)⟩⟩
end
end DL
set_option Elab.async false
set_option linter.all false
set_option maxRecDepth 100000
set_option maxHeartbeats 1000000
set_option autoImplicit false
namespace DL
open PySem PySem.Spec PyProof.Rows L2
/-! ### defs and their promises, by what values hold -/
/-- a promise by values: the well, the arguments, what is wanted of the value; of an exception (class, fields) -/
abbrev GX := Option Addr → List D → (D → Prop) → (Addr → List (Str × D) → Prop) → Prop
def spX (K : PySem.W.Frag) (g : GX) : Sp := fun vs H Q E => ∃ W F ds, Good W F H ∧ DatL K F vs ds ∧ g W ds (fun d => ∀ v F' H', Fr W F H F' H' → Dat K F' v d → Q v H')
  (fun C fs => ∀ dx fs' F' H', Fr W F H F' H' → H' dx = some (.xd fs') → DatF K F' fs' fs → E (.ref C) (some dx) H')
structure MonoX (g : GX) : Prop where
  ok : ∀ W ds P P' XP, (∀ d, P d → P' d) → g W ds P XP → g W ds P' XP
  xp : ∀ W ds P XP XP', (∀ C fs, XP C fs → XP' C fs) → g W ds P XP → g W ds P XP'
/-- a promise that lets nothing out -/
abbrev G0 := Option Addr → List D → (D → Prop) → Prop
@[simp] def lift0 (g : G0) : GX := fun W ds P _ => g W ds P
theorem mono0 {g : G0} (h : ∀ W ds P P', (∀ d, P d → P' d) → g W ds P → g W ds P') : MonoX (lift0 g) := ⟨fun W ds P P' _ m q => h W ds P P' m q, fun _ _ _ _ _ _ q => q⟩
theorem slots_start {K : PySem.W.Frag} {W : Option Addr} {H0 F H : Hp} {N : List Str} {vs : List V} {ds : List D} (d : DatL K F vs ds) : Slots K W H0 F H (start N vs) (ds.map Sl.fz ++ List.replicate (N.length - ds.length) Sl.un) := by
  have reps : ∀ n : Nat, Paired (SlAt K W H0 F H) (List.replicate n (none : Option V)) (List.replicate n Sl.un) := by
    intro n
    induction n with
    | zero => exact .nil
    | succ n ih => exact .cons (.un _) ih
  have key : ∀ {us : List V} {es : List D} (n : Nat), DatL K F us es → Paired (SlAt K W H0 F H) (us.map some ++ List.replicate n none) (es.map Sl.fz ++ List.replicate n Sl.un) := by
    intro us es n q
    induction es generalizing us with
    | nil =>
      cases q
      exact reps n
    | cons e es ih =>
      cases q with
      | cons a b => exact .cons (.fz a) (ih b)
  have noow : ∀ (j : Nat) (es : List D), (ds.map Sl.fz ++ List.replicate (N.length - ds.length) Sl.un)[j]? ≠ some (.ow es) := by
    intro j es e
    have hm := List.mem_of_getElem? e
    rcases List.mem_append.mp hm with z | z
    · obtain ⟨a, _, e⟩ := List.mem_map.mp z
      cases e
    · have := List.eq_of_mem_replicate z
      cases this
  refine ⟨?_, fun i j es fs _ h1 _ => absurd h1 (noow i es)⟩
  unfold L2.start
  rw [d.length]
  exact key _ d
section
variable {P : Program} {w : World} {K : PySem.W.Frag} {mg : Str → Option Value} {base : Heap}
theorem body_in {X : Cx} (hK : X.K = K) {W : Option Addr} {F0 H : Hp} {XP : Addr → List (Str × D) → Prop} {N : List Str} {vs : List V} {ds : List D} {Q : VK} {den : DS} {Pd : D → Prop} (G : Good W F0 H) (dat : DatL K F0 vs ds)
    (hq : ∀ d, Pd d → ∀ v F' H', Fr W F0 H F' H' → Dat K F' v d → Q v H') (h : den ⟨fun _ => Pd .non, Pd, fun _ => False, fun _ => False⟩ (ds.map Sl.fz ++ List.replicate (N.length - ds.length) Sl.un)) :
    upS X ⟨W, F0, H, XP⟩ den { nx := fun _ H' => Q .non H', rt := Q } (start N vs) H := by
  subst hK
  refine ⟨F0, _, ⟨fun _ => Pd .non, Pd, fun _ => False, fun _ => False⟩, ⟨G.rfl, slots_start dat⟩, ⟨fun ρ' σ' F' H' p _ a => hq _ p .non F' H' a.en .non, fun d v F' H' p _ f dd => hq _ p v F' H' f dd, fun _ _ _ _ z => z.elim, fun _ _ _ _ z => z.elim⟩, h⟩
/-- THE RULE for a def that lets nothing out -/
theorem okD {x qual : Str} {st : Stmt} {f : Addr} {fd : FuncData} {N ps : List Str} {k : Nat} {g : G0} (F : Fun K x qual st f fd) (S : FnScope N ps (defScope st)) (len : ∀ W ds P, g W ds P → ds.length = ps.length)
    (hbody : ∀ (cdv : Value) (A : Around) (outer : List Env) (s : Shared) (H : Hp) (E : XK) (W : Option Addr) (F0 : Hp), Room k (A.deeper (envOfC qual (defScope st) s.heap.objs.size f cdv)) →
      ∃ den, PSsd ((cxOf CX0 P w K mg base N qual (defScope st) f cdv A outer s H E).nox) ⟨W, F0, H, fun _ _ => False⟩ (defBody st) den ∧
        ∀ ds Pd, g W ds Pd → den ⟨fun _ => Pd .non, Pd, fun _ => False, fun _ => False⟩ (ds.map Sl.fz ++ List.replicate (N.length - ds.length) Sl.un)) : FnOk P w K mg base CX0 (k + 1) f fd ps (spX K (lift0 g)) := by
  refine F.ok S (fun vs H Q E h => ?_) (fun cdv A outer s H vs Q E hr h => ?_)
  · obtain ⟨W, F0, ds, _, d, q⟩ := h
    rw [d.length]
    exact len _ _ _ q
  · obtain ⟨W, F0, ds, G, d, q⟩ := h
    obtain ⟨den, hd, hg⟩ := hbody cdv A outer s H E W F0 hr
    exact ⟨_, hd.ps, body_in rfl G d (fun _ p => p) (hg ds _ q)⟩
end
section
variable {X : Cx} {c : Dx}
/-- how an exception that leaves a callee is wanted -/
def EOk (X : Cx) (c : Dx) (E : XK) : Prop := ∀ C fs dx fs' F' H', c.XP C fs → Fr c.W c.F0 c.H0 F' H' → H' dx = some (.xd fs') → DatF X.K F' fs' fs → E (.ref C) (some dx) H'
theorem EOk.no {W : Option Addr} {F0 H0 : Hp} {E : XK} : EOk X ⟨W, F0, H0, fun _ _ => False⟩ E := fun _ _ _ _ _ _ h => h.elim
theorem sp_up {g : GX} (m : MonoX g) {E : XK} (eo : EOk X c E) {F H : Hp} {σ : L2.St} {ρ : List Sl} (a : At X.K c F H σ ρ) {vs : List V} {ds : List D} (dv : DatL X.K F vs ds) {Pd : D → Prop} {Q : VK} (h : g c.W ds Pd c.XP) (hq : ∀ d v F' H', Pd d → Fr c.W F H F' H' → Dat X.K F' v d → Q v H') :
    spX X.K g vs H Q E :=
  ⟨c.W, F, ds, a.good, dv, m.ok _ _ _ _ _ (fun d p v F' H' f dd => hq d v F' H' p f dd) (m.xp _ _ _ _ _ (fun C fs x dx fs' F' H' f e df => eo C fs dx fs' F' H' x (a.en.trans f) e df) h)⟩
@[simp] def dFn (g : GX) (c : Dx) (dds : List D) (da : DA) : DE := fun ρ P => da ρ fun ds => g c.W (ds ++ dds) P c.XP
theorem mono_dFn {g : GX} (m : MonoX g) {dds : List D} {da : DA} (ma : Mono da) : Mono (dFn g c dds da) := fun ρ P P' q => ma ρ _ _ fun ds => m.ok _ _ _ _ _ q
section
variable {CX : CXT} {k : Nat} {f : Addr} {fd : FuncData} {ps : List Str} {g : GX} {dvs : List V} {dds : List D} {ds0 : List Value} {E : XK} {x : Str} {p pos : Pos} {e : Expr} {es : List Expr} {da : DA}
theorem pd_call (F : FnOk X.prog X.w X.K X.mg X.base CX k f fd ps (spX X.K g)) (m : MonoX g) (hr : Room k X.A) (hg : Gl X x) (hm : X.mg x = some (.ref f)) (hk : PySem.W.keepIn X.K (.ref f) = true) (hb : Binds X.K fd ps ds0) (hd : Vals dvs ds0) (hdd : ∀ F, DatL X.K F dvs dds) (hx : Passes CX X E) (eo : EOk X c E)
    (ha : PDA X c (e :: es) da) (hdb : (x == ("__debug__" : Str)) = false := by decide) (he : starEach (e :: es) X.env = (false, eval e X.env) :: starEach es X.env := by rfl) (hpl : (backTo pos (starEach es X.env)).any (·.1) = false := by rfl) :
    PD X c (.Call (.Name x p) (e :: es) [] pos) (dFn g c dds da) := by
  refine ⟨imp (pe_call F hr hg hm hk hb hd hx ha.pa hdb he hpl) fun σ H Q q => ?_, mono_dFn m ha.mono⟩
  obtain ⟨F1, ρ, a, q⟩ := q
  refine ⟨F1, ρ, a, ha.mono _ _ _ (fun ds q vs F2 H2 f2 d2 => ?_) q⟩
  exact sp_up m eo (a.fr f2) (d2.append (hdd F2)) q fun d v F' H' p f3 dd => p v F' H' (f2.trans f3) dd
/-- keywords -/
structure PDK (X : Cx) (c : Dx) (kws : List Keyword) (den : DA) : Prop where
  pk : PK X kws (upA X c den)
  mono : Mono den
theorem impK {kws : List Keyword} {t t' : TA} (h : PK X kws t) (i : ∀ σ H Q, t' σ H Q → t σ H Q) : PK X kws t' := ⟨fun ps pins s σ H Q I q => h.run ps pins s σ H Q I (i σ H Q q)⟩
theorem pdk_nil : PDK X c [] dNil := by
  refine ⟨impK pk_nil fun σ H Q q => ?_, fun ρ P P' m p => m _ p⟩
  obtain ⟨F, ρ, a, q⟩ := q
  exact q [] F H a.good.rfl .nil
theorem pdk_cons {nm : Option Str} {e : Expr} {kpos : Pos} {kws : List Keyword} {de : DE} {da : DA} (h : PD X c e de) (k : PDK X c kws da) : PDK X c (⟨nm, e, kpos⟩ :: kws) (dCons de da) := by
  refine ⟨impK (pk_cons h.pe k.pk) fun σ H Q q => ?_, fun ρ P P' m => h.mono ρ _ _ fun d => k.mono ρ _ _ fun ds => m _⟩
  obtain ⟨F, ρ, a, q⟩ := q
  refine ⟨F, ρ, a, h.mono _ _ _ (fun d q v F1 H1 f1 d1 => ?_) q⟩
  refine ⟨F1, ρ, a.fr f1, k.mono _ _ _ (fun ds q vs F2 H2 f2 d2 => ?_) q⟩
  exact q _ F2 H2 (f1.trans f2) (.cons (d1.mono f2.grow) d2)
end
/-! fields -/
def dFld (C : Addr) (f : Str) (de : DE) : DE := fun ρ P => de ρ fun d => ∃ fs v, d = .ins C fs ∧ fs.lookup f = some v ∧ P v
theorem pd_fld {C : Addr} {f : Str} {e : Expr} {de : DE} {pos : Pos} (hC : Cls X.K C) (hn : NoAttr X.K C f) (he : PD X c e de) (hb : attributeBase e f X.env (eval e X.env) = eval e X.env := by rfl) : PD X c (.Attribute e f pos) (dFld C f de) := by
  refine ⟨imp (pe_fld he.pe hb) fun σ H Q q => ?_, fun ρ P P' m => he.mono ρ _ _ fun d ⟨fs, v, e, l, p⟩ => ⟨fs, v, e, l, m _ p⟩⟩
  obtain ⟨F, ρ, a, q⟩ := q
  refine ⟨F, ρ, a, he.mono _ _ _ (fun d q v F1 H1 f1 d1 => ?_) q⟩
  obtain ⟨fs, u, rfl, l, q⟩ := q
  cases d1 with
  | ins hi hf =>
    obtain ⟨v, l', dv⟩ := hf.lookup l
    exact ⟨_, C, _, _, v, rfl, f1.good.sub _ _ hi, hC, hn, l', q v F1 H1 f1 dv⟩
end
end DL
set_option Elab.async false
set_option linter.all false
set_option maxRecDepth 100000
set_option maxHeartbeats 1000000
set_option autoImplicit false
namespace DL
open PySem PySem.Spec PyProof.Rows L2
section
variable {X : Cx} {c : Dx}
/-! ### products of any two that the machine takes -/
theorem op_mulA : OpR X (binaryOp .Mult) (rI IntMulOk fun i j => .int (i * j)) := opI fun _ _ _ _ _ _ _ hc q => mul_int q hc
theorem pd_mulA {a b : Expr} {da db : DE} {pos} (ha : PD X c a da) (hb : PD X c b db) : PD X c (.BinOp a .Mult b pos) (dOp (fI IntMulOk fun i j => i * j) da db) := pd_op op_mulA serves_I mono_fI ha hb
theorem mulOk_right {i j : Int} (h1 : -(2 ^ 64) < j) (h2 : j < 2 ^ 64) : IntMulOk i j := .of_right (intBits_le_64 h1 h2)
theorem mulOk_left {i j : Int} (h1 : -(2 ^ 64) < i) (h2 : i < 2 ^ 64) : IntMulOk i j := .of_left (intBits_le_64 h1 h2)

/-! ### names of the top -/
theorem pd_bty {x : Str} {T : String} {pos : Pos} (hg : Gl X x) (hm : X.mg x = none) (hv : bootBuiltins x = some (.type T)) (hn : x ≠ "__name__" := by decide) (hd : (x == ("__debug__" : Str)) = false := by decide) : PD X c (.Name x pos) (dC (.ty T)) := pd_c (pe_bltn (v := .ty T) hg hm hv rfl hn hd) fun _ => .ty T
theorem pd_gint {x : Str} {i : Int} {t : Tok} {pos : Pos} (hg : Gl X x) (hm : X.mg x = some (.int i t)) (hd : (x == ("__debug__" : Str)) = false := by decide) : PD X c (.Name x pos) (dC (.int i)) := pd_c (pe_glob (v := .int i) hg hm ⟨_, rfl⟩ hd) fun _ => .int i
theorem pd_gref {x : Str} {C : Addr} {pos : Pos} (hg : Gl X x) (hm : X.mg x = some (.ref C)) (hd : (x == ("__debug__" : Str)) = false := by decide) : PD X c (.Name x pos) (dC (.adr C)) := pd_c (pe_glob (v := .ref C) hg hm rfl hd) fun _ => .adr C
theorem pd_gdat {x : Str} {C : Addr} {d : D} {pos : Pos} (hg : Gl X x) (hm : X.mg x = some (.ref C)) (h : ∀ F, Dat X.K F (.ref C) d) (hd : (x == ("__debug__" : Str)) = false := by decide) : PD X c (.Name x pos) (dC d) := pd_c (pe_glob (v := .ref C) hg hm rfl hd) h

/-! ### isinstance -/
@[simp] def D.tn : D → Option String
  | .non => some "NoneType"
  | .bl _ => some "bool"
  | .int _ => some "int"
  | .str _ => some "str"
  | .tup _ => some "tuple"
  | .lst _ => some "list"
  | _ => none
def isaB (t T : String) : Bool := t == T || (t == "bool" && T == "int")
def tnames : List String := ["NoneType", "bool", "int", "str", "tuple", "list"]
def tasked : List String := ["bool", "int", "str", "tuple", "list", "dict"]
theorem kit_all : ∀ t ∈ tnames, ∀ T ∈ tasked, kitB t T = some (isaB t T) := by decide +kernel
theorem tn_mem {d : D} {t : String} (h : d.tn = some t) : t ∈ tnames := by
  cases d <;> simp only [D.tn, Option.some.injEq] at h <;> first | (subst h; decide) | cases h
theorem tyx_of {K : PySem.W.Frag} {F : Hp} {v : V} {d : D} {t : String} (h : Dat K F v d) (e : d.tn = some t) : TyX K F v (.type t) := by
  cases h with
  | non => cases e; exact .base .non
  | bl b => cases e; exact .base (.bl b)
  | int b => cases e; exact .base (.int b)
  | str b => cases e; exact .base (.str b)
  | ty _ => cases e
  | adr _ => cases e
  | tup hs _ =>
    cases e
    rcases hs with (hs | ⟨o, hs⟩) | ⟨o, its, n, h1, h2, _⟩
    · exact .base (.tup hs)
    · exact .fTuple hs
    · exact .kTuple h1 h2
  | lst hs _ => cases e; exact .base (.lst hs)
  | ins _ _ => cases e
theorem tyx_sub {K : PySem.W.Frag} {F H : Hp} (s : Same F H) {v : V} {t : Value} (h : TyX K F v t) : TyX K H v t := by
  cases h with
  | base b =>
    refine .base ?_
    cases b with
    | non => exact .non
    | bl b => exact .bl b
    | int b => exact .int b
    | str b => exact .str b
    | flt b => exact .flt b
    | lst e => exact .lst (s _ _ e)
    | frz e => exact .frz (s _ _ e)
    | tup e => exact .tup (s _ _ e)
    | dK e => exact .dK (s _ _ e)
    | dT e => exact .dT (s _ _ e)
    | ins e cl a b c d => exact .ins (s _ _ e) cl a b c d
  | byt b => exact .byt b
  | set e => exact .set (s _ _ e)
  | kList e c => exact .kList e c
  | kTuple e c => exact .kTuple e c
  | kDict e c => exact .kDict e c
  | fTuple e => exact .fTuple (s _ _ e)
  | fDict e => exact .fDict (s _ _ e)
def fIsi : FN := fun ds P => ∃ x t T, ds = [x, .ty T] ∧ x.tn = some t ∧ T ∈ tasked ∧ P (.bl (isaB t T))
theorem mono_fIsi : MonoF fIsi := fun ds P P' m ⟨x, t, T, a, b, k, p⟩ => ⟨x, t, T, a, b, k, m _ p⟩
theorem serves_isi : ServesC X c (rIsi X.K) fIsi := by
  intro F H xs ds P Q G hx h q
  obtain ⟨x, t, T, rfl, ht, hT, p⟩ := h
  obtain ⟨v, u, rfl, h1, h2⟩ := datL2 hx
  cases h2
  exact ⟨v, .ty T, .type t, .type T, _, rfl, .ty T, tyx_sub G.sub (tyx_of h1 ht), kit_ty (kit_all t (tn_mem ht) T hT), q _ _ F H p G.rfl (.bl _)⟩
def fIsiT : FN := fun ds P => ∃ (x : D) (t : String) (Ts : List String), ds = [x, .tup (Ts.map D.ty)] ∧ x.tn = some t ∧ (∀ T ∈ Ts, T ∈ tasked) ∧ P (.bl (Ts.any fun T => isaB t T))
theorem mono_fIsiT : MonoF fIsiT := fun ds P P' m ⟨x, t, T, a, b, k, p⟩ => ⟨x, t, T, a, b, k, m _ p⟩
theorem kit_any {K : PySem.W.Frag} {t : String} (ht : t ∈ tnames) : ∀ Ts : List String, (∀ T ∈ Ts, T ∈ tasked) → PySem.W.kitAny K (.type t) (Ts.map Value.type) = some (Ts.any fun T => isaB t T)
  | [], _ => kitAny_nil
  | T :: Ts, h => by
    rw [List.map_cons, List.any_cons]
    refine kitAny_cons (kit_ty (kit_all t ht T (h T List.mem_cons_self))) (fun e => ?_) (fun e => by rw [e]; rfl)
    rw [e, Bool.false_or]
    exact kit_any ht Ts fun T' hT => h T' (List.mem_cons_of_mem _ hT)
theorem datL_tys {K : PySem.W.Frag} {F : Hp} : ∀ {v : List V} {ns : List String}, DatL K F v (ns.map D.ty) → v = ns.map V.ty
  | _, [], .nil => rfl
  | _, n :: ns, .cons h k => by
    cases h
    rw [datL_tys k]
    rfl
theorem cls_tys : ∀ ns : List String, Paired ClsV (ns.map V.ty) (ns.map Value.type)
  | [] => .nil
  | n :: ns => .cons (.ty n) (cls_tys ns)
theorem vals_tys {us : List Value} : ∀ {ns : List String}, Vals (ns.map V.ty) us → us = ns.map Value.type := by
  induction us with
  | nil =>
    intro ns h
    cases ns with
    | nil => rfl
    | cons _ _ => cases h
  | cons u us ih =>
    intro ns h
    cases ns with
    | nil => cases h
    | cons n ns =>
      cases h with
      | cons a b =>
        cases a
        rw [ih b]
        rfl
/-- isinstance(x, t), t a tuple of built-in classes -/
def rIsiS (K : PySem.W.Frag) : List V → Hp → VK → Prop := fun xs H Q => ∃ (x : V) (tp : Addr) (t : String) (Ts : List String), xs = [x, .ref tp] ∧ SqT K H tp (Ts.map V.ty) ∧ TyX K H x (.type t) ∧ t ∈ tnames ∧ (∀ T ∈ Ts, T ∈ tasked) ∧ Q (.bl (Ts.any fun T => isaB t T)) H
theorem call_isiS : CallR X (.builtin "isinstance") (rIsiS X.K) := by
  intro pins s σ H xs us Q I r h
  obtain ⟨x, tp, t, Ts, rfl, hT, ty, ht, hTs, q⟩ := h
  obtain ⟨u1, u2, rfl, r1, r2⟩ := vals2 r
  cases (show u2 = Value.ref tp from r2)
  obtain ⟨P, Z, p, hx⟩ := kit_of I r1 ty
  obtain ⟨its, rv, ⟨o, h1, h2, n, h3⟩, _⟩ := I.tuple hT
  have e3 := vals_tys rv
  subst e3
  obtain ⟨oc, od, dt, sl⟩ := o
  simp only at h2 h3
  subst h2 h3
  exact PySem.W.kia_tup Z I.kIn p h1 (kit_any ht Ts hTs) hx fun tk => ⟨.bl _, H, I.tok tk, rfl, q⟩
theorem serves_isiT : ServesC X c (rIsiS X.K) fIsiT := by
  intro F H xs ds P Q G hx h q
  obtain ⟨x, t, Ts, rfl, ht, hT, p⟩ := h
  obtain ⟨v, u, rfl, h1, h2⟩ := datL2 hx
  cases h2 with
  | tup hs hl =>
    rw [datL_tys hl] at hs
    exact ⟨v, _, t, Ts, rfl, sqT_mono G.sub hs, tyx_sub G.sub (tyx_of h1 ht), tn_mem ht, hT, q _ _ F H p G.rfl (.bl _)⟩
/-- an instance of an own class -/
def fIsC (C : Addr) : FN := fun ds P => ∃ fs, ds = [.ins C fs, .adr C] ∧ P (.bl true)
theorem mono_fIsC {C : Addr} : MonoF (fIsC C) := fun ds P P' m ⟨fs, a, p⟩ => ⟨fs, a, m _ p⟩
theorem serves_isC {C : Addr} : ServesC X c (fun xs H Q => ∃ a dx fs, xs = [.ref a, .ref C] ∧ H a = some (.ins C dx fs) ∧ Q (.bl true) H) (fIsC C) := by
  intro F H xs ds P Q G hx h q
  obtain ⟨fs, rfl, p⟩ := h
  obtain ⟨v, u, rfl, h1, h2⟩ := datL2 hx
  cases h2
  cases h1 with
  | ins hi _ => exact ⟨_, _, _, rfl, G.sub _ _ hi, q _ _ F H p G.rfl (.bl _)⟩

/-! ### a text, sign by sign -/
@[simp] def dItS (de : DE) : DA := fun ρ P => de ρ fun d => ∃ x : Str, d = .str x ∧ P (x.cps.toList.map fun ch => D.str ⟨#[ch]⟩)
theorem pid_str {tg e : Expr} {de : DE} (h : PD X c e de) : PId X c tg e (dItS de) := by
  refine ⟨impI (pi_str h.pe) fun σ H Q q => ?_, fun ρ P P' m => h.mono ρ _ _ fun d ⟨x, e, p⟩ => ⟨x, e, m _ p⟩⟩
  obtain ⟨F, ρ, a, q⟩ := q
  refine ⟨F, ρ, a, h.mono _ _ _ (fun d q v F1 H1 f1 d1 => ?_) q⟩
  obtain ⟨x, rfl, q⟩ := q
  cases d1
  refine ⟨x, rfl, q _ F1 H1 f1 fun F2 H2 e G i => ⟨fun d hd => ?_, fun hi => ?_⟩⟩
  · rw [List.getElem?_map] at hd
    cases hc : x.cps.toList[i]? with
    | none => rw [hc] at hd; simp at hd
    | some ch =>
      rw [hc] at hd
      simp only [Option.map_some, Option.some.injEq] at hd
      subst hd
      have hlt : i < x.cps.size := by
        have := (List.getElem?_eq_some_iff.mp hc).1
        simpa using this
      refine ⟨hlt, fun y H' q => ?_⟩
      obtain ⟨rfl, ch', h1, rfl⟩ := q
      have e1 : x.cps[i]? = some ch := by rw [← hc]; simp
      rw [h1] at e1
      obtain rfl := Option.some.inj e1
      exact ⟨F2, G.rfl, .str _⟩
  · show x.cps.size ≤ i
    simpa using hi

/-! ### a op b op' c -/
@[simp] def dChain (f f' : F2) (da db dc : DE) : DE := fun ρ P => da ρ fun x => db ρ fun y => f x y fun z => ∃ k, z = .bl k ∧ if k = true then dc ρ fun w => f' y w P else P (.bl false)
theorem pd_chain {op op' : CmpOp} {r r' : R2} {f f' : F2} {a b e : Expr} {da db dc : DE} {pos} (ho : OpR X (compareOp op) r) (ho' : OpR X (compareOp op') r') (hf : Serves X c r f) (hf' : Serves X c r' f') (mf : Mono2 f) (mf' : Mono2 f') (ha : PD X c a da) (hb : PD X c b db) (hc : PD X c e dc)
    (hm : lastMarks [op, op'] [b, e] = false := by with_unfolding_all rfl) : PD X c (.Compare a [op, op'] [b, e] pos) (dChain f f' da db dc) := by
  refine ⟨imp (pe_chain ho ho' ha.pe hb.pe hc.pe hm) fun σ H Q q => ?_, fun ρ P P' m => ha.mono ρ _ _ fun x => hb.mono ρ _ _ fun y => mf x y _ _ fun z ⟨k, e, p⟩ => ⟨k, e, ?_⟩⟩
  · obtain ⟨F, ρ, a, q⟩ := q
    refine ⟨F, ρ, a, ha.mono _ _ _ (fun d q v F1 H1 f1 d1 => ?_) q⟩
    refine ⟨F1, ρ, a.fr f1, hb.mono _ _ _ (fun d2 q v2 F2 H2 f2 d2' => ?_) q⟩
    refine hf F2 H2 v v2 d d2 _ _ f2.good (d1.mono f2.grow) d2' q fun z w F3 H3 p f3 dz => ?_
    obtain ⟨k, rfl, p⟩ := p
    cases dz
    refine ⟨k, rfl, ?_⟩
    cases k with
    | false => exact p _ F3 H3 (f1.trans (f2.trans f3)) (.bl _)
    | true =>
      refine ⟨F3, ρ, ((a.fr f1).fr f2).fr f3, hc.mono _ _ _ (fun d4 q u F4 H4 f4 d4' => ?_) p⟩
      exact hf' F4 H4 v2 u d2 d4 _ Q f4.good (d2'.mono (f3.trans f4).grow) d4' q fun d v F' H' p f5 dd => p v F' H' (f1.trans (f2.trans (f3.trans (f4.trans f5)))) dd
  · cases k with
    | false => exact m _ p
    | true => exact hc.mono _ _ _ (fun w => mf' _ _ _ _ m) p
/-! texts: <= -/
def fLeS : F2 := fun x y P => ∃ a b : Str, x = .str a ∧ y = .str b ∧ P (.bl (!decide (b.cps.toList < a.cps.toList)))
theorem mono_fLeS : Mono2 fLeS := fun _ _ _ _ m ⟨a, b, e, k, p⟩ => ⟨a, b, e, k, m _ p⟩
theorem serves_leS : Serves X c (fun x y H Q => ∃ i j, x = .str i ∧ y = .str j ∧ Q (.bl (!decide (j.cps.toList < i.cps.toList))) H) fLeS := by
  intro F H x y dx dy P Q G hx hy h q
  obtain ⟨a, b, rfl, rfl, p⟩ := h
  cases hx
  cases hy
  exact ⟨a, b, rfl, rfl, q _ _ F H p G.rfl (.bl _)⟩
end
end DL
set_option Elab.async false
set_option linter.all false
set_option maxRecDepth 100000
set_option maxHeartbeats 1000000
set_option autoImplicit false
namespace DL
open PySem PySem.Spec PyProof.Rows L2
/-! ### what the specs say of values that are known -/
section
variable {P : D → Prop} {i j : Int} {a b : Str} {l m : List D} {k : Bool} {x y : D} {C : Addr} {fs : List (Str × D)} {s : Str}
@[simp] theorem fI_eval {Cd g} : fI Cd g (.int i) (.int j) P = (Cd i j ∧ P (.int (g i j))) := by simp [fI]
@[simp] theorem fI0_eval {g} : fI0 g (.int i) (.int j) P = P (.int (g i j)) := by simp [fI0]
@[simp] theorem fB0_eval {g} : fB0 g (.int i) (.int j) P = P (.bl (g i j)) := by simp [fB0]
@[simp] theorem fNeg_eval : fNeg (.int i) P = P (.int (-i)) := by simp [fNeg]
@[simp] theorem fLen_lst : fLen [.lst l] P = P (.int l.length) := by simp [fLen]
@[simp] theorem fLen_tup : fLen [.tup l] P = P (.int l.length) := by simp [fLen]
@[simp] theorem fLen_str : fLen [.str a] P = (a.length ≤ sizeLine ∧ P (.int a.length)) := by
  unfold fLen
  apply propext
  constructor
  · rintro ⟨n, h, p⟩
    rcases h with ⟨l, h, _⟩ | ⟨l, h, _⟩ | ⟨z, h, h2, rfl⟩
    · simp at h
    · simp at h
    · simp at h
      subst h
      exact ⟨h2, p⟩
  · rintro ⟨h, p⟩
    exact ⟨_, .inr (.inr ⟨a, rfl, h, rfl⟩), p⟩
@[simp] theorem fInt_int : fInt [.int i] P = P (.int i) := by simp [fInt]
@[simp] theorem fInt_bl : fInt [.bl k] P = P (.int (if k then 1 else 0)) := by simp [fInt]
@[simp] theorem fTupOf_lst : fTupOf [.lst l] P = P (.tup l) := by simp [fTupOf]
@[simp] theorem fTupOf_tup : fTupOf [.tup l] P = P (.tup l) := by simp [fTupOf]
@[simp] theorem fLstOf_lst : fLstOf [.lst l] P = P (.lst l) := by simp [fLstOf]
@[simp] theorem fLstOf_tup : fLstOf [.tup l] P = P (.lst l) := by simp [fLstOf]
@[simp] theorem fIs_eval {n : Bool} : fIs n x .non P = P (.bl (x.isNon != n)) := by simp [fIs]
@[simp] theorem fIx_lst : fIx (.lst l) (.int i) P = ∃ d, atI l i = some d ∧ P d := by simp [fIx]
@[simp] theorem fIx_tup : fIx (.tup l) (.int i) P = ∃ d, atI l i = some d ∧ P d := by simp [fIx]
@[simp] theorem fCat_eval : fCat (.lst l) (.lst m) P = (l.length + m.length ≤ sizeLine ∧ P (.lst (l ++ m))) := by simp [fCat]
@[simp] theorem fCatT_eval : fCatT (.tup l) (.tup m) P = (l.length + m.length ≤ sizeLine ∧ P (.tup (l ++ m))) := by simp [fCatT]
theorem strs_inj : ∀ {l m : List Str}, l.map D.str = m.map D.str → l = m
  | [], [], _ => rfl
  | [], _ :: _, h => by simp at h
  | _ :: _, [], h => by simp at h
  | a :: l, b :: m, h => by
    simp only [List.map_cons, List.cons.injEq, D.str.injEq] at h
    rw [h.1, strs_inj h.2]
theorem fInS_eval {n : Bool} {ls : List Str} : fInS n (.str s) (.tup (ls.map D.str)) P = P (.bl ((ls.any fun z => z == s) != n)) := by
  unfold fInS
  apply propext
  constructor
  · rintro ⟨s', l', h1, h2, p⟩
    simp only [D.str.injEq, D.tup.injEq] at h1 h2
    subst h1
    have := strs_inj h2
    subst this
    exact p
  · exact fun p => ⟨s, ls, rfl, rfl, p⟩
@[simp] theorem fInS_one {n : Bool} : fInS n (.str s) (.tup [.str a]) P = P (.bl ((a == s) != n)) := by
  have := fInS_eval (P := P) (s := s) (n := n) (ls := [a])
  simpa using this
@[simp] theorem fIsi_eval {T : String} : fIsi [x, .ty T] P = ∃ t, x.tn = some t ∧ T ∈ tasked ∧ P (.bl (isaB t T)) := by
  unfold fIsi
  apply propext
  constructor
  · rintro ⟨x', t, T', h, h2, h3, p⟩
    simp only [List.cons.injEq, D.ty.injEq, and_true] at h
    obtain ⟨rfl, rfl⟩ := h
    exact ⟨t, h2, h3, p⟩
  · rintro ⟨t, h2, h3, p⟩
    exact ⟨x, t, T, rfl, h2, h3, p⟩
theorem tys_inj : ∀ {l m : List String}, l.map D.ty = m.map D.ty → l = m
  | [], [], _ => rfl
  | [], _ :: _, h => by simp at h
  | _ :: _, [], h => by simp at h
  | a :: l, b :: m, h => by
    simp only [List.map_cons, List.cons.injEq, D.ty.injEq] at h
    rw [h.1, tys_inj h.2]
@[simp] theorem fIsiT_two {T U : String} : fIsiT [x, .tup [.ty T, .ty U]] P = ∃ t, x.tn = some t ∧ T ∈ tasked ∧ U ∈ tasked ∧ P (.bl (isaB t T || isaB t U)) := by
  unfold fIsiT
  apply propext
  constructor
  · rintro ⟨x', t, Ts, h, h2, h3, p⟩
    simp only [List.cons.injEq, D.tup.injEq, and_true] at h
    obtain ⟨rfl, h⟩ := h
    have := tys_inj (l := [T, U]) h
    subst this
    refine ⟨t, h2, h3 T (by simp), h3 U (by simp), ?_⟩
    simpa using p
  · rintro ⟨t, h2, h3, h4, p⟩
    refine ⟨x, t, [T, U], rfl, h2, fun V hV => ?_, by simpa using p⟩
    rcases List.mem_cons.mp hV with rfl | hV
    · exact h3
    · rcases List.mem_cons.mp hV with rfl | hV
      · exact h4
      · cases hV
@[simp] theorem fIsC_eval : fIsC C [.ins C fs, .adr C] P = P (.bl true) := by simp [fIsC]
@[simp] theorem fLeS_eval : fLeS (.str a) (.str b) P = P (.bl (!decide (b.cps.toList < a.cps.toList))) := by simp [fLeS]
theorem fMax_of {ns : List Int} {z : Int} (h : z ∈ ns) (h2 : ∀ y ∈ ns, y ≤ z) (p : P (.int z)) : fMax [.lst (ns.map D.int)] P :=
  ⟨ns, rfl, by cases ns with | nil => cases h | cons _ _ => simp, fun m h3 h4 => by
    have e : m = z := Int.le_antisymm (h2 m h3) (h4 z h)
    rw [e]
    exact p⟩
theorem fAll_of {bs : List Bool} (p : P (.bl (bs.all id))) : fAll [.lst (bs.map D.bl)] P := ⟨bs, rfl, p⟩
@[simp] theorem fEq_int {n : Bool} : fEq n (.int i) (.int j) P = P (.bl ((i == j) != n)) := by
  simp [fEq, D.py, SeqAt.shaped, PyData.canLay0, PyData.depth, PyData.eqv]
end
/-! == of scalars -/
section
variable {X : Cx} {c : Dx}
def fEqS (n : Bool) : F2 := fun x y P => match x, y with
  | .str a, .str b => P (.bl ((a == b) != n))
  | .int a, .int b => P (.bl ((a == b) != n))
  | .non, .str _ => P (.bl (false != n))
  | .str _, .non => P (.bl (false != n))
  | .non, .non => P (.bl (true != n))
  | _, _ => False
theorem mono_fEqS {n : Bool} : Mono2 (fEqS n) := fun x y P P' m h => by
  unfold fEqS at h ⊢
  split at h <;> first | exact m _ h | exact h.elim
theorem bxor_f (b : Bool) : (b != false) = b := by cases b <;> rfl
theorem bxor_t (b : Bool) : (b != true) = !b := by cases b <;> rfl
theorem serves_eqS : Serves X c rEq (fEqS false) := by
  intro F H x y dx dy P Q G hx hy h q
  unfold fEqS at h
  split at h <;> first | exact h.elim | skip
  all_goals (cases hx; cases hy; refine ⟨rfl, ?_⟩; have p := q _ _ F H h G.rfl (.bl _))
  · rw [dec_str]; rw [bxor_f] at p; exact p
  · rw [dec_int]; rw [bxor_f] at p; exact p
  · exact p
  · exact p
  · exact p
theorem serves_neS : Serves X c rNe (fEqS true) := by
  intro F H x y dx dy P Q G hx hy h q
  unfold fEqS at h
  split at h <;> first | exact h.elim | skip
  all_goals (cases hx; cases hy; refine ⟨rfl, ?_⟩; have p := q _ _ F H h G.rfl (.bl _))
  · rw [dec_str]; rw [bxor_t] at p; exact p
  · rw [dec_int]; rw [bxor_t] at p; exact p
  · exact p
  · exact p
  · exact p
end
/-- a def that is a function of its arguments -/
def gF (f : List D → Option D) : GX := lift0 fun _ ds P => ∃ d, f ds = some d ∧ P d
theorem mono_gF {f : List D → Option D} : MonoX (gF f) := mono0 fun _ _ _ _ m ⟨d, e, p⟩ => ⟨d, e, m _ p⟩
end DL
set_option Elab.async false
set_option linter.all false
set_option maxRecDepth 100000
set_option maxHeartbeats 1000000
set_option autoImplicit false
/-! == and != of instances by their own __eq__ -/
namespace DLq
open PySem PySem.Spec PyProof.Rows PySem.SeqAt
section
variable {M : Model} {prog : Program} {w : World} {A : Around} {E : Value → Shared → Prop} {s : Shared} {K : PySem.W.Frag} {x C f : Addr} {ox : Obj} {od : Option Obj} {b tb : Value}
theorem ifBound_ne {args : List Value} {Q : Option Value → Shared → Prop} (X : K.In s.heap) (I : PySem.W.InstAt s.heap x ox C od) (hs : PySem.W.findIn K (.ref C) "__ne__" = some (some (.builtin "object.__ne__")))
    (h : wpAny M A (call (.builtin "object.__ne__") (.ref x :: args)) (fun v => Q (some v)) E s) : wpAny M A (callSpecialIfBound? (.ref x) "__ne__" args) Q E s := by
  simp only [callSpecialIfBound?, bindSpecialIfBound?]
  refine wpAny_holding (wpAny_bind (wpAny_bind (wpAny_bind (I.type.here ((PySem.W.looks_findIn X hs).here ?_)))))
  refine wpAny_bind (wpAny_askSetting (wpAny_ite ?_))
  have fin : wpAny M A (call (.builtin "object.__ne__") ([.ref x] ++ args) >>= fun v => pure (some v)) Q E s := wpAny_bind (wpAny_mono h (fun v s' h' => wpAny_pure h') fun _ _ h' => h')
  split
  · exact wpAny_bind (wpAny_of_eq (F.cmp_object.ne.bind _) (wpAny_pure (by exact fin)))
  · exact wpAny_tryCatch (wpAny_bind (wpAny_of_eq (F.cmp_object.ne.bind _) (wpAny_pure (by exact fin))))
/-- how a call that gives a bool ends -/
def Back (Q : Bool → Shared → Prop) (E : Value → Shared → Prop) (r : Result) (s' : Shared) : Prop := match r with
  | .ok (.ret v) => ∃ b, v = .bool b ∧ Q b s'
  | .ok _ => False
  | .error e => E e s'
theorem entry_ne {y : Addr} {Q : Fin → Shared → Prop} (hu : A.units < cLine) (X : K.In s.heap) (I : PySem.W.InstAt s.heap x ox C od) (hs : PySem.W.findIn K (.ref C) "__eq__" = some (some (.ref f))) (hf : PySem.W.isFn K (.ref f) = true)
    (h : codeAny (model prog w) A (.call (.ref f) ⟨[.ref x, .ref y], []⟩) (Back (fun r s' => Q (.done (.ret (.bool (!r)))) s') E) s) : wpAny (model prog w) A (Builtin.«object.__ne__» ⟨[.ref x, .ref y], []⟩) Q E s := by
  unfold Builtin.«object.__ne__»
  repeat (first | with_reducible refine wpAny_cRoomFor hu ?_ | with_reducible refine PySem.W.ifBound_K X I hs hf ?_ | wp_step)
  refine codeAny_mono h (fun r s' hr => ?_)
  cases r with
  | error e => exact hr
  | ok fl =>
    cases fl with
    | ret v =>
      obtain ⟨b, rfl, q⟩ := hr
      show wpAny _ _ (truthy (.bool b) >>= fun t => ret (.bool (!t))) Q E s'
      exact wpAny_bind (wpAny_truthy_bool (wpAny_pure q))
    | next => exact False.elim hr
    | brk => exact False.elim hr
    | cont => exact False.elim hr
theorem ne_own {y : Addr} {Q : Value → Shared → Prop} (hu : A.units + 1 < cLine) (X : K.In s.heap) (I : PySem.W.InstAt s.heap x ox C od) (hb : PySem.W.Looks (model prog w) s.heap (typeOf (.ref y)) tb) (hn : PySem.W.notFirst K C tb = true)
    (hne : PySem.W.findIn K (.ref C) "__ne__" = some (some (.builtin "object.__ne__"))) (hm : PySem.W.mroIn K C (.type "object") = some true) (hs : PySem.W.findIn K (.ref C) "__eq__" = some (some (.ref f))) (hf : PySem.W.isFn K (.ref f) = true)
    (h : codeAny (model prog w) A.in1 (.call (.ref f) ⟨[.ref x, .ref y], []⟩) (Back (fun r s' => Q (.bool (!r)) s') E) s) : wpAny (model prog w) A (richCompare .NotEq (.ref x) (.ref y)) Q E s := by
  have one : wpAny (model prog w) A (tryCompare (.ref x) "__ne__" (.ref y)) (fun r s' => ∃ v, r = some v ∧ Q v s') E s := by
    unfold tryCompare
    refine wpAny_bind (ifBound_ne X I hne ?_)
    refine wpAny_call (codeAny_call_builtin F.cmp_object.ne.plain F.cmpEntry_ne (PySem.W.check_slot F.cmpKind_ne F.cmpSplit_ne (I.type.andThen (PySem.W.looks_mroIn X hm)) (F.cmpArgs_ne _ _) (entry_ne (A := A.in1) hu X I hs hf (codeAny_mono h fun r s' hr => ?_))))
    cases r with
    | error e => exact hr
    | ok fl =>
      cases fl with
      | ret v =>
        obtain ⟨b, rfl, q⟩ := hr
        exact ⟨b, rfl, wpAny_pure ⟨_, rfl, q⟩⟩
      | next => exact False.elim hr
      | brk => exact False.elim hr
      | cont => exact False.elim hr
  unfold richCompare
  simp only [oneThing_ref]
  refine wpAny_holding (wpAny_bind (wpAny_cRoomFor (by omega) ?_))
  refine wpAny_bind (I.type.here (wpAny_bind (hb.here ?_)))
  split
  · rename_i q
    have e : PySem.W.subIn K tb (.ref C) = some false := by
      rcases Bool.or_eq_true_iff.mp hn with e | e
      · rw [beq_iff_eq.mp e] at q; simp at q
      · exact beq_iff_eq.mp e
    refine wpAny_bind ((PySem.W.looks_subIn X e).here ?_)
    simp only [Bool.false_eq_true, if_false]
    refine wpAny_bind (wpAny_mono one (fun r s' z => ?_) fun _ _ e => e)
    obtain ⟨v, rfl, hq⟩ := z
    exact wpAny_pure hq
  · refine wpAny_bind (wpAny_pure ?_)
    simp only [Bool.false_eq_true, if_false]
    refine wpAny_bind (wpAny_mono one (fun r s' z => ?_) fun _ _ e => e)
    obtain ⟨v, rfl, hq⟩ := z
    exact wpAny_pure hq
end
end DLq
namespace DL
open PySem PySem.Spec PyProof.Rows L2
section
variable {X : Cx} {c : Dx}
/-- what the class of instances with an own == has -/
structure EqC (K : PySem.W.Frag) (C f : Addr) : Prop where
  eq : PySem.W.findIn K (.ref C) "__eq__" = some (some (.ref f))
  fn : PySem.W.isFn K (.ref f) = true
  ne : PySem.W.findIn K (.ref C) "__ne__" = some (some (.builtin "object.__ne__"))
  mo : PySem.W.mroIn K C (.type "object") = some true
def rOwn (K : PySem.W.Frag) (C : Addr) (g : GX) (neg : Bool) : R2 := fun x y H Q => ∃ a b dx dy fs gs, x = .ref a ∧ y = .ref b ∧ H a = some (.ins C dx fs) ∧ H b = some (.ins C dy gs) ∧
  spX K g [x, y] H (fun v H' => ∃ r, v = .bl r ∧ Q (.bl (r != neg)) H') fun _ _ _ => False
section
variable {n : Nat} {C f : Addr} {fd : FuncData} {ps : List Str} {g : GX}
theorem op_neO (F : FnOk X.prog X.w X.K X.mg X.base CX0 n f fd ps (spX X.K g)) (e : EqC X.K C f) (hb : Binds X.K fd ps []) (hr : Room (n + 1) X.A) : OpR X (compareOp .NotEq) (rOwn X.K C g true) := by
  intro pins s σ H x y v u Q I rx ry h
  obtain ⟨a, b, dx, dy, fs, gs, rfl, rfl, ha, hb', hsp⟩ := h
  cases rx
  cases ry
  obtain ⟨mA, J, _⟩ := ins_get I.hok ha
  obtain ⟨mB, J', _⟩ := ins_get I.hok hb'
  obtain ⟨od, J, _⟩ := J.look
  obtain ⟨od', J', _⟩ := J'.look
  show wpAny (model X.prog X.w) X.A (richCompare .NotEq (.ref a) (.ref b)) (EP X pins σ Q) X.xe s
  have hl := F.len _ _ _ _ hsp
  have r2 : Vals [V.ref a, V.ref b] [Value.ref a, Value.ref b] := .cons rfl (.cons rfl .nil)
  refine DLq.ne_own (tb := .ref C) (by have := hr.units; omega) I.kIn J J'.type (by simp [PySem.W.notFirst]) e.ne e.mo e.eq e.fn ?_
  refine codeAny_mono (F.run X.A.in1 X.stack s H ⟨[.ref a, .ref b], []⟩ [.ref a, .ref b] [.ref a, .ref b] _ _ hr.in1 I.env0.in1 (by
    have := hb s [.ref a, .ref b] I.kIn (by simpa using hl)
    simpa using this) r2 hsp) fun r s' hq => ?_
  cases r with
  | error e => exact False.elim hq
  | ok fl =>
    cases fl with
    | ret w =>
      obtain ⟨z, H', I', rz, k, ez, q⟩ := I.after hq
      subst ez
      cases rz
      refine ⟨k, rfl, ?_⟩
      rw [bxor_t] at q
      exact ⟨.bl _, H', I', rfl, q⟩
    | next => exact False.elim hq
    | brk => exact False.elim hq
    | cont => exact False.elim hq
theorem op_eqO (F : FnOk X.prog X.w X.K X.mg X.base CX0 n f fd ps (spX X.K g)) (e : EqC X.K C f) (hb : Binds X.K fd ps []) (hr : Room n X.A) : OpR X (compareOp .Eq) (rOwn X.K C g false) := by
  intro pins s σ H x y v u Q I rx ry h
  obtain ⟨a, b, dx, dy, fs, gs, rfl, rfl, ha, hb', hsp⟩ := h
  cases rx
  cases ry
  obtain ⟨mA, J, _⟩ := ins_get I.hok ha
  obtain ⟨mB, J', _⟩ := ins_get I.hok hb'
  obtain ⟨od, J, _⟩ := J.look
  obtain ⟨od', J', _⟩ := J'.look
  obtain ⟨m, hF⟩ := I.fr
  show wpAny (model X.prog X.w) X.A (richCompare .Eq (.ref a) (.ref b)) (EP X pins σ Q) X.xe s
  have hl := F.len _ _ _ _ hsp
  have r2 : Vals [V.ref a, V.ref b] [Value.ref a, Value.ref b] := .cons rfl (.cons rfl .nil)
  refine PySem.W.cmp_K (op := .Eq) (tb := .ref C) hr.units0 hF I.ok.mod.kin J J'.type (by simp [PySem.W.notFirst]) e.eq e.fn ?_
  refine wpAny_call (codeAny_mono (F.run X.A X.stack s H ⟨[.ref a, .ref b], []⟩ [.ref a, .ref b] [.ref a, .ref b] _ _ hr I.env0 (by
    have := hb s [.ref a, .ref b] I.kIn (by simpa using hl)
    simpa using this) r2 hsp) fun r s' hq => ?_)
  cases r with
  | error e => exact False.elim hq
  | ok fl =>
    cases fl with
    | ret w =>
      obtain ⟨z, H', I', rz, k, ez, q⟩ := I.after hq
      subst ez
      cases rz
      rw [bxor_f] at q
      exact ⟨.bl _, H', I', rfl, q⟩
    | next => exact False.elim hq
    | brk => exact False.elim hq
    | cont => exact False.elim hq
end
/-- == of two instances, by a function of the two -/
def fOwn (C : Addr) (f : List D → Option D) (neg : Bool) : F2 := fun x y P => ∃ fs gs k, x = .ins C fs ∧ y = .ins C gs ∧ f [x, y] = some (.bl k) ∧ P (.bl (k != neg))
theorem mono_fOwn {C : Addr} {f : List D → Option D} {neg : Bool} : Mono2 (fOwn C f neg) := fun x y P P' m ⟨fs, gs, k, a, b, e, p⟩ => ⟨fs, gs, k, a, b, e, m _ p⟩
theorem serves_own {C : Addr} {f : List D → Option D} {neg : Bool} : Serves X c (rOwn X.K C (gF f) neg) (fOwn C f neg) := by
  intro F H x y dx dy P Q G hx hy h q
  obtain ⟨fs, gs, k, rfl, rfl, e, p⟩ := h
  have hx' := hx
  have hy' := hy
  cases hx with
  | ins h1 h2 =>
    cases hy with
    | ins h3 h4 =>
      refine ⟨_, _, _, _, _, _, rfl, rfl, G.sub _ _ h1, G.sub _ _ h3, c.W, F, [_, _], G, .cons hx' (.cons hy' .nil), ?_⟩
      refine ⟨_, e, fun v F' H' fr dv => ?_⟩
      cases dv
      exact ⟨k, rfl, q _ _ F' H' p fr (.bl _)⟩
@[simp] theorem fOwn_eval {C : Addr} {f : List D → Option D} {neg : Bool} {fs gs : List (Str × D)} {P : D → Prop} : fOwn C f neg (.ins C fs) (.ins C gs) P = ∃ k, f [.ins C fs, .ins C gs] = some (.bl k) ∧ P (.bl (k != neg)) := by
  simp [fOwn]
end
end DL
set_option Elab.async false
set_option linter.all false
set_option maxRecDepth 100000
set_option maxHeartbeats 1000000
set_option autoImplicit false
/-! defs that show data (repr): their promise holds where nothing is being shown -/
namespace DL
open PySem PySem.Spec PyProof.Rows L2
section
variable {P : Program} {w : World} {K : PySem.W.Frag} {mg : Str → Option Value} {base : Heap}
/-- as FnOk, from callers around whom nothing is being shown -/
structure FnG (P : Program) (w : World) (K : PySem.W.Frag) (mg : Str → Option Value) (base : Heap) (k : Nat) (f : Addr) (fd : FuncData) (ps : List Str) (sp : Sp) : Prop where
  len : ∀ vs H Q E, sp vs H Q E → vs.length = ps.length
  run : ∀ (A : Around) (outer : List Env) (s : Shared) (H : Hp) (args : Args) (us : List Value) (vs : List V) (Q : VK) (E : XK), A.guards = some [] → Room k A → Env0 P w K mg base A outer s H → BindsTo s fd args (ps.zip us) → Vals vs us → sp vs H Q E →
    codeAny (model P w) A (.call (.ref f) args) (CR CX0 outer P w H s Q E) s
theorem FnG.of {k : Nat} {f : Addr} {fd : FuncData} {ps : List Str} {sp : Sp} (F : FnOk P w K mg base CX0 k f fd ps sp) : FnG P w K mg base k f fd ps sp :=
  ⟨F.len, fun A outer s H args us vs Q E _ => F.run A outer s H args us vs Q E⟩
/-- a def's body, run from where nothing is being shown -/
theorem okG {x qual : Str} {st : Stmt} {f : Addr} {fd : FuncData} {N ps : List Str} {k : Nat} {g : G0} (F : Fun K x qual st f fd) (S : FnScope N ps (defScope st)) (len : ∀ W ds P, g W ds P → ds.length = ps.length)
    (hbody : ∀ (cdv : Value) (A : Around) (outer : List Env) (s : Shared) (H : Hp) (E : XK) (W : Option Addr) (F0 : Hp), A.guards = some [] → Room k (A.deeper (envOfC qual (defScope st) s.heap.objs.size f cdv)) →
      ∃ den, PSsd ((cxOf CX0 P w K mg base N qual (defScope st) f cdv A outer s H E).nox) ⟨W, F0, H, fun _ _ => False⟩ (defBody st) den ∧
        ∀ ds Pd, g W ds Pd → den ⟨fun _ => Pd .non, Pd, fun _ => False, fun _ => False⟩ (ds.map Sl.fz ++ List.replicate (N.length - ds.length) Sl.un)) : FnG P w K mg base (k + 1) f fd ps (spX K (lift0 g)) := by
  have hlen : ∀ vs H Q E, spX K (lift0 g) vs H Q E → vs.length = ps.length := fun vs H Q E h => by
    obtain ⟨W, F0, ds, _, d, q⟩ := h
    rw [d.length]
    exact len _ _ _ q
  refine ⟨hlen, fun A outer s H args us vs Q E hg hr e0 hb r hsp => ?_⟩
  obtain ⟨oc, od, kV, doc, pm, an, cdv, ct, osl, rfl, lk, hcd⟩ := F.ex
  have inK : K.In s.heap := e0.mod.kin.keeps fun b o e => (e0.bs b o e).1
  have kinds : ∀ y ∈ ps.zip us, (defScope st).names.lookup y.1 = some .local ∨ ((defScope st).names.lookup y.1 = some .cell ∧ ((cellsFrom (s.heap.objs.size + 1) (defScope st).names []).lookup y.1).isSome = true) := by
    intro y hy
    obtain ⟨y1, y2⟩ := y
    exact (S.par y1 (List.of_mem_zip hy).1).imp id fun q => ⟨q, PySem.W.cellsFrom_some _ _ _ (.inl q)⟩
  apply codeAny_call_function hr.depth (inK _ _ lk) rfl S.co S.gen rfl (PySem.W.codeRec_of inK hcd) (hb _ _ _ _ _)
  apply wpAny_newFunctionEnv_cells S.kind kinds
  intro env he s1 x
  subst he
  refine ⟨(e0.mod.nolimit.keeps fun b o e => (e0.bs b o e).1).keeps x.toInCall.keep, codeAny_func ?_⟩
  have hvs := hlen _ _ _ _ hsp
  obtain ⟨W, F0, ds, G, d, q⟩ := hsp
  obtain ⟨den, hd, hq⟩ := hbody cdv A outer s H E W F0 hg (hr.deeper _)
  have I := inv_start (CX := CX0) (mg := mg) (E := E) S hr.hd e0 hvs r x
  have run := hd.ps.nox.run [] s1 (L2.start N vs) H { nx := fun _ H' => Q .non H', rt := Q } I (body_in rfl G d (fun _ p => p) (hq ds _ q))
  refine wpAny_mono run (fun fl s' hs => ?_) fun e s' hs => hs
  cases fl with
  | ret u =>
    obtain ⟨v, σ', H', J, rv, q⟩ := hs
    exact ⟨v, H', J.os, J.bare, J.base, J.hok, rv, q⟩
  | next =>
    obtain ⟨σ', H', J, q⟩ := hs
    exact ⟨.non, H', J.os, J.bare, J.base, J.hok, rfl, q⟩
  | brk =>
    obtain ⟨_, _, _, q⟩ := hs
    exact q.elim
  | cont =>
    obtain ⟨_, _, _, q⟩ := hs
    exact q.elim
end
section
variable {X : Cx} {c : Dx}
section
variable {k : Nat} {f : Addr} {fd : FuncData} {ps : List Str} {sp : Sp} {g : GX} {x : Str} {p pos : Pos} {e : Expr} {es : List Expr} {da : DA}
theorem pe_callG {t : TA} (F : FnG X.prog X.w X.K X.mg X.base k f fd ps sp) (hgd : X.A.guards = some []) (hr : Room k X.A) (hg : Gl X x) (hm : X.mg x = some (.ref f)) (hk : PySem.W.keepIn X.K (.ref f) = true) (hb : Binds X.K fd ps [])
    (ha : PA X (e :: es) t) (hdb : (x == ("__debug__" : Str)) = false := by decide) (he : starEach (e :: es) X.env = (false, eval e X.env) :: starEach es X.env := by rfl) (hpl : (backTo pos (starEach es X.env)).any (·.1) = false := by rfl) :
    PE X (.Call (.Name x p) (e :: es) [] pos) (tCall sp [] E0 t) := by
  constructor
  intro pins s σ H Q I h
  apply wpAny_Call_Name_kw
  apply ld_glob I hg hm (hd := hdb)
  refine PySem.W.callWith_K (h₀ := X.base) I.ok.mod.kin hk (thn (ha.run pos pins s σ H _ I h) ?_) he hpl
  rintro us s1 ⟨vs, H1, I1, r, q⟩
  rw [List.append_nil] at q
  have hl : us.length = ps.length := by rw [← r.length]; exact F.len _ _ _ _ q
  refine ⟨I1.kIn, wpAny_call (codeAny_mono (F.run X.A X.stack s1 H1 ⟨us, []⟩ us vs Q E0 hgd hr I1.env0 ?_ r q) ?_)⟩
  · have := hb s1 us I1.kIn (by simpa using hl)
    simpa using this
  · intro r s' hq
    cases r with
    | error e => exact False.elim hq
    | ok fl => cases fl <;> first | exact I1.after hq | exact False.elim hq
theorem pd_callG (F : FnG X.prog X.w X.K X.mg X.base k f fd ps (spX X.K g)) (m : MonoX g) (hgd : X.A.guards = some []) (hr : Room k X.A) (hg : Gl X x) (hm : X.mg x = some (.ref f)) (hk : PySem.W.keepIn X.K (.ref f) = true) (hb : Binds X.K fd ps []) (eo : EOk X c E0)
    (ha : PDA X c (e :: es) da) (hdb : (x == ("__debug__" : Str)) = false := by decide) (he : starEach (e :: es) X.env = (false, eval e X.env) :: starEach es X.env := by rfl) (hpl : (backTo pos (starEach es X.env)).any (·.1) = false := by rfl) :
    PD X c (.Call (.Name x p) (e :: es) [] pos) (dFn g c [] da) := by
  refine ⟨imp (pe_callG F hgd hr hg hm hk hb ha.pa hdb he hpl) fun σ H Q q => ?_, mono_dFn m ha.mono⟩
  obtain ⟨F1, ρ, a, q⟩ := q
  refine ⟨F1, ρ, a, ha.mono _ _ _ (fun ds q vs F2 H2 f2 d2 => ?_) q⟩
  show spX X.K g (vs ++ []) H2 Q E0
  rw [List.append_nil]
  rw [List.append_nil] at q
  exact sp_up m eo (a.fr f2) d2 q fun d v F' H' p f3 dd => p v F' H' (f2.trans f3) dd
end
/-! ### the end, where the law shows data -/
theorem scriptH {P : Program} {w : World} {K : PySem.W.Frag} {h : Heap} {a : Addr} {vs : List Value} {ns : List Int} (KX : K.In h) (ha : h.get? a = some { cls := .type "list", data := .seq vs.toArray }) (hi : IntsAre vs ns) (hl : ns.length ≤ sizeLine) :
    ∃ H : Hp, Only H ∧ SqL K H a (ns.map V.int) ∧ HOk P w H h ∧ (∀ b, H b ≠ none → b = a) ∧ (H a ≠ none → K.lookup a = none) := by
  have rv := vals_ints hi
  have lv := hi.length
  by_cases hk : ∃ o, K.lookup a = some o
  · obtain ⟨o, hk⟩ := hk
    obtain rfl := Option.some.inj (ha.symm.trans (KX a o hk))
    exact ⟨fun _ => none, fun _ => .inl rfl, .inr ⟨_, vs.toArray, _, hk, rfl, rfl, rfl, by rw [List.size_toArray, lv]; exact hl, by simpa using rv⟩, fun _ _ z => (nomatch z), fun _ z => (z rfl).elim, fun z => (z rfl).elim⟩
  · have hk0 : K.lookup a = none := by
      cases q : K.lookup a with
      | none => rfl
      | some o => exact (hk ⟨o, q⟩).elim
    refine ⟨upd (fun _ => none) a (.frz { cls := .type "list", data := .seq vs.toArray } (.lst (ns.map V.int))), fun b => ?_, .inl (.inr ⟨_, upd_same⟩), fun b u e => ?_, fun b z => ?_, fun _ => hk0⟩
    · by_cases e : b = a
      · subst e; exact .inr ⟨_, _, upd_same⟩
      · exact .inl (upd_ne e)
    · by_cases q : b = a
      · subst q
        rw [upd_same] at e
        cases e
        exact ⟨ha, by rw [List.length_map]; exact hl, vs, 0, rv, ha⟩
      · rw [upd_ne q] at e
        cases e
    · by_cases q : b = a
      · exact q
      · exact (z (upd_ne q)).elim
theorem lawG {P : Program} {w : World} {K : PySem.W.Frag} {mg mb : Str → Option Value} {k : Nat} {fa a : Addr} {fd : FuncData} {x : Str} {sp : Sp} {s₁ : Shared} {vs : List Value} {ns : List Int}
    (KX : K.In s₁.heap) (hns : s₁.heap.Ns mainGlobals mg) (hb : s₁.heap.Ns builtinsNs mb) (hbb : ∀ x : Str, x ≠ "__name__" → mb x = bootBuiltins x) (hlim : s₁.heap.NoLimit) (hg : s₁.gens = #[])
    (ha : s₁.heap.get? a = some { cls := .type "list", data := .seq vs.toArray }) (hi : IntsAre vs ns) (hl : ns.length ≤ sizeLine) (hr : Room k callerA)
    (F : ∀ base : Heap, K.In base → base.Ns mainGlobals mg → FnG P w K mg base k fa fd [x] sp) (hbind : ∀ (s : Shared) (u : Value), BindsTo s fd ⟨[u], []⟩ [(x, u)])
    (hsp : ∀ H : Hp, Only H → SqL K H a (ns.map V.int) → sp [.ref a] H (fun v _ => v = .bl true) E0) :
    codeAny (model P w) callerA (.call (.ref fa) ⟨[.ref a], []⟩) (fun r s' => r = .ok (.ret (.bool true)) ∧ OldK s₁.heap s'.heap ∧ s'.os = s₁.os ∧ AllBare s'.gens) s₁ := by
  obtain ⟨H, hO, hS, ok, hA, hK⟩ := scriptH (P := P) (w := w) KX ha hi hl
  have free : ∀ {b : Addr} {o : Obj}, (b = a → False) → s₁.heap.get? b = some o → (hidT s₁.heap H).get? b = some o := fun {b o} hne e => hidT_get e (by
    cases q : H b with
    | none => rfl
    | some u => exact (hne (hA b (by rw [q]; exact Option.some_ne_none u))).elim)
  have ns : ∀ {b : Addr} {m : Str → Option Value}, s₁.heap.Ns b m → (hidT s₁.heap H).Ns b m := fun {b m} h => by
    obtain ⟨o, es, ep, e, d, r⟩ := h
    refine ⟨o, es, ep, free (fun z => ?_) e, d, r⟩
    subst z
    rw [ha] at e
    cases e
    cases d
  have inB : K.In (hidT s₁.heap H) := fun b o e => by
    by_cases z : b = a
    · subst z
      refine hidT_get (KX b o e) ?_
      cases q : H b with
      | none => rfl
      | some u =>
        have := hK (by rw [q]; exact Option.some_ne_none u)
        rw [this] at e
        cases e
    · exact free z (KX b o e)
  have md : Mod K mg (hidT s₁.heap H) := ⟨inB, ns hns, ⟨mb, ns hb, hbb⟩, by
    obtain ⟨mc, h1, h2⟩ := hlim
    exact ⟨mc, ns h1, h2⟩⟩
  have e0 : Env0 P w K mg (hidT s₁.heap H) callerA [] s₁ H := ⟨rfl, md, fun b o e => of_hidT e, Nat.le_of_eq (hidT_size _ _), trivial, fun b z => (nomatch z), ok, .of_eq hg⟩
  refine codeAny_mono ((F _ inB (ns hns)).run callerA [] s₁ H ⟨[.ref a], []⟩ [.ref a] [.ref a] _ _ rfl hr e0 (hbind s₁ (.ref a)) (.cons rfl .nil) (hsp H hO hS)) ?_
  intro r s' h
  cases r with
  | error e => exact h.elim
  | ok fl =>
    cases fl with
    | ret u =>
      obtain ⟨v, H', os, bare, un, ok', rv, q⟩ := h
      obtain rfl : v = .bl true := q
      obtain rfl : u = Value.bool true := rv
      refine ⟨rfl, OldK.of_keep fun b o e => ?_, os, bare⟩
      rcases hO b with z | ⟨ob, xs, z⟩
      · exact un.keep b o e z (fun t => (nomatch t)) (fun t => (nomatch t))
      · obtain ⟨e2, _⟩ := ok' b _ (un.frzs b ob _ z)
        obtain ⟨e1, _⟩ := ok b _ z
        rw [e2, ← e1]
        exact e
    | next => exact False.elim h
    | brk => exact False.elim h
    | cont => exact False.elim h
theorem walkG {l : PySem.W.OpenLaw} {n k : Nat} {q : Program} {loose : List Str} {XP : (Str → Option Value) → Heap → Prop} {YP : World → Heap → Prop} {d : DefRec} {K : Params → PySem.W.Frag} {sp : PySem.W.Frag → Sp} {x : Str}
    (hn : l.most = some n) (hn2 : n ≤ sizeLine) (hdf : d.params.defaults = []) (hr : Room k callerA)
    (hY : ∀ (w : World) (h : Heap), YP w h → (K w.params).In h)
    (F : ∀ (w : World) (mg : Str → Option Value) (fa : Addr) (h : Heap), (K w.params).In h → h.Ns mainGlobals mg → mg d.name = some (.ref fa) →
      ∃ fd : FuncData, (∀ (s : Shared) (u : Value), BindsTo s fd ⟨[u], []⟩ [(x, u)]) ∧ ∀ base : Heap, (K w.params).In base → base.Ns mainGlobals mg → FnG l.prog w (K w.params) mg base k fa fd [x] (sp (K w.params)))
    (hsp : ∀ (w : World) (H : Hp) (a : Addr) (ns : List Int), ns.length ≤ n → (∀ z ∈ ns, Builtin.Int.intBits z ≤ 1048576) → Only H → SqL (K w.params) H a (ns.map V.int) → sp (K w.params) [.ref a] H (fun v _ => v = .bl true) E0) :
    PySem.W.WalkO q loose XP YP l.row.toRowW d [] (fun f vs => PySem.call f vs) := by
  apply Att.attach_callB hn hdf
  intro w s₀ s₁ mg mb fa o pm cd doc a vs ns G Y ho hd hcd hmg hobj hints hlen hbits hg
  obtain ⟨fd, hb, hF⟩ := F w mg fa _ (hY w _ Y) G.T.g hmg
  exact lawG (hY w _ Y) G.T.g G.T.b G.T.builtins G.T.nolimit hg hobj hints (Nat.le_trans hlen hn2) hr hF hb fun H hO hS => hsp w H a ns hlen hbits hO hS
/-! repr of data -/
def rRepr (K : PySem.W.Frag) : List V → Hp → VK → Prop := fun xs H Q => ∃ a d, xs = [.ref a] ∧ Dp K H (.ref a) d ∧ d.showable = true ∧ d.hasDict = false ∧ d.depth ≤ 50 ∧ d.shown.length ≤ sizeLine ∧ Q (.str d.shown) H
theorem call_repr (hgd : X.A.guards = some []) {k : Nat} (hr : Room k X.A) : CallR X (.builtin "repr") (rRepr X.K) := by
  intro pins s σ H xs us Q I r h
  obtain ⟨a, d, rfl, hd, h1, h2, h3, h4, q⟩ := h
  obtain ⟨u, rfl, ru⟩ : ∃ u, us = [u] ∧ RelV (.ref a) u := by
    cases r with
    | cons a b => cases b; exact ⟨_, rfl, a⟩
  obtain ⟨as, rd⟩ := Dp.reads I d _ u hd ru
  cases ru
  refine repr_of_reads' rd h1 (noDict h2) hgd (by have := hr.units; omega) (fun _ _ e => e) (fun h' u tk kp => ?_) h4
  exact ⟨.str d.shown, H, I.kept kp, ⟨u, rfl⟩, q⟩
  where noDict {d : PyData} {as : List Addr} (h : d.hasDict = false) : d.hasDict = true → sysModules ∉ as := fun h' => by rw [h] at h'; cases h'
def fRepr : FN := fun ds P => ∃ x d, ds = [x] ∧ (∃ l, x = .lst l ∨ x = .tup l) ∧ x.py = some d ∧ d.showable = true ∧ d.hasDict = false ∧ d.depth ≤ 50 ∧ d.shown.length ≤ sizeLine ∧ P (.str d.shown)
theorem mono_fRepr : MonoF fRepr := fun ds P P' m ⟨x, d, a, b, e, f, g, h, i, p⟩ => ⟨x, d, a, b, e, f, g, h, i, m _ p⟩
theorem serves_repr : ServesC X c (rRepr X.K) fRepr := by
  intro F H xs ds P Q G hx h q
  obtain ⟨x, d, rfl, ⟨l, hl⟩, e, h1, h2, h3, h4, p⟩ := h
  obtain ⟨v, rfl, hv⟩ := datL1 hx
  have dp := Dp.mono G.sub (dat_dp hv e)
  have fin := q _ _ F H p G.rfl (.str _)
  rcases hl with rfl | rfl
  · cases hv with
    | lst hs hl => exact ⟨_, d, rfl, dp, h1, h2, h3, h4, fin⟩
  · cases hv with
    | tup hs hl => exact ⟨_, d, rfl, dp, h1, h2, h3, h4, fin⟩
end
end DL
set_option Elab.async false
set_option linter.all false
set_option maxRecDepth 100000
set_option maxHeartbeats 2000000
set_option autoImplicit false
/-! the kinds of values, boxes and marks, as functions of data -/
namespace DL
open PySem L2
/-! ### promises by functions of so many arguments -/
def gF1 (f : D → Option D) : GX := lift0 fun _ ds P => ∃ x d, ds = [x] ∧ f x = some d ∧ P d
def gF2 (f : D → D → Option D) : GX := lift0 fun _ ds P => ∃ x y d, ds = [x, y] ∧ f x y = some d ∧ P d
def gF3 (f : D → D → D → Option D) : GX := lift0 fun _ ds P => ∃ x y z d, ds = [x, y, z] ∧ f x y z = some d ∧ P d
theorem mono_gF1 {f : D → Option D} : MonoX (gF1 f) := mono0 fun _ _ _ _ m ⟨x, d, a, e, p⟩ => ⟨x, d, a, e, m _ p⟩
theorem mono_gF2 {f : D → D → Option D} : MonoX (gF2 f) := mono0 fun _ _ _ _ m ⟨x, y, d, a, e, p⟩ => ⟨x, y, d, a, e, m _ p⟩
theorem mono_gF3 {f : D → D → D → Option D} : MonoX (gF3 f) := mono0 fun _ _ _ _ m ⟨x, y, z, d, a, e, p⟩ => ⟨x, y, z, d, a, e, m _ p⟩
section
variable {W : Option Addr} {P : D → Prop} {XP : Addr → List (Str × D) → Prop} {a b c : D}
@[simp] theorem gF1_eval {f : D → Option D} : gF1 f W [a] P XP = ∃ d, f a = some d ∧ P d := by
  apply propext
  constructor
  · rintro ⟨x, d, h, e, p⟩
    cases h
    exact ⟨d, e, p⟩
  · rintro ⟨d, e, p⟩
    exact ⟨a, d, rfl, e, p⟩
@[simp] theorem gF2_eval {f : D → D → Option D} : gF2 f W [a, b] P XP = ∃ d, f a b = some d ∧ P d := by
  apply propext
  constructor
  · rintro ⟨x, y, d, h, e, p⟩
    cases h
    exact ⟨d, e, p⟩
  · rintro ⟨d, e, p⟩
    exact ⟨a, b, d, rfl, e, p⟩
@[simp] theorem gF3_eval {f : D → D → D → Option D} : gF3 f W [a, b, c] P XP = ∃ d, f a b c = some d ∧ P d := by
  apply propext
  constructor
  · rintro ⟨x, y, z, d, h, e, p⟩
    cases h
    exact ⟨d, e, p⟩
  · rintro ⟨d, e, p⟩
    exact ⟨a, b, c, d, rfl, e, p⟩
end
/-! ### comprehensions and the like, by what one turn does -/
theorem dComp_map {set : DG} {de : DE} {ρ : List Sl} (f : D → D) : ∀ (xs : List D) (_ : ∀ x ∈ xs, ∀ P : D → Prop, P (f x) → ∃ ρ1, set x ρ = some ρ1 ∧ de ρ1 P) (acc : List D) (P : List D → Prop), P (acc ++ xs.map f) → dComp set dYes de ρ xs acc P
  | [], _, acc, P, p => by simpa [dComp] using p
  | x :: r, h, acc, P, p => by
    obtain ⟨ρ1, e, q⟩ := h x List.mem_cons_self (fun y => dComp set dYes de ρ r (acc ++ [y]) P) (dComp_map f r (fun z hz => h z (List.mem_cons_of_mem _ hz)) _ P (by simpa using p))
    exact ⟨ρ1, e, by simpa [dYes] using q⟩
theorem dComp_rel {set : DG} {de : DE} {ρ : List Sl} (R : D → Prop) : ∀ (xs : List D) (_ : ∀ x ∈ xs, ∀ P : D → Prop, (∀ y, R y → P y) → ∃ ρ1, set x ρ = some ρ1 ∧ de ρ1 P) (acc : List D) (P : List D → Prop), (∀ ys : List D, ys.length = xs.length → (∀ y ∈ ys, R y) → P (acc ++ ys)) → dComp set dYes de ρ xs acc P
  | [], _, acc, P, p => by
    have := p [] rfl (fun y hy => by cases hy)
    simpa [dComp] using this
  | x :: r, h, acc, P, p => by
    obtain ⟨ρ1, e, q⟩ := h x List.mem_cons_self (fun y => dComp set dYes de ρ r (acc ++ [y]) P) (fun y hy => dComp_rel R r (fun z hz => h z (List.mem_cons_of_mem _ hz)) _ P (fun ys hl hr => by
      have := p (y :: ys) (by simp [hl]) (fun z hz => by
        rcases List.mem_cons.mp hz with rfl | hz
        · exact hy
        · exact hr z hz)
      simpa using this))
    exact ⟨ρ1, e, by simpa [dYes] using q⟩

/-! ### kinds -/
def pln (d : D) : Bool := d.tn.isSome
def isInt : D → Bool
  | .int _ => true
  | _ => false
def btw (a b : Int) : D → Bool
  | .int i => decide (a ≤ i) && decide (i ≤ b)
  | _ => false
abbrev lim : Int := 10 ^ 60
abbrev sg : D → Bool := btw (-lim) lim
def strsOf : List D → Option (List Str)
  | [] => some []
  | .str s :: r => (strsOf r).map fun l => s :: l
  | _ :: _ => none
theorem strsOf_map : ∀ {l : List D} {ls : List Str}, strsOf l = some ls → l = ls.map D.str
  | [], ls, h => by
    simp [strsOf] at h
    subst h
    rfl
  | x :: r, ls, h => by
    cases x <;> simp [strsOf] at h
    obtain ⟨l, h, rfl⟩ := h
    rw [strsOf_map h]
    rfl
def wordIn : D → List Str → Bool
  | .str s, ls => ls.any fun z => z == s
  | _, _ => false
def f_is_integer (x : D) : Option D := if pln x = true then some (.bl (isInt x)) else none
def f_is_between (x a b : D) : Option D := match a, b with
  | .int a, .int b => if pln x = true then some (.bl (btw a b x)) else none
  | _, _ => none
def f_is_signed (x : D) : Option D := if pln x = true then some (.bl (sg x)) else none
def f_is_word (x w : D) : Option D := match w with
  | .tup l => (strsOf l).bind fun ls => if pln x = true then some (.bl (wordIn x ls)) else none
  | _ => none
def nameSign (ch : Nat) : Bool := !decide ([ch] < [97]) && !decide ([122] < [ch])
def isName : D → Bool
  | .str s => decide (1 ≤ s.length) && decide (s.length ≤ 8) && s.cps.toList.all nameSign
  | _ => false
def short : D → Bool
  | .str s => decide (s.length ≤ 1000)
  | _ => true
def f_is_name (x : D) : Option D := if pln x = true ∧ short x = true then some (.bl (isName x)) else none
def tupLen (n : Nat) : D → Bool
  | .tup l => decide (l.length = n)
  | _ => false
def f_is_row (x n : D) : Option D := match n with
  | .int n => if pln x = true ∧ 0 ≤ n then some (.bl (tupLen n.toNat x)) else none
  | _ => none
def isSeq : D → Bool
  | .tup _ => true
  | .lst _ => true
  | _ => false
def f_is_sequence (x : D) : Option D := if pln x = true then some (.bl (isSeq x)) else none
def f_is_family (x : D) : Option D := if pln x = true then some (.bl (btw 0 3 x)) else none
def f_is_size (x : D) : Option D := if pln x = true then some (.bl (btw 0 2 x)) else none
def step0 : D → Bool
  | .int i => decide (0 ≤ i)
  | _ => false
def pathOk : D → Bool
  | .tup l => l.all step0
  | _ => false
mutual
/-- data all through: no classes, no instances; short texts, short lists -/
def deep : D → Bool
  | .non => true
  | .bl _ => true
  | .int _ => true
  | .str s => decide (s.length ≤ 1000)
  | .tup l => decide (l.length ≤ 1000) && deepL l
  | .lst l => decide (l.length ≤ 1000) && deepL l
  | _ => false
def deepL : List D → Bool
  | [] => true
  | x :: r => deep x && deepL r
end
theorem deepL_all : ∀ {l : List D}, deepL l = true → ∀ x ∈ l, deep x = true
  | x :: r, h, y, hy => by
    simp only [deepL, Bool.and_eq_true] at h
    rcases List.mem_cons.mp hy with rfl | hy
    · exact h.1
    · exact deepL_all h.2 y hy
theorem deep_plain {d : D} (h : deep d = true) : pln d = true := by cases d <;> simp [deep] at h <;> rfl
theorem deep_short {d : D} (h : deep d = true) : short d = true := by cases d <;> simp [deep] at h <;> simp [short, h]
def f_is_path (x : D) : Option D := if deep x = true then some (.bl (pathOk x)) else none
def glyphMark : D → Bool
  | .tup [k, p, f, s, n] => wordIn k ["glyph"] && pathOk p && btw 0 3 f && btw 0 2 s && isName n
  | _ => false
def ruleMark : D → Bool
  | .tup [k, p, w, h] => wordIn k ["rule"] && pathOk p && sg w && sg h
  | _ => false
def placedMark : D → Bool
  | .tup [x, y, m] => sg x && sg y && (glyphMark m || ruleMark m)
  | _ => false
def f_is_glyph_mark (x : D) : Option D := if deep x = true then some (.bl (glyphMark x)) else none
def f_is_rule_mark (x : D) : Option D := if deep x = true then some (.bl (ruleMark x)) else none
def f_is_mark (x : D) : Option D := if deep x = true then some (.bl (glyphMark x || ruleMark x)) else none
def f_is_placed_mark (x : D) : Option D := if deep x = true then some (.bl (placedMark x)) else none
end DL
set_option Elab.async false
set_option linter.all false
set_option maxRecDepth 100000
set_option maxHeartbeats 1000000
set_option autoImplicit false
/-! a op b op' c, asked for truth; a def's promise that implies another -/
namespace DL
open PySem PySem.Spec PyProof.Rows L2
section
variable {X : Cx} {c : Dx}
theorem pdt_chain {op op' : CmpOp} {r r' : R2} {f f' : F2} {a b e : Expr} {da db dc : DE} {pos} (ho : OpR X (compareOp op) r) (ho' : OpR X (compareOp op') r') (hf : Serves X c r f) (hf' : Serves X c r' f') (mf : Mono2 f) (mf' : Mono2 f') (ha : PD X c a da) (hb : PD X c b db) (hc : PD X c e dc)
    (hm : lastMarks [op, op'] [b, e] = false := by with_unfolding_all rfl) : PDT X c (.Compare a [op, op'] [b, e] pos) (dB (dChain f f' da db dc)) := by
  have mo : Mono (dChain f f' da db dc) := fun ρ P P' m => ha.mono ρ _ _ fun x => hb.mono ρ _ _ fun y => mf x y _ _ fun z ⟨k, e, p⟩ => ⟨k, e, by
    cases k with
    | false => exact m _ p
    | true => exact hc.mono _ _ _ (fun w => mf' _ _ _ _ m) p⟩
  refine ⟨impT (pt_chain ho ho' ha.pe hb.pe hc.pe hm) fun σ H Q q => ?_, fun ρ P P' m => mo ρ _ _ fun x ⟨i, e, p⟩ => ⟨i, e, m _ p⟩⟩
  obtain ⟨F, ρ, a, q⟩ := q
  refine ⟨F, ρ, a, ha.mono _ _ _ (fun d q v F1 H1 f1 d1 => ?_) q⟩
  refine ⟨F1, ρ, a.fr f1, hb.mono _ _ _ (fun d2 q v2 F2 H2 f2 d2' => ?_) q⟩
  refine hf F2 H2 v v2 d d2 _ _ f2.good (d1.mono f2.grow) d2' q fun z w F3 H3 p f3 dz => ?_
  obtain ⟨k, rfl, p⟩ := p
  cases dz
  refine ⟨k, rfl, ?_⟩
  cases k with
  | false =>
    obtain ⟨j, e, p⟩ := p
    cases e
    exact ⟨false, rfl, p F3 H3 (f1.trans (f2.trans f3))⟩
  | true =>
    refine ⟨F3, ρ, ((a.fr f1).fr f2).fr f3, hc.mono _ _ _ (fun d4 q u F4 H4 f4 d4' => ?_) p⟩
    refine hf' F4 H4 v2 u d2 d4 _ _ f4.good (d2'.mono (f3.trans f4).grow) d4' q fun d v F' H' p f5 dd => ?_
    obtain ⟨j, rfl, p⟩ := p
    cases dd
    exact ⟨j, rfl, p F' H' (f1.trans (f2.trans (f3.trans (f4.trans f5))))⟩
theorem pgd_tupK {K : PySem.W.Frag} {es : List Expr} {kk : Nat} {pos : Pos} {t : DGs} {ns : List Nat} {u : TGs} {n : Nat} (hK : X.K = K) (hc : X.calm = true) (h : PGds X c es t ns u) (ht : ∀ ds ρ ρ', t ds ρ = some ρ' → ds.length = n)
    (hn : (assignEach es X.env).length = n := by rfl) (hst : (assignEach es X.env).findIdx? (·.1) = none := by rfl) : PGd X c (.Tuple es kk pos) (setT t) ns (gTup K n u) := by
  subst hK
  exact pgd_tup hc h ht hn hst
end
theorem FnOk_imp {P : Program} {w : World} {K : PySem.W.Frag} {mg : Str → Option Value} {base : Heap} {CX : CXT} {k : Nat} {f : Addr} {fd : FuncData} {ps : List Str} {sp sp' : Sp} (F : FnOk P w K mg base CX k f fd ps sp) (h : ∀ vs H Q E, sp' vs H Q E → sp vs H Q E) : FnOk P w K mg base CX k f fd ps sp' :=
  ⟨fun vs H Q E s => F.len vs H Q E (h vs H Q E s), fun A outer s H args us vs Q E hr e0 hb r hs => F.run A outer s H args us vs Q E hr e0 hb r (h vs H Q E hs)⟩
end DL
set_option Elab.async false
set_option linter.all false
set_option maxRecDepth 100000
set_option maxHeartbeats 1000000
set_option autoImplicit false
/-! statements, the last of which is shown by hand -/
namespace DL
open PySem PySem.Spec PyProof.Rows L2
section
variable {X : Cx} {c : Dx}
/-- t: what the last one asks of the state; Last: what is known of the slots there -/
def upL (X : Cx) (c : Dx) (t : TS) (den : (List Sl → Prop) → DS) : TS := fun E σ H => ∃ F ρ De, ∃ Last : List Sl → Prop, At X.K c F H σ ρ ∧ Links X c F De E ∧ (∀ ρ' σ' F' H', Last ρ' → Same F F' → At X.K c F' H' σ' ρ' → t E σ' H') ∧ den Last De ρ
structure PSsL (X : Cx) (c : Dx) (st : List Stmt) (t : TS) (den : (List Sl → Prop) → DS) : Prop where
  ps : PSs X st (upL X c t den)
/-- t asks of rt alone -/
def OnRt (t : TS) : Prop := ∀ E E' σ H, E.rt = E'.rt → t E σ H → t E' σ H
theorem pssl_last {st : List Stmt} {t : TS} (h : PSs X st t) : PSsL X c st t (fun Last _ ρ => Last ρ) := ⟨impSs h fun E σ H q => by
  obtain ⟨F, ρ, De, Last, a, l, k, q⟩ := q
  exact k ρ σ F H q (Same.refl F) a⟩
theorem pssl_cons {st : Stmt} {rest : List Stmt} {t : TS} {a : DS} {b : (List Sl → Prop) → DS} (h1 : PSd X c st a) (h2 : PSsL X c rest t b) : PSsL X c (st :: rest) t (fun Last De ρ => a { De with nx := fun ρ' => b Last De ρ' } ρ) := ⟨impSs (pss_cons h1.ps h2.ps) fun E σ H q => by
  obtain ⟨F, ρ, De, Last, a, l, k, q⟩ := q
  exact ⟨F, ρ, { De with nx := fun ρ' => b Last De ρ' }, a, ⟨fun ρ' σ' F' H' h s a' => ⟨F', ρ', De, Last, a', l.grow s, fun ρ2 σ2 F2 H2 h2 s2 a2 => k ρ2 σ2 F2 H2 h2 (s.trans s2) a2, h⟩, l.rt, l.bk, l.ct⟩, q⟩⟩
theorem pssl_keep (i : Nat) {st : List Stmt} {t : TS} {b : (List Sl → Prop) → DS} (h : PSsL X c st t b) : PSsL X c st t (fun Last De ρ => ∃ ds, ρ[i]? = some (.ow ds) ∧ b Last De (ρ.set i (.fz (.lst ds)))) := ⟨impSs h.ps fun E σ H q => by
  obtain ⟨F, ρ, De, Last, a, l, k, q⟩ := q
  -- as keep_up, the end being kept
  have z := keep_up (X := X) (c := c) (d := fun De' ρ' => De'.nx ρ') i { nx := fun σ' H' => ∃ F' ρ', Same F F' ∧ At X.K c F' H' σ' ρ' ∧ b Last De ρ', rt := fun _ _ => False } σ H
    ⟨F, ρ, ⟨fun ρ' => b Last De ρ', fun _ => False, fun _ => False, fun _ => False⟩, a, ⟨fun ρ' σ' F' H' h s a' => ⟨F', ρ', s, a', h⟩, fun _ _ _ _ h => h.elim, fun _ _ _ _ h => h.elim, fun _ _ _ _ h => h.elim⟩, q⟩
  obtain ⟨F1, ρ1, De1, a1, l1, q1⟩ := z
  obtain ⟨F', ρ', s, a', h'⟩ := l1.nx ρ1 σ F1 H q1 (Same.refl F1) a1
  exact ⟨F', ρ', De, Last, a', l.grow s, fun ρ2 σ2 F2 H2 h2 s2 a2 => k ρ2 σ2 F2 H2 h2 (s.trans s2) a2, h'⟩⟩
end
end DL
set_option Elab.async false
set_option linter.all false
set_option maxRecDepth 100000
set_option maxHeartbeats 1000000
set_option autoImplicit false
/-! data that can be compared and shown -/
namespace DL
open PySem PySem.Spec PyProof.Rows L2
theorem log_of {i : Int} (h1 : -(10 ^ 50) ≤ i) (h2 : i ≤ 10 ^ 50) : i.natAbs.log2 < 190 := by
  by_cases h : i.natAbs = 0
  · rw [h]; decide
  · rw [Nat.log2_lt h]
    have : i.natAbs ≤ 10 ^ 50 := by omega
    exact Nat.lt_of_le_of_lt this (by decide)
mutual
/-- small ints, short texts -/
def D.fin : D → Bool
  | .non => true
  | .bl _ => true
  | .int i => decide (-(10 ^ 50) ≤ i) && decide (i ≤ 10 ^ 50)
  | .str x => decide (x.cps.size ≤ 10) && PyData.strOk x && PyData.strOk (reprText x)
  | .tup xs => D.finL xs
  | .lst xs => D.finL xs
  | _ => false
def D.finL : List D → Bool
  | [] => true
  | x :: xs => D.fin x && D.finL xs
end
mutual
def D.wt : D → Nat
  | .int _ => 190
  | .str _ => 10
  | .tup xs => D.wtL xs
  | .lst xs => D.wtL xs
  | _ => 0
def D.wtL : List D → Nat
  | [] => 0
  | x :: xs => D.wt x + 1 + D.wtL xs
end
mutual
def D.dep : D → Nat
  | .tup xs => D.depL xs + 1
  | .lst xs => D.depL xs + 1
  | _ => 0
def D.depL : List D → Nat
  | [] => 0
  | x :: xs => max (D.dep x) (D.depL xs)
end
structure PyF (p : PyData) (w d : Nat) : Prop where
  lay : p.canLay0 = true
  lvs : p.leavesShort 1921 = true
  shw : p.showable = true
  wt : p.weight ≤ w
  dep : p.depth ≤ d
  eqv : PyData.eqv p p = true
  txt : PyData.strOk p.shown = true
structure PyFL (p : List PyData) (w d : Nat) : Prop where
  lay : PyData.canLayAll0 p = true
  lvs : PyData.leavesShortAll 1921 p = true
  shw : PyData.showableAll p = true
  wt : PyData.weightAll p ≤ w
  dep : PyData.depthAll p ≤ d
  eqv : PyData.eqvAll p p = true
  txt : ∀ t ∈ PyData.shownAll p, PyData.strOk t = true
theorem ok_app {a b : Str} (h : PyData.strOk a = true) (k : PyData.strOk b = true) : PyData.strOk (a ++ b) = true := by
  show (a.cps ++ b.cps).all _ = true
  rw [Array.all_append]
  simp only [Bool.and_eq_true]
  exact ⟨h, k⟩
theorem ok_int (i : Int) : PyData.strOk (PyData.shown (.int i)) = true := by
  show Array.all _ _ = true
  rw [← Array.all_toList, List.all_eq_true]
  intro c hc
  rw [decide_eq_true_eq]
  refine Nat.lt_of_not_le fun z => ?_
  exact shown_int_free' (k := c) ⟨by omega, by omega⟩ i hc
theorem ok_from : ∀ (ts : List Str) (k : Nat) (acc : Str), PyData.strOk acc = true → (∀ t ∈ ts, PyData.strOk t = true) → PyData.strOk (textFrom k acc ts) = true
  | [], _, acc, h, _ => h
  | t :: r, k, acc, h, ht => by
    refine ok_from r (k + 1) _ (ok_app (ok_app h ?_) (ht t List.mem_cons_self)) fun u hu => ht u (List.mem_cons_of_mem _ hu)
    by_cases q : k > 0
    · rw [if_pos q]; decide +kernel
    · rw [if_neg q]; decide +kernel
theorem ok_list {ts : List Str} (h : ∀ t ∈ ts, PyData.strOk t = true) : PyData.strOk (listText ts) = true := ok_app (ok_from ts 0 _ (by decide +kernel) h) (by decide +kernel)
theorem ok_join : ∀ (ts : List Str), (∀ t ∈ ts, PyData.strOk t = true) → PyData.strOk (Str.join ", " ts) = true
  | [], _ => by decide +kernel
  | [x], h => h x List.mem_cons_self
  | x :: y :: r, h => ok_app (ok_app (h x List.mem_cons_self) (by decide +kernel)) (ok_join (y :: r) fun u hu => h u (List.mem_cons_of_mem _ hu))
theorem ok_tup {ts : List Str} (h : ∀ t ∈ ts, PyData.strOk t = true) : PyData.strOk (tupleText ts) = true := by
  refine ok_app (ok_app (by decide +kernel) (ok_join ts h)) ?_
  by_cases q : (ts.length == 1) = true
  · rw [if_pos q]; decide +kernel
  · rw [if_neg q]; decide +kernel
theorem sh_int {i : Int} (h : i.natAbs.log2 < 190) : (PyData.shown (.int i)).length ≤ 1921 := int_text_len_1921 (i := i) (by omega)
mutual
theorem D.fin_py : ∀ d : D, d.fin = true → ∃ p, d.py = some p ∧ PyF p d.wt d.dep
  | .non, _ => ⟨.none, rfl, ⟨rfl, rfl, rfl, Nat.le_refl _, Nat.le_refl _, rfl, by decide +kernel⟩⟩
  | .bl b, _ => ⟨.bool b, rfl, ⟨rfl, rfl, rfl, Nat.le_refl _, Nat.le_refl _, by simp [PyData.eqv], by cases b <;> decide +kernel⟩⟩
  | .int i, h => by
    simp only [D.fin, Bool.and_eq_true, decide_eq_true_eq] at h
    have l := log_of h.1 h.2
    refine ⟨.int i, rfl, ⟨rfl, by simp only [PyData.leavesShort, decide_eq_true_eq]; exact sh_int l, by simp only [PyData.showable, decide_eq_true_eq]; omega, ?_, Nat.le_refl _, by simp [PyData.eqv], ok_int i⟩⟩
    simp only [PyData.weight, D.wt]
    split <;> omega
  | .str x, h => by
    simp only [D.fin, Bool.and_eq_true, decide_eq_true_eq] at h
    refine ⟨.str x, rfl, ⟨by simpa [PyData.canLay0] using h.1.2, ?_, rfl, by simpa [PyData.weight, D.wt] using h.1.1, Nat.le_refl _, by simp [PyData.eqv], h.2⟩⟩
    exact PyData.leavesShort_of_canLay0 1921 (.str x) (by simpa [PyData.canLay0] using h.1.2) rfl
  | .tup xs, h => by
    obtain ⟨p, e, k⟩ := D.finL_py xs (by simpa [D.fin] using h)
    exact ⟨.tuple p, by simp [D.py, e], ⟨by simpa [PyData.canLay0] using k.lay, by simpa [PyData.leavesShort] using k.lvs, by simpa [PyData.showable] using k.shw, by simpa [PyData.weight, D.wt] using k.wt, by simpa [PyData.depth, D.dep] using k.dep, by simpa [PyData.eqv] using k.eqv, by simpa [PyData.shown] using ok_tup k.txt⟩⟩
  | .lst xs, h => by
    obtain ⟨p, e, k⟩ := D.finL_py xs (by simpa [D.fin] using h)
    exact ⟨.list p, by simp [D.py, e], ⟨by simpa [PyData.canLay0] using k.lay, by simpa [PyData.leavesShort] using k.lvs, by simpa [PyData.showable] using k.shw, by simpa [PyData.weight, D.wt] using k.wt, by simpa [PyData.depth, D.dep] using k.dep, by simpa [PyData.eqv] using k.eqv, by simpa [PyData.shown] using ok_list k.txt⟩⟩
  | .ty _, h => by simp [D.fin] at h
  | .adr _, h => by simp [D.fin] at h
  | .ins _ _, h => by simp [D.fin] at h
theorem D.finL_py : ∀ l : List D, D.finL l = true → ∃ p, D.pyL l = some p ∧ PyFL p (D.wtL l) (D.depL l)
  | [], _ => ⟨[], rfl, ⟨rfl, rfl, rfl, Nat.le_refl _, Nat.le_refl _, rfl, fun t h => by simp [PyData.shownAll] at h⟩⟩
  | x :: xs, h => by
    simp only [D.finL, Bool.and_eq_true] at h
    obtain ⟨p, e, k⟩ := D.fin_py x h.1
    obtain ⟨ps, es, ks⟩ := D.finL_py xs h.2
    refine ⟨p :: ps, by simp [D.pyL, e, es], ⟨by simp [PyData.canLayAll0, k.lay, ks.lay], by simp [PyData.leavesShortAll, k.lvs, ks.lvs], by simp [PyData.showableAll, k.shw, ks.shw], ?_, ?_, by simp [PyData.eqvAll, k.eqv, ks.eqv], fun t ht => ?_⟩⟩
    · have := k.wt
      have := ks.wt
      simp only [PyData.weightAll, D.wtL]
      omega
    · have := k.dep
      have := ks.dep
      simp only [PyData.depthAll, D.depL]
      omega
    · simp only [PyData.shownAll] at ht
      rcases List.mem_cons.mp ht with rfl | ht
      · exact k.txt
      · exact ks.txt t ht
end
/-- == of the same -/
theorem fEq_same {n : Bool} {d : D} {P : D → Prop} (h : d.fin = true) (hd : d.dep ≤ 64) (p : P (.bl (true != n))) : fEq n d d P := by
  obtain ⟨q, e, k⟩ := d.fin_py h
  refine ⟨q, q, e, e, ?_, ?_, by rw [k.eqv]; exact p⟩ <;>
  · simp only [SeqAt.shaped, Bool.and_eq_true, decide_eq_true_eq]
    exact ⟨k.lay, Nat.le_trans k.dep hd⟩
theorem fRepr_of {d : D} {P : D → Prop} (hk : ∃ l, d = .lst l ∨ d = .tup l) (h : d.fin = true) (hd : d.dep ≤ 50) (hw : d.wt ≤ 8000) (p : ∀ s : Str, (∃ q, d.py = some q ∧ s = q.shown) → P (.str s)) : fRepr [d] P := by
  obtain ⟨q, e, k⟩ := d.fin_py h
  refine ⟨d, q, rfl, hk, e, k.shw, PyData.hasDict_of_canLay q k.lay, Nat.le_trans k.dep hd, ?_, p _ ⟨q, e, rfl⟩⟩
  have z := PyData.shown_le 1921 (by decide) q k.lvs
  have : q.weight ≤ 8000 := Nat.le_trans k.wt hw
  have : (1921 + 2) * q.weight ≤ 1923 * 8000 := Nat.mul_le_mul (by decide) this
  have : sizeLine = 16777216 := by decide
  omega
/-- what repr tells of data -/
def shD (d : D) : D := match d.py with
  | some p => .str p.shown
  | none => .non
theorem fRepr_sh {d : D} {P : D → Prop} (hk : ∃ l, d = .lst l ∨ d = .tup l) (h : d.fin = true) (hd : d.dep ≤ 50) (hw : d.wt ≤ 8000) (p : P (shD d)) : fRepr [d] P :=
  fRepr_of hk h hd hw fun s ⟨q, e, es⟩ => by
    subst es
    have : shD d = .str q.shown := by unfold shD; rw [e]
    rw [this] at p
    exact p
theorem sh_py {d : D} (h : d.fin = true) : ∃ s : Str, shD d = .str s ∧ PyData.strOk s = true := by
  obtain ⟨q, e, k⟩ := d.fin_py h
  exact ⟨q.shown, by unfold shD; rw [e], k.txt⟩
theorem strs_py : ∀ (l : List D), (∀ x ∈ l, ∃ s : Str, x = .str s ∧ PyData.strOk s = true) → ∃ p, D.pyL l = some p ∧ PyData.canLayAll0 p = true ∧ PyData.depthAll p = 0 ∧ PyData.eqvAll p p = true
  | [], _ => ⟨[], rfl, rfl, rfl, rfl⟩
  | x :: r, h => by
    obtain ⟨s, rfl, hs⟩ := h x List.mem_cons_self
    obtain ⟨p, e, h1, h2, h3⟩ := strs_py r fun y hy => h y (List.mem_cons_of_mem _ hy)
    exact ⟨.str s :: p, by simp [D.pyL, D.py, e], by simp [PyData.canLayAll0, PyData.canLay0, hs, h1], by simp [PyData.depthAll, PyData.depth, h2], by simp [PyData.eqvAll, PyData.eqv, h3]⟩
theorem fEq_strs {n : Bool} {l : List D} {P : D → Prop} (h : ∀ x ∈ l, ∃ s : Str, x = .str s ∧ PyData.strOk s = true) (p : P (.bl (true != n))) : fEq n (.lst l) (.lst l) P := by
  obtain ⟨q, e, h1, h2, h3⟩ := strs_py l h
  refine ⟨.list q, .list q, by simp [D.py, e], by simp [D.py, e], ?_, ?_, by rw [show PyData.eqv (.list q) (.list q) = true by simpa [PyData.eqv] using h3]; exact p⟩ <;>
  · simp only [SeqAt.shaped, Bool.and_eq_true, decide_eq_true_eq]
    exact ⟨by simpa [PyData.canLay0] using h1, by simp [PyData.depth, h2]⟩
theorem finL_all {l : List D} : D.finL l = true ↔ ∀ x ∈ l, x.fin = true := by
  induction l with
  | nil => simp [D.finL]
  | cons x r ih => simp [D.finL, ih]
theorem wtL_le {l : List D} {n : Nat} (h : ∀ x ∈ l, x.wt ≤ n) : D.wtL l ≤ l.length * (n + 1) := by
  induction l with
  | nil => simp [D.wtL]
  | cons x r ih =>
    have h1 := h x List.mem_cons_self
    have h2 := ih fun y hy => h y (List.mem_cons_of_mem _ hy)
    simp only [D.wtL, List.length_cons, Nat.add_mul]
    omega
theorem depL_le {l : List D} {n : Nat} (h : ∀ x ∈ l, x.dep ≤ n) : D.depL l ≤ n := by
  induction l with
  | nil => simp [D.depL]
  | cons x r ih =>
    have h1 := h x List.mem_cons_self
    have h2 := ih fun y hy => h y (List.mem_cons_of_mem _ hy)
    simp only [D.depL]
    omega
end DL
set_option Elab.async false
set_option linter.all false
set_option maxRecDepth 100000
set_option maxHeartbeats 1000000
set_option autoImplicit false
/-! f(k = v, ..); a def that shows data, any promise -/
namespace DL
open PySem PySem.Spec PyProof.Rows L2
section
variable {X : Cx} {c : Dx} {CX : CXT} {k : Nat} {f : Addr} {fd : FuncData} {ps ks : List Str} {sp : Sp} {E : XK} {x : Str} {p pos : Pos} {kws : List Keyword} {tk : TA} {g : List Value → List Value → List Value} {gV : List V → List V → List V}
theorem pe_callK0 (F : FnOk X.prog X.w X.K X.mg X.base CX k f fd ps sp) (hr : Room k X.A) (hg : Gl X x) (hm : X.mg x = some (.ref f)) (hk : PySem.W.keepIn X.K (.ref f) = true) (hb : KBinds X.K fd ps ks g gV) (hx : Passes CX X E)
    (hkw : PK X kws tk) (hall : (backToKw pos (keywordEach kws X.env)).all (·.1.isSome) = true := by rfl) (hks : (backToKw pos (keywordEach kws X.env)).filterMap (·.1) = ks := by rfl)
    (hdb : (x == ("__debug__" : Str)) = false := by decide)
    (hpl : ((backTo pos (starEach [] X.env)).any (·.1) || (backToKw pos (keywordEach kws X.env)).any (·.1.isNone)) = false := by rfl) :
    PE X (.Call (.Name x p) [] kws pos) (tCallK sp gV E tNil tk) := by
  refine ⟨fun pins s σ H Q I h => ?_⟩
  refine wpAny_Call_Name_kw (ld_glob I hg hm ?_ hdb)
  refine PySem.W.callWith_KW0 (h₀ := X.base) I.ok.mod.kin hk hall ?_ hpl
  refine thn (hkw.run pos pins s σ H _ I h) fun ws s2 ⟨zs, H2, I2, rz, q2⟩ => ⟨I2.kIn, ?_⟩
  rw [hks]
  exact run_fnk (us := []) (vs := []) F hr hb hx I2 .nil rz q2
/-- all by their names, in the order of the parameters -/
theorem pd_callK0 {g : GX} {da : DA} (F : FnOk X.prog X.w X.K X.mg X.base CX k f fd ps (spX X.K g)) (m : MonoX g) (hr : Room k X.A) (hg : Gl X x) (hm : X.mg x = some (.ref f)) (hk : PySem.W.keepIn X.K (.ref f) = true) (hb : KBinds X.K fd ps ks (fun us ws => us ++ ws) (fun vs zs => vs ++ zs)) (hx : Passes CX X E) (eo : EOk X c E)
    (hkw : PDK X c kws da) (hall : (backToKw pos (keywordEach kws X.env)).all (·.1.isSome) = true := by rfl) (hks : (backToKw pos (keywordEach kws X.env)).filterMap (·.1) = ks := by rfl)
    (hdb : (x == ("__debug__" : Str)) = false := by decide)
    (hpl : ((backTo pos (starEach [] X.env)).any (·.1) || (backToKw pos (keywordEach kws X.env)).any (·.1.isNone)) = false := by rfl) :
    PD X c (.Call (.Name x p) [] kws pos) (dFn g c [] da) := by
  refine ⟨imp (pe_callK0 F hr hg hm hk hb hx hkw.pk hall hks hdb hpl) fun σ H Q q => ?_, mono_dFn m hkw.mono⟩
  obtain ⟨F1, ρ, a, q⟩ := q
  refine ⟨F1, ρ, a, hkw.mono _ _ _ (fun ds q vs F2 H2 f2 d2 => ?_) q⟩
  rw [List.append_nil] at q
  exact sp_up m eo (a.fr f2) d2 q fun d v F' H' p f3 dd => p v F' H' (f2.trans f3) dd
/-- a view of less, behind what was done with a view of more -/
theorem fr_back {W : Option Addr} {F F3 F4 H H4 : Hp} (f : Fr W F3 H F4 H4) (s : Same F F3) : Fr W F H F H4 where
  sub := fun a o e => f.sub _ _ (f.grow _ _ (s _ _ e))
  grow := Same.refl F
  keep := f.keep
  new := fun a o e => .inl e
  well := fun a hw => by
    obtain ⟨n, k⟩ := f.well a hw
    refine ⟨?_, k⟩
    cases q : F a with
    | none => rfl
    | some o =>
      rw [f.grow _ _ (s _ _ q)] at n
      cases n
theorem slots_any {K : PySem.W.Frag} {W : Option Addr} {H0 F H H' : Hp} {σ : L2.St} {ρ : List Sl} (s : Slots K W H0 F H σ ρ) (n : ∀ (i : Nat) ds, ρ[i]? ≠ some (Sl.ow ds)) : Slots K W H0 F H' σ ρ := by
  refine ⟨?_, s.apart⟩
  have key : ∀ {σ : L2.St} {ρ : List Sl}, Paired (SlAt K W H0 F H) σ ρ → (∀ (i : Nat) ds, ρ[i]? ≠ some (Sl.ow ds)) → Paired (SlAt K W H0 F H') σ ρ := by
    intro σ ρ p
    induction p with
    | nil => intro _; exact .nil
    | cons r _ ih =>
      intro n
      refine .cons ?_ (ih fun i ds => by simpa using n (i + 1) ds)
      cases r with
      | un => exact .un _
      | fz h => exact .fz h
      | ow _ _ _ _ _ => exact absurd rfl (n 0 _)
  exact key s.at_ n
end
section
variable {P : Program} {w : World} {K : PySem.W.Frag} {mg : Str → Option Value} {base : Heap}
theorem okGs {x qual : Str} {st : Stmt} {f : Addr} {fd : FuncData} {N ps : List Str} {k : Nat} {sp : Sp} (F : Fun K x qual st f fd) (S : FnScope N ps (defScope st)) (hlen : ∀ vs H Q E, sp vs H Q E → vs.length = ps.length)
    (hbody : ∀ (cdv : Value) (A : Around) (outer : List Env) (s : Shared) (H : Hp) (vs : List V) (Q : VK) (E : XK), A.guards = some [] → Room k (A.deeper (envOfC qual (defScope st) s.heap.objs.size f cdv)) → sp vs H Q E →
      ∃ t, PSs ((cxOf CX0 P w K mg base N qual (defScope st) f cdv A outer s H E).nox) (defBody st) t ∧ t { nx := fun _ H' => Q .non H', rt := Q } (start N vs) H) : FnG P w K mg base (k + 1) f fd ps sp := by
  refine ⟨hlen, fun A outer s H args us vs Q E hg hr e0 hb r hsp => ?_⟩
  obtain ⟨oc, od, kV, doc, pm, an, cdv, ct, osl, rfl, lk, hcd⟩ := F.ex
  have inK : K.In s.heap := e0.mod.kin.keeps fun b o e => (e0.bs b o e).1
  have kinds : ∀ y ∈ ps.zip us, (defScope st).names.lookup y.1 = some .local ∨ ((defScope st).names.lookup y.1 = some .cell ∧ ((cellsFrom (s.heap.objs.size + 1) (defScope st).names []).lookup y.1).isSome = true) := by
    intro y hy
    obtain ⟨y1, y2⟩ := y
    exact (S.par y1 (List.of_mem_zip hy).1).imp id fun q => ⟨q, PySem.W.cellsFrom_some _ _ _ (.inl q)⟩
  apply codeAny_call_function hr.depth (inK _ _ lk) rfl S.co S.gen rfl (PySem.W.codeRec_of inK hcd) (hb _ _ _ _ _)
  apply wpAny_newFunctionEnv_cells S.kind kinds
  intro env he s1 x
  subst he
  refine ⟨(e0.mod.nolimit.keeps fun b o e => (e0.bs b o e).1).keeps x.toInCall.keep, codeAny_func ?_⟩
  have hvs := hlen _ _ _ _ hsp
  obtain ⟨t, hd, hq⟩ := hbody cdv A outer s H vs Q E hg (hr.deeper _) hsp
  have I := inv_start (CX := CX0) (mg := mg) (E := E) S hr.hd e0 hvs r x
  have run := hd.nox.run [] s1 (L2.start N vs) H { nx := fun _ H' => Q .non H', rt := Q } I hq
  refine wpAny_mono run (fun fl s' hs => ?_) fun e s' hs => hs
  cases fl with
  | ret u =>
    obtain ⟨v, σ', H', J, rv, q⟩ := hs
    exact ⟨v, H', J.os, J.bare, J.base, J.hok, rv, q⟩
  | next =>
    obtain ⟨σ', H', J, q⟩ := hs
    exact ⟨.non, H', J.os, J.bare, J.base, J.hok, rfl, q⟩
  | brk =>
    obtain ⟨_, _, _, q⟩ := hs
    exact q.elim
  | cont =>
    obtain ⟨_, _, _, q⟩ := hs
    exact q.elim
end
end DL
set_option Elab.async false
set_option linter.all false
set_option maxRecDepth 100000
set_option maxHeartbeats 1000000
set_option autoImplicit false
/-! three names at once; a derivation that looks at the arguments; keywords in any order -/
namespace DL
open PySem PySem.Spec PyProof.Rows L2
section
variable {X : Cx} {c : Dx}
theorem datL3 {K : PySem.W.Frag} {F : Hp} {xs : List V} {d e g : D} (h : DatL K F xs [d, e, g]) : ∃ v u t, xs = [v, u, t] ∧ Dat K F v d ∧ Dat K F u e ∧ Dat K F t g := by
  cases h with
  | cons h1 h =>
    obtain ⟨u, t, rfl, h2, h3⟩ := datL2 h
    exact ⟨_, u, t, rfl, h1, h2, h3⟩
@[simp] def dPar3 (i j l : Nat) (da : DA) : DS := fun De ρ => da ρ fun ds => ∃ d e g, ds = [d, e, g] ∧ De.nx (((ρ.set i (.fz d)).set j (.fz e)).set l (.fz g))
theorem psd_par3 {i j l : Nat} {x y z : Str} {a b e : Expr} {da : DA} {px py pz pt pos : Pos} {kt k2 pt2} (hc : X.calm = true) (hN : X.N.Nodup) (hi : X.N[i]? = some x) (hj : X.N[j]? = some y) (hl : X.N[l]? = some z) (hij : i ≠ j) (hil : i ≠ l) (hjl : j ≠ l)
    (hx : X.env.scope.names.lookup x = some .local) (hy : X.env.scope.names.lookup y = some .local) (hz : X.env.scope.names.lookup z = some .local) (ha : PDA X c [a, b, e] da)
    (hw : swappedStores [.Tuple [.Name x px, .Name y py, .Name z pz] kt pt] (.Tuple [a, b, e] k2 pt2) X.env = pure (some [x, y, z]))
    (hs : swapsWithSole [.Tuple [.Name x px, .Name y py, .Name z pz] kt pt] (.Tuple [a, b, e] k2 pt2) pos.line X.env = pure false := by rfl) :
    PSd X c (.Assign [.Tuple [.Name x px, .Name y py, .Name z pz] kt pt] (.Tuple [a, b, e] k2 pt2) pos) (dPar3 i j l da) := ⟨impS (ps_par3 hc hN hi hj hl hij hil hjl hx hy hz ha.pa hw hs) fun D σ H q => by
  obtain ⟨F, ρ, De, a, lk, q⟩ := q
  refine ⟨F, ρ, a, ha.mono _ _ _ (fun ds q vs F1 H1 f dd => ?_) q⟩
  obtain ⟨d, e, g, rfl, q⟩ := q
  obtain ⟨v, u, t, rfl, h1, h2, h3⟩ := datL3 dd
  exact ⟨v, u, t, rfl, lk.nx _ _ F1 H1 q f.grow ⟨a.en.trans f, (((a.fr f).sl.set i h1).set j h2).set l h3⟩⟩⟩
end
section
variable {P : Program} {w : World} {K : PySem.W.Frag} {mg : Str → Option Value} {base : Heap}
theorem okE {x qual : Str} {st : Stmt} {f : Addr} {fd : FuncData} {N ps : List Str} {k : Nat} {g : G0} (F : Fun K x qual st f fd) (S : FnScope N ps (defScope st)) (len : ∀ W ds P, g W ds P → ds.length = ps.length)
    (hbody : ∀ (cdv : Value) (A : Around) (outer : List Env) (s : Shared) (H : Hp) (E : XK) (W : Option Addr) (F0 : Hp) (ds : List D) (Pd : D → Prop), Room k (A.deeper (envOfC qual (defScope st) s.heap.objs.size f cdv)) → g W ds Pd →
      ∃ den, PSsd ((cxOf CX0 P w K mg base N qual (defScope st) f cdv A outer s H E).nox) ⟨W, F0, H, fun _ _ => False⟩ (defBody st) den ∧
        den ⟨fun _ => Pd .non, Pd, fun _ => False, fun _ => False⟩ (ds.map Sl.fz ++ List.replicate (N.length - ds.length) Sl.un)) : FnOk P w K mg base CX0 (k + 1) f fd ps (spX K (lift0 g)) := by
  refine F.ok S (fun vs H Q E h => ?_) (fun cdv A outer s H vs Q E hr h => ?_)
  · obtain ⟨W, F0, ds, _, d, q⟩ := h
    rw [d.length]
    exact len _ _ _ q
  · obtain ⟨W, F0, ds, G, d, q⟩ := h
    obtain ⟨den, hd, hg⟩ := hbody cdv A outer s H E W F0 ds _ hr q
    exact ⟨_, hd.ps, body_in rfl G d (fun _ p => p) hg⟩
end
section
variable {X : Cx} {c : Dx} {CX : CXT} {k : Nat} {f : Addr} {fd : FuncData} {ps ks : List Str} {E : XK} {x : Str} {p pos : Pos} {kws : List Keyword} {g : List Value → List Value → List Value} {gV : List V → List V → List V} {gD : List D → List D}
@[simp] def dFnP (g : GX) (c : Dx) (gD : List D → List D) (da : DA) : DE := fun ρ P => da ρ fun ds => g c.W (gD ds) P c.XP
theorem pd_callKp {gx : GX} {da : DA} (F : FnOk X.prog X.w X.K X.mg X.base CX k f fd ps (spX X.K gx)) (m : MonoX gx) (hr : Room k X.A) (hg : Gl X x) (hm : X.mg x = some (.ref f)) (hk : PySem.W.keepIn X.K (.ref f) = true) (hb : KBinds X.K fd ps ks g gV) (hG : ∀ F vs ds, DatL X.K F vs ds → DatL X.K F (gV [] vs) (gD ds)) (hx : Passes CX X E) (eo : EOk X c E)
    (hkw : PDK X c kws da) (hall : (backToKw pos (keywordEach kws X.env)).all (·.1.isSome) = true := by rfl) (hks : (backToKw pos (keywordEach kws X.env)).filterMap (·.1) = ks := by rfl)
    (hdb : (x == ("__debug__" : Str)) = false := by decide)
    (hpl : ((backTo pos (starEach [] X.env)).any (·.1) || (backToKw pos (keywordEach kws X.env)).any (·.1.isNone)) = false := by rfl) :
    PD X c (.Call (.Name x p) [] kws pos) (dFnP gx c gD da) := by
  refine ⟨imp (pe_callK0 F hr hg hm hk hb hx hkw.pk hall hks hdb hpl) fun σ H Q q => ?_, fun ρ P P' q => hkw.mono ρ _ _ fun ds => m.ok _ _ _ _ _ q⟩
  obtain ⟨F1, ρ, a, q⟩ := q
  refine ⟨F1, ρ, a, hkw.mono _ _ _ (fun ds q vs F2 H2 f2 d2 => ?_) q⟩
  exact sp_up m eo (a.fr f2) (hG F2 vs ds d2) q fun d v F' H' p f3 dd => p v F' H' (f2.trans f3) dd
end
end DL
set_option Elab.async false
set_option linter.all false
set_option maxRecDepth 100000
set_option maxHeartbeats 4000000
set_option autoImplicit false
namespace K8
open PySem L2 DL
def top (i : Nat) : Stmt := PySem.Challenge.pw_mathboxes_k08_whole_boxes_moved_and_toge.main.body.getD i (.Pass ⟨0, 0, 0, 0⟩)
theorem hu64 {k : Nat} {A : Around} (h : Room k A) : A.units + 64 < cLine := h.units
abbrev s_is_integer : Stmt := top 9
abbrev sc_is_integerN : List Str := ["value"]
theorem sc_is_integer : FnScope sc_is_integerN ["value"] (defScope s_is_integer) := ⟨rfl, rfl, rfl, by decide +kernel, rfl, by decide +kernel, by decide +kernel⟩
abbrev s_is_between : Stmt := top 10
abbrev sc_is_betweenN : List Str := ["value", "least", "greatest"]
theorem sc_is_between : FnScope sc_is_betweenN ["value", "least", "greatest"] (defScope s_is_between) := ⟨rfl, rfl, rfl, by decide +kernel, rfl, by decide +kernel, by decide +kernel⟩
abbrev s_is_signed : Stmt := top 11
abbrev sc_is_signedN : List Str := ["value"]
theorem sc_is_signed : FnScope sc_is_signedN ["value"] (defScope s_is_signed) := ⟨rfl, rfl, rfl, by decide +kernel, rfl, by decide +kernel, by decide +kernel⟩
abbrev s_is_word : Stmt := top 12
abbrev sc_is_wordN : List Str := ["value", "words"]
theorem sc_is_word : FnScope sc_is_wordN ["value", "words"] (defScope s_is_word) := ⟨rfl, rfl, rfl, by decide +kernel, rfl, by decide +kernel, by decide +kernel⟩
abbrev s_is_name : Stmt := top 13
abbrev sc_is_nameN : List Str := ["value", "sign"]
theorem sc_is_name : FnScope sc_is_nameN ["value"] (defScope s_is_name) := ⟨rfl, rfl, rfl, by decide +kernel, rfl, by decide +kernel, by decide +kernel⟩
abbrev s_is_row : Stmt := top 14
abbrev sc_is_rowN : List Str := ["value", "many"]
theorem sc_is_row : FnScope sc_is_rowN ["value", "many"] (defScope s_is_row) := ⟨rfl, rfl, rfl, by decide +kernel, rfl, by decide +kernel, by decide +kernel⟩
abbrev s_is_sequence : Stmt := top 15
abbrev sc_is_sequenceN : List Str := ["value"]
theorem sc_is_sequence : FnScope sc_is_sequenceN ["value"] (defScope s_is_sequence) := ⟨rfl, rfl, rfl, by decide +kernel, rfl, by decide +kernel, by decide +kernel⟩
abbrev s_is_family : Stmt := top 16
abbrev sc_is_familyN : List Str := ["value"]
theorem sc_is_family : FnScope sc_is_familyN ["value"] (defScope s_is_family) := ⟨rfl, rfl, rfl, by decide +kernel, rfl, by decide +kernel, by decide +kernel⟩
abbrev s_is_size : Stmt := top 17
abbrev sc_is_sizeN : List Str := ["value"]
theorem sc_is_size : FnScope sc_is_sizeN ["value"] (defScope s_is_size) := ⟨rfl, rfl, rfl, by decide +kernel, rfl, by decide +kernel, by decide +kernel⟩
abbrev s_is_path : Stmt := top 18
abbrev sc_is_pathN : List Str := ["value", "step"]
theorem sc_is_path : FnScope sc_is_pathN ["value"] (defScope s_is_path) := ⟨rfl, rfl, rfl, by decide +kernel, rfl, by decide +kernel, by decide +kernel⟩
abbrev s_Box___init__ : Stmt := inClass (top 20) 0
abbrev sc_Box___init__N : List Str := ["self", "width", "height", "depth", "marks"]
theorem sc_Box___init__ : FnScope sc_Box___init__N ["self", "width", "height", "depth", "marks"] (defScope s_Box___init__) := ⟨rfl, rfl, rfl, by decide +kernel, rfl, by decide +kernel, by decide +kernel⟩
abbrev s_Box___eq__ : Stmt := inClass (top 20) 1
abbrev sc_Box___eq__N : List Str := ["self", "other"]
theorem sc_Box___eq__ : FnScope sc_Box___eq__N ["self", "other"] (defScope s_Box___eq__) := ⟨rfl, rfl, rfl, by decide +kernel, rfl, by decide +kernel, by decide +kernel⟩
abbrev s_check_box : Stmt := top 21
abbrev sc_check_boxN : List Str := ["box", "placed"]
theorem sc_check_box : FnScope sc_check_boxN ["box"] (defScope s_check_box) := ⟨rfl, rfl, rfl, by decide +kernel, rfl, by decide +kernel, by decide +kernel⟩
abbrev s_is_placed_mark : Stmt := top 22
abbrev sc_is_placed_markN : List Str := ["value"]
theorem sc_is_placed_mark : FnScope sc_is_placed_markN ["value"] (defScope s_is_placed_mark) := ⟨rfl, rfl, rfl, by decide +kernel, rfl, by decide +kernel, by decide +kernel⟩
abbrev s_is_mark : Stmt := top 23
abbrev sc_is_markN : List Str := ["value"]
theorem sc_is_mark : FnScope sc_is_markN ["value"] (defScope s_is_mark) := ⟨rfl, rfl, rfl, by decide +kernel, rfl, by decide +kernel, by decide +kernel⟩
abbrev s_is_glyph_mark : Stmt := top 24
abbrev sc_is_glyph_markN : List Str := ["value"]
theorem sc_is_glyph_mark : FnScope sc_is_glyph_markN ["value"] (defScope s_is_glyph_mark) := ⟨rfl, rfl, rfl, by decide +kernel, rfl, by decide +kernel, by decide +kernel⟩
abbrev s_is_rule_mark : Stmt := top 25
abbrev sc_is_rule_markN : List Str := ["value"]
theorem sc_is_rule_mark : FnScope sc_is_rule_markN ["value"] (defScope s_is_rule_mark) := ⟨rfl, rfl, rfl, by decide +kernel, rfl, by decide +kernel, by decide +kernel⟩
abbrev s_check_signed : Stmt := top 26
abbrev sc_check_signedN : List Str := ["value", "part"]
theorem sc_check_signed : FnScope sc_check_signedN ["value", "part"] (defScope s_check_signed) := ⟨rfl, rfl, rfl, by decide +kernel, rfl, by decide +kernel, by decide +kernel⟩
abbrev s_marks_moved : Stmt := top 27
abbrev sc_marks_movedN : List Str := ["box", "dx", "dy", "x", "y", "mark"]
theorem sc_marks_moved : FnScope sc_marks_movedN ["box", "dx", "dy"] (defScope s_marks_moved) := ⟨rfl, rfl, rfl, by decide +kernel, rfl, by decide +kernel, by decide +kernel⟩
abbrev s_moved : Stmt := top 28
abbrev sc_movedN : List Str := ["box", "dx", "dy"]
theorem sc_moved : FnScope sc_movedN ["box", "dx", "dy"] (defScope s_moved) := ⟨rfl, rfl, rfl, by decide +kernel, rfl, by decide +kernel, by decide +kernel⟩
abbrev s_together : Stmt := top 29
abbrev sc_togetherN : List Str := ["width", "height", "depth", "placed", "marks", "box", "dx", "dy"]
theorem sc_together : FnScope sc_togetherN ["width", "height", "depth", "placed"] (defScope s_together) := ⟨rfl, rfl, rfl, by decide +kernel, rfl, by decide +kernel, by decide +kernel⟩
abbrev s_check_placed : Stmt := top 30
abbrev sc_check_placedN : List Str := ["placed", "box", "dx", "dy", "entry"]
theorem sc_check_placed : FnScope sc_check_placedN ["placed"] (defScope s_check_placed) := ⟨rfl, rfl, rfl, by decide +kernel, rfl, by decide +kernel, by decide +kernel⟩
abbrev s_widened : Stmt := top 31
abbrev sc_widenedN : List Str := ["box", "width"]
theorem sc_widened : FnScope sc_widenedN ["box", "width"] (defScope s_widened) := ⟨rfl, rfl, rfl, by decide +kernel, rfl, by decide +kernel, by decide +kernel⟩
abbrev s__law_mix : Stmt := top 33
abbrev sc__law_mixN : List Str := ["cell", "lap", "blend"]
theorem sc__law_mix : FnScope sc__law_mixN ["cell", "lap"] (defScope s__law_mix) := ⟨rfl, rfl, rfl, by decide +kernel, rfl, by decide +kernel, by decide +kernel⟩
abbrev s__law_source : Stmt := top 34
abbrev sc__law_sourceN : List Str := ["script", "k", "cell"]
theorem sc__law_source : FnScope sc__law_sourceN ["script", "k"] (defScope s__law_source) := ⟨rfl, rfl, rfl, by decide +kernel, rfl, by decide +kernel, by decide +kernel⟩
abbrev s__law_draw : Stmt := top 35
abbrev sc__law_drawN : List Str := ["well", "many", "drawn"]
theorem sc__law_draw : FnScope sc__law_drawN ["well", "many"] (defScope s__law_draw) := ⟨rfl, rfl, rfl, by decide +kernel, rfl, by decide +kernel, by decide +kernel⟩
abbrev s__law_pick : Stmt := top 36
abbrev sc__law_pickN : List Str := ["well", "some"]
theorem sc__law_pick : FnScope sc__law_pickN ["well", "some"] (defScope s__law_pick) := ⟨rfl, rfl, rfl, by decide +kernel, rfl, by decide +kernel, by decide +kernel⟩
abbrev s__law_number : Stmt := top 37
abbrev sc__law_numberN : List Str := ["well"]
theorem sc__law_number : FnScope sc__law_numberN ["well"] (defScope s__law_number) := ⟨rfl, rfl, rfl, by decide +kernel, rfl, by decide +kernel, by decide +kernel⟩
abbrev s__law_mark : Stmt := top 38
abbrev sc__law_markN : List Str := ["well", "spots", "turn"]
theorem sc__law_mark : FnScope sc__law_markN ["well"] (defScope s__law_mark) := ⟨rfl, rfl, rfl, by decide +kernel, rfl, by decide +kernel, by decide +kernel⟩
abbrev s__law_marks : Stmt := top 39
abbrev sc__law_marksN : List Str := ["well", "turn"]
theorem sc__law_marks : FnScope sc__law_marksN ["well"] (defScope s__law_marks) := ⟨rfl, rfl, rfl, by decide +kernel, rfl, by decide +kernel, by decide +kernel⟩
abbrev s__law_box : Stmt := top 40
abbrev sc__law_boxN : List Str := ["well"]
theorem sc__law_box : FnScope sc__law_boxN ["well"] (defScope s__law_box) := ⟨rfl, rfl, rfl, by decide +kernel, rfl, by decide +kernel, by decide +kernel⟩
abbrev s__law_all : Stmt := top 41
abbrev sc__law_allN : List Str := ["one"]
theorem sc__law_all : FnScope sc__law_allN ["one"] (defScope s__law_all) := ⟨rfl, rfl, rfl, by decide +kernel, rfl, by decide +kernel, by decide +kernel⟩
abbrev s__law_shifted : Stmt := top 42
abbrev sc__law_shiftedN : List Str := ["marks", "across", "up", "x", "y", "mark"]
theorem sc__law_shifted : FnScope sc__law_shiftedN ["marks", "across", "up"] (defScope s__law_shifted) := ⟨rfl, rfl, rfl, by decide +kernel, rfl, by decide +kernel, by decide +kernel⟩
abbrev s__law_moved_right : Stmt := top 43
abbrev sc__law_moved_rightN : List Str := ["well", "one", "across", "up", "kept", "told", "marks", "more", "higher"]
theorem sc__law_moved_right : FnScope sc__law_moved_rightN ["well"] (defScope s__law_moved_right) := ⟨rfl, rfl, rfl, by decide +kernel, rfl, by decide +kernel, by decide +kernel⟩
abbrev s__law_together_right : Stmt := top 44
abbrev sc__law_together_rightN : List Str := ["well", "some", "marks", "one", "across", "up", "sizes", "told", "k"]
theorem sc__law_together_right : FnScope sc__law_together_rightN ["well"] (defScope s__law_together_right) := ⟨rfl, rfl, rfl, by decide +kernel, rfl, by decide +kernel, by decide +kernel⟩
abbrev s__law_widened_right : Stmt := top 45
abbrev sc__law_widened_rightN : List Str := ["well", "one", "wide", "told", "more", "across"]
theorem sc__law_widened_right : FnScope sc__law_widened_rightN ["well"] (defScope s__law_widened_right) := ⟨rfl, rfl, rfl, by decide +kernel, rfl, by decide +kernel, by decide +kernel⟩
abbrev s__law_right : Stmt := top 46
abbrev sc__law_rightN : List Str := ["well", "turn"]
theorem sc__law_right : FnScope sc__law_rightN ["well"] (defScope s__law_right) := ⟨rfl, rfl, rfl, by decide +kernel, rfl, by decide +kernel, by decide +kernel⟩
abbrev s_law : Stmt := top 47
abbrev sc_lawN : List Str := ["script", "k"]
theorem sc_law : FnScope sc_lawN ["script"] (defScope s_law) := ⟨rfl, rfl, rfl, by decide +kernel, rfl, by decide +kernel, by decide +kernel⟩
structure Txt (K : PySem.W.Frag) (mg : Str → Option Value) where
  z_isinstance : mg "isinstance" = none
  z_int : mg "int" = none
  z_bool : mg "bool" = none
  z_str : mg "str" = none
  z_tuple : mg "tuple" = none
  z_list : mg "list" = none
  z_len : mg "len" = none
  z_max : mg "max" = none
  z_min : mg "min" = none
  z_all : mg "all" = none
  z_repr : mg "repr" = none
  z_range : mg "range" = none
  t_LIMIT : Tok
  m_LIMIT : mg "LIMIT" = some (.int (10 ^ 60) t_LIMIT)
  t_MOST_FAMILIES : Tok
  m_MOST_FAMILIES : mg "MOST_FAMILIES" = some (.int (4) t_MOST_FAMILIES)
  t_SIZES : Tok
  m_SIZES : mg "SIZES" = some (.int (3) t_SIZES)
  t_MOST_LETTERS : Tok
  m_MOST_LETTERS : mg "MOST_LETTERS" = some (.int (8) t_MOST_LETTERS)
  C : Addr
  m_Box : mg "Box" = some (.ref C)
  cl_Box : Cls K C
  is_Box : C8.InsC K C
  n_Box_width : NoAttr K C "width"
  n_Box_height : NoAttr K C "height"
  n_Box_depth : NoAttr K C "depth"
  n_Box_marks : NoAttr K C "marks"
  dv0 : List V
  a_Box___init__ : Addr
  fd_Box___init__ : FuncData
  F_Box___init__ : FunD K "__init__" "Box.__init__" (defArgs s_Box___init__) (defBody s_Box___init__) (defScope s_Box___init__) dv0 [] a_Box___init__ fd_Box___init__
  mk_Box : Mk K C a_Box___init__
  b_Box___init__ : Binds K fd_Box___init__ ["self", "width", "height", "depth", "marks"] []
  a_Box___eq__ : Addr
  fd_Box___eq__ : FuncData
  F_Box___eq__ : Fun K "__eq__" "Box.__eq__" s_Box___eq__ a_Box___eq__ fd_Box___eq__
  b_Box___eq__ : Binds K fd_Box___eq__ ["self", "other"] []
  eq_Box : EqC K C a_Box___eq__
  a_is_integer : Addr
  fd_is_integer : FuncData
  F_is_integer : Fun K "is_integer" "is_integer" s_is_integer a_is_integer fd_is_integer
  b_is_integer : Binds K fd_is_integer ["value"] []
  m_is_integer : mg "is_integer" = some (.ref a_is_integer)
  a_is_between : Addr
  fd_is_between : FuncData
  F_is_between : Fun K "is_between" "is_between" s_is_between a_is_between fd_is_between
  b_is_between : Binds K fd_is_between ["value", "least", "greatest"] []
  m_is_between : mg "is_between" = some (.ref a_is_between)
  a_is_signed : Addr
  fd_is_signed : FuncData
  F_is_signed : Fun K "is_signed" "is_signed" s_is_signed a_is_signed fd_is_signed
  b_is_signed : Binds K fd_is_signed ["value"] []
  m_is_signed : mg "is_signed" = some (.ref a_is_signed)
  a_is_word : Addr
  fd_is_word : FuncData
  F_is_word : Fun K "is_word" "is_word" s_is_word a_is_word fd_is_word
  b_is_word : Binds K fd_is_word ["value", "words"] []
  m_is_word : mg "is_word" = some (.ref a_is_word)
  a_is_name : Addr
  fd_is_name : FuncData
  F_is_name : Fun K "is_name" "is_name" s_is_name a_is_name fd_is_name
  b_is_name : Binds K fd_is_name ["value"] []
  m_is_name : mg "is_name" = some (.ref a_is_name)
  a_is_row : Addr
  fd_is_row : FuncData
  F_is_row : Fun K "is_row" "is_row" s_is_row a_is_row fd_is_row
  b_is_row : Binds K fd_is_row ["value", "many"] []
  m_is_row : mg "is_row" = some (.ref a_is_row)
  a_is_sequence : Addr
  fd_is_sequence : FuncData
  F_is_sequence : Fun K "is_sequence" "is_sequence" s_is_sequence a_is_sequence fd_is_sequence
  b_is_sequence : Binds K fd_is_sequence ["value"] []
  m_is_sequence : mg "is_sequence" = some (.ref a_is_sequence)
  a_is_family : Addr
  fd_is_family : FuncData
  F_is_family : Fun K "is_family" "is_family" s_is_family a_is_family fd_is_family
  b_is_family : Binds K fd_is_family ["value"] []
  m_is_family : mg "is_family" = some (.ref a_is_family)
  a_is_size : Addr
  fd_is_size : FuncData
  F_is_size : Fun K "is_size" "is_size" s_is_size a_is_size fd_is_size
  b_is_size : Binds K fd_is_size ["value"] []
  m_is_size : mg "is_size" = some (.ref a_is_size)
  a_is_path : Addr
  fd_is_path : FuncData
  F_is_path : Fun K "is_path" "is_path" s_is_path a_is_path fd_is_path
  b_is_path : Binds K fd_is_path ["value"] []
  m_is_path : mg "is_path" = some (.ref a_is_path)
  a_check_box : Addr
  fd_check_box : FuncData
  F_check_box : Fun K "check_box" "check_box" s_check_box a_check_box fd_check_box
  b_check_box : Binds K fd_check_box ["box"] []
  m_check_box : mg "check_box" = some (.ref a_check_box)
  a_is_placed_mark : Addr
  fd_is_placed_mark : FuncData
  F_is_placed_mark : Fun K "is_placed_mark" "is_placed_mark" s_is_placed_mark a_is_placed_mark fd_is_placed_mark
  b_is_placed_mark : Binds K fd_is_placed_mark ["value"] []
  m_is_placed_mark : mg "is_placed_mark" = some (.ref a_is_placed_mark)
  a_is_mark : Addr
  fd_is_mark : FuncData
  F_is_mark : Fun K "is_mark" "is_mark" s_is_mark a_is_mark fd_is_mark
  b_is_mark : Binds K fd_is_mark ["value"] []
  m_is_mark : mg "is_mark" = some (.ref a_is_mark)
  a_is_glyph_mark : Addr
  fd_is_glyph_mark : FuncData
  F_is_glyph_mark : Fun K "is_glyph_mark" "is_glyph_mark" s_is_glyph_mark a_is_glyph_mark fd_is_glyph_mark
  b_is_glyph_mark : Binds K fd_is_glyph_mark ["value"] []
  m_is_glyph_mark : mg "is_glyph_mark" = some (.ref a_is_glyph_mark)
  a_is_rule_mark : Addr
  fd_is_rule_mark : FuncData
  F_is_rule_mark : Fun K "is_rule_mark" "is_rule_mark" s_is_rule_mark a_is_rule_mark fd_is_rule_mark
  b_is_rule_mark : Binds K fd_is_rule_mark ["value"] []
  m_is_rule_mark : mg "is_rule_mark" = some (.ref a_is_rule_mark)
  a_check_signed : Addr
  fd_check_signed : FuncData
  F_check_signed : Fun K "check_signed" "check_signed" s_check_signed a_check_signed fd_check_signed
  b_check_signed : Binds K fd_check_signed ["value", "part"] []
  m_check_signed : mg "check_signed" = some (.ref a_check_signed)
  a_marks_moved : Addr
  fd_marks_moved : FuncData
  F_marks_moved : Fun K "marks_moved" "marks_moved" s_marks_moved a_marks_moved fd_marks_moved
  b_marks_moved : Binds K fd_marks_moved ["box", "dx", "dy"] []
  m_marks_moved : mg "marks_moved" = some (.ref a_marks_moved)
  a_moved : Addr
  fd_moved : FuncData
  F_moved : Fun K "moved" "moved" s_moved a_moved fd_moved
  b_moved : Binds K fd_moved ["box", "dx", "dy"] []
  m_moved : mg "moved" = some (.ref a_moved)
  a_together : Addr
  fd_together : FuncData
  F_together : Fun K "together" "together" s_together a_together fd_together
  b_together : Binds K fd_together ["width", "height", "depth", "placed"] []
  m_together : mg "together" = some (.ref a_together)
  a_check_placed : Addr
  fd_check_placed : FuncData
  F_check_placed : Fun K "check_placed" "check_placed" s_check_placed a_check_placed fd_check_placed
  b_check_placed : Binds K fd_check_placed ["placed"] []
  m_check_placed : mg "check_placed" = some (.ref a_check_placed)
  a_widened : Addr
  fd_widened : FuncData
  F_widened : Fun K "widened" "widened" s_widened a_widened fd_widened
  b_widened : Binds K fd_widened ["box", "width"] []
  m_widened : mg "widened" = some (.ref a_widened)
  a__law_mix : Addr
  fd__law_mix : FuncData
  F__law_mix : Fun K "_law_mix" "_law_mix" s__law_mix a__law_mix fd__law_mix
  b__law_mix : Binds K fd__law_mix ["cell", "lap"] []
  m__law_mix : mg "_law_mix" = some (.ref a__law_mix)
  a__law_source : Addr
  fd__law_source : FuncData
  F__law_source : Fun K "_law_source" "_law_source" s__law_source a__law_source fd__law_source
  b__law_source : Binds K fd__law_source ["script", "k"] []
  m__law_source : mg "_law_source" = some (.ref a__law_source)
  a__law_draw : Addr
  fd__law_draw : FuncData
  F__law_draw : Fun K "_law_draw" "_law_draw" s__law_draw a__law_draw fd__law_draw
  b__law_draw : Binds K fd__law_draw ["well", "many"] []
  m__law_draw : mg "_law_draw" = some (.ref a__law_draw)
  a__law_pick : Addr
  fd__law_pick : FuncData
  F__law_pick : Fun K "_law_pick" "_law_pick" s__law_pick a__law_pick fd__law_pick
  b__law_pick : Binds K fd__law_pick ["well", "some"] []
  m__law_pick : mg "_law_pick" = some (.ref a__law_pick)
  a__law_number : Addr
  fd__law_number : FuncData
  F__law_number : Fun K "_law_number" "_law_number" s__law_number a__law_number fd__law_number
  b__law_number : Binds K fd__law_number ["well"] []
  m__law_number : mg "_law_number" = some (.ref a__law_number)
  a__law_mark : Addr
  fd__law_mark : FuncData
  F__law_mark : Fun K "_law_mark" "_law_mark" s__law_mark a__law_mark fd__law_mark
  b__law_mark : Binds K fd__law_mark ["well"] []
  m__law_mark : mg "_law_mark" = some (.ref a__law_mark)
  a__law_marks : Addr
  fd__law_marks : FuncData
  F__law_marks : Fun K "_law_marks" "_law_marks" s__law_marks a__law_marks fd__law_marks
  b__law_marks : Binds K fd__law_marks ["well"] []
  m__law_marks : mg "_law_marks" = some (.ref a__law_marks)
  a__law_box : Addr
  fd__law_box : FuncData
  F__law_box : Fun K "_law_box" "_law_box" s__law_box a__law_box fd__law_box
  b__law_box : Binds K fd__law_box ["well"] []
  m__law_box : mg "_law_box" = some (.ref a__law_box)
  a__law_all : Addr
  fd__law_all : FuncData
  F__law_all : Fun K "_law_all" "_law_all" s__law_all a__law_all fd__law_all
  b__law_all : Binds K fd__law_all ["one"] []
  m__law_all : mg "_law_all" = some (.ref a__law_all)
  a__law_shifted : Addr
  fd__law_shifted : FuncData
  F__law_shifted : Fun K "_law_shifted" "_law_shifted" s__law_shifted a__law_shifted fd__law_shifted
  b__law_shifted : Binds K fd__law_shifted ["marks", "across", "up"] []
  m__law_shifted : mg "_law_shifted" = some (.ref a__law_shifted)
  a__law_moved_right : Addr
  fd__law_moved_right : FuncData
  F__law_moved_right : Fun K "_law_moved_right" "_law_moved_right" s__law_moved_right a__law_moved_right fd__law_moved_right
  b__law_moved_right : Binds K fd__law_moved_right ["well"] []
  m__law_moved_right : mg "_law_moved_right" = some (.ref a__law_moved_right)
  a__law_together_right : Addr
  fd__law_together_right : FuncData
  F__law_together_right : Fun K "_law_together_right" "_law_together_right" s__law_together_right a__law_together_right fd__law_together_right
  b__law_together_right : Binds K fd__law_together_right ["well"] []
  m__law_together_right : mg "_law_together_right" = some (.ref a__law_together_right)
  a__law_widened_right : Addr
  fd__law_widened_right : FuncData
  F__law_widened_right : Fun K "_law_widened_right" "_law_widened_right" s__law_widened_right a__law_widened_right fd__law_widened_right
  b__law_widened_right : Binds K fd__law_widened_right ["well"] []
  m__law_widened_right : mg "_law_widened_right" = some (.ref a__law_widened_right)
  a__law_right : Addr
  fd__law_right : FuncData
  F__law_right : Fun K "_law_right" "_law_right" s__law_right a__law_right fd__law_right
  b__law_right : Binds K fd__law_right ["well"] []
  m__law_right : mg "_law_right" = some (.ref a__law_right)
  a_law : Addr
  fd_law : FuncData
  F_law : Fun K "law" "law" s_law a_law fd_law
  b_law : Binds K fd_law ["script"] []
  m_law : mg "law" = some (.ref a_law)
end K8
set_option Elab.async false
set_option linter.all false
set_option maxRecDepth 100000
set_option maxHeartbeats 4000000
set_option autoImplicit false
namespace K8
open PySem L2 DL
section
variable {P : Program} {w : World} {K : PySem.W.Frag} {mg : Str → Option Value} {base : Heap}
abbrev g_is_integer : GX := gF1 f_is_integer
abbrev g_is_between : GX := gF3 f_is_between
abbrev g_is_signed : GX := gF1 f_is_signed
abbrev g_is_word : GX := gF2 f_is_word
abbrev g_is_name : GX := gF1 f_is_name
abbrev g_is_row : GX := gF2 f_is_row
abbrev g_is_sequence : GX := gF1 f_is_sequence
abbrev g_is_family : GX := gF1 f_is_family
abbrev g_is_size : GX := gF1 f_is_size
abbrev g_is_path : GX := gF1 f_is_path
abbrev g_is_glyph_mark : GX := gF1 f_is_glyph_mark
abbrev g_is_rule_mark : GX := gF1 f_is_rule_mark
abbrev g_is_mark : GX := gF1 f_is_mark
abbrev g_is_placed_mark : GX := gF1 f_is_placed_mark
theorem mono_g_is_integer : MonoX g_is_integer := mono_gF1
theorem mono_g_is_between : MonoX g_is_between := mono_gF3
theorem mono_g_is_signed : MonoX g_is_signed := mono_gF1
theorem mono_g_is_word : MonoX g_is_word := mono_gF2
theorem mono_g_is_name : MonoX g_is_name := mono_gF1
theorem mono_g_is_row : MonoX g_is_row := mono_gF2
theorem mono_g_is_sequence : MonoX g_is_sequence := mono_gF1
theorem mono_g_is_family : MonoX g_is_family := mono_gF1
theorem mono_g_is_size : MonoX g_is_size := mono_gF1
theorem mono_g_is_path : MonoX g_is_path := mono_gF1
theorem mono_g_is_glyph_mark : MonoX g_is_glyph_mark := mono_gF1
theorem mono_g_is_rule_mark : MonoX g_is_rule_mark := mono_gF1
theorem mono_g_is_mark : MonoX g_is_mark := mono_gF1
theorem mono_g_is_placed_mark : MonoX g_is_placed_mark := mono_gF1
theorem ok_is_integer (T : Txt K mg) : FnOk P w K mg base CX0 1 T.a_is_integer T.fd_is_integer ["value"] (spX K g_is_integer) := by
  refine okD T.F_is_integer sc_is_integer (fun W ds P h => ?_) (fun cdv A outer s H E W F0 hr => ⟨_, (pssd_one (psd_ret (pd_and (pd_callB call_isi serves_isi mono_fIsi rfl T.z_isinstance (by decide +kernel) (pda_cons (pd_var (pv 0)) (pda_cons (pd_bty (T := "int") rfl T.z_int (by decide +kernel)) pda_nil))) (pd_one (pd_not (pd_callB call_isi serves_isi mono_fIsi rfl T.z_isinstance (by decide +kernel) (pda_cons (pd_var (pv 0)) (pda_cons (pd_bty (T := "bool") rfl T.z_bool (by decide +kernel)) pda_nil)))))))), fun ds Pd h => ?_⟩)
  · obtain ⟨x, d, rfl, _⟩ := h; rfl
  · obtain ⟨x, d, rfl, e, p⟩ := h
    cases x <;> simp [f_is_integer, pln, isInt] at e <;> subst e <;> simpa [tasked, isaB] using p
theorem ok_is_between (T : Txt K mg) : FnOk P w K mg base CX0 2 T.a_is_between T.fd_is_between ["value", "least", "greatest"] (spX K g_is_between) := by
  refine okD T.F_is_between sc_is_between (fun W ds P h => ?_) (fun cdv A outer s H E W F0 hr => ⟨_, (pssd_one (psd_ret (pd_and (pd_call (ok_is_integer T) mono_g_is_integer (hr.mono (by decide)) rfl T.m_is_integer T.F_is_integer.kp T.b_is_integer .nil (fun _ => .nil) pass0 EOk.no (pda_cons (pd_var (pv 0)) pda_nil)) (pd_one (pd_chain op_le op_le serves_B0 serves_B0 mono_fB0 mono_fB0 (pd_var (pv 1)) (pd_var (pv 0)) (pd_var (pv 2))))))), fun ds Pd h => ?_⟩)
  · obtain ⟨x, y, z, d, rfl, _⟩ := h; rfl
  · obtain ⟨x, y, z, d, rfl, e, p⟩ := h
    cases y <;> simp [f_is_between] at e
    cases z <;> simp [f_is_between] at e
    obtain ⟨hp, rfl⟩ := e
    simp [f_is_integer, hp]
    cases x <;> simp [isInt, btw] at p ⊢ <;> first | exact p | skip
    rename_i a b i
    by_cases q : a ≤ i <;> simp_all
theorem ok_is_signed (T : Txt K mg) : FnOk P w K mg base CX0 3 T.a_is_signed T.fd_is_signed ["value"] (spX K g_is_signed) := by
  refine okD T.F_is_signed sc_is_signed (fun W ds P h => ?_) (fun cdv A outer s H E W F0 hr => ⟨_, (pssd_one (psd_ret (pd_call (ok_is_between T) mono_g_is_between (hr.mono (by decide)) rfl T.m_is_between T.F_is_between.kp T.b_is_between .nil (fun _ => .nil) pass0 EOk.no (pda_cons (pd_var (pv 0)) (pda_cons (pd_neg (pd_gint rfl T.m_LIMIT)) (pda_cons (pd_gint rfl T.m_LIMIT) pda_nil)))))), fun ds Pd h => ?_⟩)
  · obtain ⟨x, d, rfl, _⟩ := h; rfl
  · obtain ⟨x, d, rfl, e, p⟩ := h
    simp [f_is_signed] at e
    obtain ⟨hp, rfl⟩ := e
    simp [f_is_between, hp]
    exact p
theorem ok_is_word (T : Txt K mg) : FnOk P w K mg base CX0 1 T.a_is_word T.fd_is_word ["value", "words"] (spX K g_is_word) := by
  refine okD T.F_is_word sc_is_word (fun W ds P h => ?_) (fun cdv A outer s H E W F0 hr => ⟨_, (pssd_one (psd_ret (pd_and (pd_callB call_isi serves_isi mono_fIsi rfl T.z_isinstance (by decide +kernel) (pda_cons (pd_var (pv 0)) (pda_cons (pd_bty (T := "str") rfl T.z_str (by decide +kernel)) pda_nil))) (pd_one (pd_cmp op_in_seq serves_in mono_fInS (pd_var (pv 0)) (pd_var (pv 1)) (by rfl)))))), fun ds Pd h => ?_⟩)
  · obtain ⟨x, y, d, rfl, _⟩ := h; rfl
  · obtain ⟨x, y, d, rfl, e, p⟩ := h
    cases y <;> try (simp [f_is_word] at e; done)
    rename_i l
    simp only [f_is_word] at e
    cases hs : strsOf l with
    | none => rw [hs] at e; cases e
    | some ls =>
      rw [hs] at e
      simp at e
      obtain ⟨hp, rfl⟩ := e
      obtain rfl := strsOf_map hs
      cases x <;> simp [pln] at hp <;> simp [tasked, isaB] <;> first | exact p | skip
      rw [fInS_eval]
      simpa [wordIn] using p
theorem ok_is_row (T : Txt K mg) : FnOk P w K mg base CX0 1 T.a_is_row T.fd_is_row ["value", "many"] (spX K g_is_row) := by
  refine okD T.F_is_row sc_is_row (fun W ds P h => ?_) (fun cdv A outer s H E W F0 hr => ⟨_, (pssd_one (psd_ret (pd_and (pd_callB call_isi serves_isi mono_fIsi rfl T.z_isinstance (by decide +kernel) (pda_cons (pd_var (pv 0)) (pda_cons (pd_bty (T := "tuple") rfl T.z_tuple (by decide +kernel)) pda_nil))) (pd_one (pd_cmp (op_eqD (hu64 hr)) serves_eq mono_fEq (pd_callB call_len serves_len mono_fLen rfl T.z_len (by decide +kernel) (pda_cons (pd_var (pv 0)) pda_nil)) (pd_var (pv 1)) (nobehind _ (by decide) (by decide))))))), fun ds Pd h => ?_⟩)
  · obtain ⟨x, y, d, rfl, _⟩ := h; rfl
  · obtain ⟨x, y, d, rfl, e, p⟩ := h
    cases y <;> simp [f_is_row] at e
    obtain ⟨⟨hp, hn⟩, rfl⟩ := e
    cases x <;> simp [pln] at hp <;> simp [tasked, isaB] <;> first | exact p | skip
    rename_i i l
    have e : ((l.length : Int) == i) = tupLen i.toNat (.tup l) := by
      rw [Bool.eq_iff_iff]
      simp [tupLen]
      omega
    rw [e]
    exact p
theorem ok_is_sequence (T : Txt K mg) : FnOk P w K mg base CX0 1 T.a_is_sequence T.fd_is_sequence ["value"] (spX K g_is_sequence) := by
  refine okD T.F_is_sequence sc_is_sequence (fun W ds P h => ?_) (fun cdv A outer s H E W F0 hr => ⟨_, (pssd_one (psd_ret (pd_callB call_isiS serves_isiT mono_fIsiT rfl T.z_isinstance (by decide +kernel) (pda_cons (pd_var (pv 0)) (pda_cons (pd_tup (pda_cons (pd_bty (T := "list") rfl T.z_list (by decide +kernel)) (pda_cons (pd_bty (T := "tuple") rfl T.z_tuple (by decide +kernel)) pda_nil))) pda_nil))))), fun ds Pd h => ?_⟩)
  · obtain ⟨x, d, rfl, _⟩ := h; rfl
  · obtain ⟨x, d, rfl, e, p⟩ := h
    cases x <;> simp [f_is_sequence, pln] at e <;> subst e <;> simpa [tasked, isaB, isSeq] using p
theorem ok_is_family (T : Txt K mg) : FnOk P w K mg base CX0 3 T.a_is_family T.fd_is_family ["value"] (spX K g_is_family) := by
  refine okD T.F_is_family sc_is_family (fun W ds P h => ?_) (fun cdv A outer s H E W F0 hr => ⟨_, (pssd_one (psd_ret (pd_call (ok_is_between T) mono_g_is_between (hr.mono (by decide)) rfl T.m_is_between T.F_is_between.kp T.b_is_between .nil (fun _ => .nil) pass0 EOk.no (pda_cons (pd_var (pv 0)) (pda_cons pd_int (pda_cons (pd_sub (pd_gint rfl T.m_MOST_FAMILIES) pd_int) pda_nil)))))), fun ds Pd h => ?_⟩)
  · obtain ⟨x, d, rfl, _⟩ := h; rfl
  · obtain ⟨x, d, rfl, e, p⟩ := h
    simp [f_is_family] at e
    obtain ⟨hp, rfl⟩ := e
    simp [f_is_between, hp]
    exact p
theorem ok_is_size (T : Txt K mg) : FnOk P w K mg base CX0 3 T.a_is_size T.fd_is_size ["value"] (spX K g_is_size) := by
  refine okD T.F_is_size sc_is_size (fun W ds P h => ?_) (fun cdv A outer s H E W F0 hr => ⟨_, (pssd_one (psd_ret (pd_call (ok_is_between T) mono_g_is_between (hr.mono (by decide)) rfl T.m_is_between T.F_is_between.kp T.b_is_between .nil (fun _ => .nil) pass0 EOk.no (pda_cons (pd_var (pv 0)) (pda_cons pd_int (pda_cons (pd_sub (pd_gint rfl T.m_SIZES) pd_int) pda_nil)))))), fun ds Pd h => ?_⟩)
  · obtain ⟨x, d, rfl, _⟩ := h; rfl
  · obtain ⟨x, d, rfl, e, p⟩ := h
    simp [f_is_size] at e
    obtain ⟨hp, rfl⟩ := e
    simp [f_is_between, hp]
    exact p
end
end K8
set_option Elab.async false
set_option linter.all false
set_option maxRecDepth 100000
set_option maxHeartbeats 4000000
set_option autoImplicit false
namespace K8
open PySem L2 DL
section
variable {P : Program} {w : World} {K : PySem.W.Frag} {mg : Str → Option Value} {base : Heap}
def signD : D → D
  | .str s => .bl (!decide (s.cps.toList < [97]) && !decide ([122] < s.cps.toList))
  | _ => .non
theorem ok_is_name (T : Txt K mg) : FnOk P w K mg base CX0 1 T.a_is_name T.fd_is_name ["value"] (spX K g_is_name) := by
  refine okD T.F_is_name sc_is_name (fun W ds P h => ?_) (fun cdv A outer s H E W F0 hr => ⟨_, (pssd_cons (psd_if (pdt_w (pdw_or (pdt_not (pdt_val (pd_callB call_isi serves_isi mono_fIsi rfl T.z_isinstance (by decide +kernel) (pda_cons (pd_var (pv 0)) (pda_cons (pd_bty (T := "str") rfl T.z_str (by decide +kernel)) pda_nil))))) (pdw_or1 (pdt_not (pdt_chain op_le op_le serves_B0 serves_B0 mono_fB0 mono_fB0 pd_int (pd_callB call_len serves_len mono_fLen rfl T.z_len (by decide +kernel) (pda_cons (pd_var (pv 0)) pda_nil)) (pd_gint rfl T.m_MOST_LETTERS)))))) (pssd_one (psd_ret pd_bl)) pssd_nil) (pssd_one (psd_ret (pd_callB (cr_all rfl) serves_all mono_fAll rfl T.z_all (by decide +kernel) (pda_cons (pd_lc (own := [("sign", 1)]) rfl sc_is_name.nd (pid_str (pd_var (pv 0))) (blkOk_by (N := sc_is_nameN) (sc := defScope s_is_name) (by decide +kernel)) (fun _ _ _ _ _ => pgd_name (i := 1) sc_is_name.nd rfl (by first | exact Or.inl rfl | exact Or.inr rfl)) (by decide) (fun _ _ _ _ _ => ptd_nil) (fun _ _ _ _ _ => (pd_chain op_le_str op_le_str serves_leS serves_leS mono_fLeS mono_fLeS pd_str (pd_var (pv 1)) pd_str))) pda_nil))))), fun ds Pd h => ?_⟩)
  · obtain ⟨x, d, rfl, _⟩ := h; rfl
  · obtain ⟨x, d, rfl, e, p⟩ := h
    simp [f_is_name] at e
    obtain ⟨⟨hp, hs⟩, rfl⟩ := e
    cases x <;> simp [pln] at hp <;> simp [tasked, isaB] <;> first | exact p | skip
    rename_i x
    simp only [short, decide_eq_true_eq] at hs
    refine ⟨le_line hs, ?_⟩
    by_cases h1 : (x.length : Int) < 1
    · refine .inl ⟨h1, ?_⟩
      have e : isName (.str x) = false := by
        have : ¬ 1 ≤ x.length := by omega
        simp [isName, this]
      rw [e] at p
      exact p
    · refine .inr ⟨by omega, ?_⟩
      by_cases h2 : (8 : Int) < (x.length : Int)
      · refine .inl ⟨h2, ?_⟩
        have e : isName (.str x) = false := by
          have : ¬ x.length ≤ 8 := by omega
          simp [isName, this]
        rw [e] at p
        exact p
      · refine .inr ⟨by omega, small1000 hs, ?_⟩
        refine dComp_map signD _ (fun y hy Q q => ?_) [] _ ?_
        · obtain ⟨ch, _, rfl⟩ := List.mem_map.mp hy
          refine ⟨_, rfl, ?_⟩
          show dChain _ _ _ _ _ _ _
          simp [fLeS_eval]
          simp [signD, nameSign] at q
          rw [show (Str.ofString "a").cps.toList = [97] from rfl, show (Str.ofString "z").cps.toList = [122] from rfl]
          by_cases g : [ch] < [97]
          · refine .inl ⟨g, ?_⟩
            simpa [g] using q
          · refine .inr ⟨by simpa using g, ?_⟩
            simpa [g] using q
        · rw [List.map_map, List.nil_append]
          have e : (List.map (signD ∘ fun ch => D.str ⟨#[ch]⟩) x.cps.toList) = (x.cps.toList.map nameSign).map D.bl := by
            rw [List.map_map]
            rfl
          rw [e]
          refine fAll_of ?_
          have e2 : isName (.str x) = (x.cps.toList.map nameSign).all id := by
            have a1 : 1 ≤ x.length := by omega
            have a2 : x.length ≤ 8 := by omega
            simp [isName, a1, a2, List.all_map]
          rw [← e2]
          exact p
theorem ok_is_path (T : Txt K mg) : FnOk P w K mg base CX0 2 T.a_is_path T.fd_is_path ["value"] (spX K g_is_path) := by
  refine okD T.F_is_path sc_is_path (fun W ds P h => ?_) (fun cdv A outer s H E W F0 hr => ⟨_, (pssd_cons (psd_if (pdt_not (pdt_val (pd_callB call_isi serves_isi mono_fIsi rfl T.z_isinstance (by decide +kernel) (pda_cons (pd_var (pv 0)) (pda_cons (pd_bty (T := "tuple") rfl T.z_tuple (by decide +kernel)) pda_nil))))) (pssd_one (psd_ret pd_bl)) pssd_nil) (pssd_one (psd_ret (pd_callB (cr_all rfl) serves_all mono_fAll rfl T.z_all (by decide +kernel) (pda_cons (pd_lc (own := [("step", 1)]) rfl sc_is_path.nd (pid_tup (pd_var (pv 0))) (blkOk_by (N := sc_is_pathN) (sc := defScope s_is_path) (by decide +kernel)) (fun _ _ _ _ _ => pgd_name (i := 1) sc_is_path.nd rfl (by first | exact Or.inl rfl | exact Or.inr rfl)) (by decide) (fun _ _ _ _ _ => ptd_nil) (fun _ _ _ _ _ => (pd_and (pd_call (ok_is_integer T) mono_g_is_integer (hr.mono (by decide)) rfl T.m_is_integer T.F_is_integer.kp T.b_is_integer .nil (fun _ => .nil) pass0 EOk.no (pda_cons (pd_var (pv 1)) pda_nil)) (pd_one (pd_cmp op_ge serves_B0 mono_fB0 (pd_var (pv 1)) pd_int (nobehind _ (by decide) (by decide))))))) pda_nil))))), fun ds Pd h => ?_⟩)
  · obtain ⟨x, d, rfl, _⟩ := h; rfl
  · obtain ⟨x, d, rfl, e, p⟩ := h
    simp [f_is_path] at e
    obtain ⟨hp, rfl⟩ := e
    cases x <;> simp [deep] at hp <;> simp [tasked, isaB] <;> first | exact p | skip
    rename_i l
    refine ⟨small1000 hp.1, ?_⟩
    refine dComp_map (fun d => .bl (step0 d)) _ (fun y hy Q q => ?_) [] _ ?_
    · refine ⟨_, rfl, ?_⟩
      have hy' := deep_plain (deepL_all hp.2 y hy)
      simp [f_is_integer, hy']
      cases y <;> simp [isInt, step0] at q ⊢ <;> exact q
    · rw [List.nil_append, show List.map (fun d => D.bl (step0 d)) l = (l.map step0).map D.bl by rw [List.map_map]; rfl]
      refine fAll_of ?_
      rw [show (l.map step0).all id = pathOk (.tup l) by simp [pathOk, List.all_map]]
      exact p
end
end K8
set_option Elab.async false
set_option linter.all false
set_option maxRecDepth 100000
set_option maxHeartbeats 4000000
set_option autoImplicit false
namespace K8
open PySem L2 DL
section
variable {P : Program} {w : World} {K : PySem.W.Frag} {mg : Str → Option Value} {base : Heap}
theorem tup3 {x : D} (h : tupLen 3 x = true) : ∃ a b c, x = .tup [a, b, c] := by
  cases x <;> simp [tupLen] at h
  rename_i l
  match l, h with
  | [a, b, c], _ => exact ⟨a, b, c, rfl⟩
theorem tup4 {x : D} (h : tupLen 4 x = true) : ∃ a b c d, x = .tup [a, b, c, d] := by
  cases x <;> simp [tupLen] at h
  rename_i l
  match l, h with
  | [a, b, c, d], _ => exact ⟨a, b, c, d, rfl⟩
theorem tup5 {x : D} (h : tupLen 5 x = true) : ∃ a b c d e, x = .tup [a, b, c, d, e] := by
  cases x <;> simp [tupLen] at h
  rename_i l
  match l, h with
  | [a, b, c, d, e], _ => exact ⟨a, b, c, d, e, rfl⟩
theorem pln_tup {l : List D} : pln (.tup l) = true := rfl
section
variable {a b c d e : D} {l : List D}
theorem at0 : atI (a :: l) 0 = some a := atI_nat (j := 0) rfl
theorem at1 : atI (a :: b :: l) 1 = some b := atI_nat (j := 1) rfl
theorem at2 : atI (a :: b :: c :: l) 2 = some c := atI_nat (j := 2) rfl
theorem at3 : atI (a :: b :: c :: d :: l) 3 = some d := atI_nat (j := 3) rfl
theorem at4 : atI (a :: b :: c :: d :: e :: l) 4 = some e := atI_nat (j := 4) rfl
end
theorem ok_is_glyph_mark (T : Txt K mg) : FnOk P w K mg base CX0 4 T.a_is_glyph_mark T.fd_is_glyph_mark ["value"] (spX K g_is_glyph_mark) := by
  refine okD T.F_is_glyph_mark sc_is_glyph_mark (fun W ds P h => ?_) (fun cdv A outer s H E W F0 hr => ⟨_, (pssd_cons (psd_if (pdt_not (pdt_w (pdw_and (pdt_val (pd_call (ok_is_row T) mono_g_is_row (hr.mono (by decide)) rfl T.m_is_row T.F_is_row.kp T.b_is_row .nil (fun _ => .nil) pass0 EOk.no (pda_cons (pd_var (pv 0)) (pda_cons pd_int pda_nil)))) (pdw_and (pdt_val (pd_call (ok_is_word T) mono_g_is_word (hr.mono (by decide)) rfl T.m_is_word T.F_is_word.kp T.b_is_word .nil (fun _ => .nil) pass0 EOk.no (pda_cons (pd_item (pd_var (pv 0)) pd_int (fun _ _ => rfl)) (pda_cons (pd_tup (pda_cons pd_str pda_nil)) pda_nil)))) (pdw_and1 (pdt_val (pd_call (ok_is_path T) mono_g_is_path (hr.mono (by decide)) rfl T.m_is_path T.F_is_path.kp T.b_is_path .nil (fun _ => .nil) pass0 EOk.no (pda_cons (pd_item (pd_var (pv 0)) pd_int (fun _ _ => rfl)) pda_nil)))))))) (pssd_one (psd_ret pd_bl)) pssd_nil) (pssd_one (psd_ret (pd_and (pd_call (ok_is_family T) mono_g_is_family (hr.mono (by decide)) rfl T.m_is_family T.F_is_family.kp T.b_is_family .nil (fun _ => .nil) pass0 EOk.no (pda_cons (pd_item (pd_var (pv 0)) pd_int (fun _ _ => rfl)) pda_nil)) (pd_and (pd_call (ok_is_size T) mono_g_is_size (hr.mono (by decide)) rfl T.m_is_size T.F_is_size.kp T.b_is_size .nil (fun _ => .nil) pass0 EOk.no (pda_cons (pd_item (pd_var (pv 0)) pd_int (fun _ _ => rfl)) pda_nil)) (pd_one (pd_call (ok_is_name T) mono_g_is_name (hr.mono (by decide)) rfl T.m_is_name T.F_is_name.kp T.b_is_name .nil (fun _ => .nil) pass0 EOk.no (pda_cons (pd_item (pd_var (pv 0)) pd_int (fun _ _ => rfl)) pda_nil)))))))), fun ds Pd h => ?_⟩)
  · obtain ⟨x, d, rfl, _⟩ := h; rfl
  · obtain ⟨x, d, rfl, e, p⟩ := h
    simp [f_is_glyph_mark] at e
    obtain ⟨hp, rfl⟩ := e
    by_cases h5 : tupLen 5 x = true
    · obtain ⟨k, q1, f, sz, n, rfl⟩ := tup5 h5
      simp only [deep, deepL, Bool.and_eq_true, decide_eq_true_eq] at hp
      obtain ⟨_, d0, d1, d2, d3, d4, _⟩ := hp
      simp [f_is_row, pln_tup, tupLen, f_is_word, strsOf, f_is_path, f_is_family, f_is_size, f_is_name, at0, at1, at2, at3, at4, d0, d1, d2, d3, d4, deep_plain d0, deep_plain d2, deep_plain d3, deep_plain d4, deep_short d4]
      simp only [glyphMark] at p
      cases e0 : wordIn k ["glyph"] <;> cases e1 : pathOk q1 <;> cases e2 : btw 0 3 f <;> cases e3 : btw 0 2 sz <;> simp_all
    · have e : glyphMark x = false := by
        unfold glyphMark
        split
        · exact absurd rfl h5
        · rfl
      rw [e] at p
      have h5' : tupLen 5 x = false := by simpa using h5
      simp [f_is_row, deep_plain hp, h5']
      exact p
theorem ok_is_rule_mark (T : Txt K mg) : FnOk P w K mg base CX0 4 T.a_is_rule_mark T.fd_is_rule_mark ["value"] (spX K g_is_rule_mark) := by
  refine okD T.F_is_rule_mark sc_is_rule_mark (fun W ds P h => ?_) (fun cdv A outer s H E W F0 hr => ⟨_, (pssd_cons (psd_if (pdt_not (pdt_w (pdw_and (pdt_val (pd_call (ok_is_row T) mono_g_is_row (hr.mono (by decide)) rfl T.m_is_row T.F_is_row.kp T.b_is_row .nil (fun _ => .nil) pass0 EOk.no (pda_cons (pd_var (pv 0)) (pda_cons pd_int pda_nil)))) (pdw_and (pdt_val (pd_call (ok_is_word T) mono_g_is_word (hr.mono (by decide)) rfl T.m_is_word T.F_is_word.kp T.b_is_word .nil (fun _ => .nil) pass0 EOk.no (pda_cons (pd_item (pd_var (pv 0)) pd_int (fun _ _ => rfl)) (pda_cons (pd_tup (pda_cons pd_str pda_nil)) pda_nil)))) (pdw_and1 (pdt_val (pd_call (ok_is_path T) mono_g_is_path (hr.mono (by decide)) rfl T.m_is_path T.F_is_path.kp T.b_is_path .nil (fun _ => .nil) pass0 EOk.no (pda_cons (pd_item (pd_var (pv 0)) pd_int (fun _ _ => rfl)) pda_nil)))))))) (pssd_one (psd_ret pd_bl)) pssd_nil) (pssd_one (psd_ret (pd_and (pd_call (ok_is_signed T) mono_g_is_signed (hr.mono (by decide)) rfl T.m_is_signed T.F_is_signed.kp T.b_is_signed .nil (fun _ => .nil) pass0 EOk.no (pda_cons (pd_item (pd_var (pv 0)) pd_int (fun _ _ => rfl)) pda_nil)) (pd_one (pd_call (ok_is_signed T) mono_g_is_signed (hr.mono (by decide)) rfl T.m_is_signed T.F_is_signed.kp T.b_is_signed .nil (fun _ => .nil) pass0 EOk.no (pda_cons (pd_item (pd_var (pv 0)) pd_int (fun _ _ => rfl)) pda_nil))))))), fun ds Pd h => ?_⟩)
  · obtain ⟨x, d, rfl, _⟩ := h; rfl
  · obtain ⟨x, d, rfl, e, p⟩ := h
    simp [f_is_rule_mark] at e
    obtain ⟨hp, rfl⟩ := e
    by_cases h5 : tupLen 4 x = true
    · obtain ⟨k, q1, f, sz, rfl⟩ := tup4 h5
      simp only [deep, deepL, Bool.and_eq_true, decide_eq_true_eq] at hp
      obtain ⟨_, d0, d1, d2, d3, _⟩ := hp
      simp [f_is_row, pln_tup, tupLen, f_is_word, strsOf, f_is_path, f_is_signed, at0, at1, at2, at3, d0, d1, d2, d3, deep_plain d0, deep_plain d2, deep_plain d3]
      simp only [ruleMark] at p
      cases e0 : wordIn k ["rule"] <;> cases e1 : pathOk q1 <;> cases e2 : sg f <;> simp_all
    · have e : ruleMark x = false := by
        unfold ruleMark
        split
        · exact absurd rfl h5
        · rfl
      rw [e] at p
      have h5' : tupLen 4 x = false := by simpa using h5
      simp [f_is_row, deep_plain hp, h5']
      exact p
theorem ok_is_mark (T : Txt K mg) : FnOk P w K mg base CX0 5 T.a_is_mark T.fd_is_mark ["value"] (spX K g_is_mark) := by
  refine okD T.F_is_mark sc_is_mark (fun W ds P h => ?_) (fun cdv A outer s H E W F0 hr => ⟨_, (pssd_one (psd_ret (pd_or (pd_call (ok_is_glyph_mark T) mono_g_is_glyph_mark (hr.mono (by decide)) rfl T.m_is_glyph_mark T.F_is_glyph_mark.kp T.b_is_glyph_mark .nil (fun _ => .nil) pass0 EOk.no (pda_cons (pd_var (pv 0)) pda_nil)) (pd_one (pd_call (ok_is_rule_mark T) mono_g_is_rule_mark (hr.mono (by decide)) rfl T.m_is_rule_mark T.F_is_rule_mark.kp T.b_is_rule_mark .nil (fun _ => .nil) pass0 EOk.no (pda_cons (pd_var (pv 0)) pda_nil)))))), fun ds Pd h => ?_⟩)
  · obtain ⟨x, d, rfl, _⟩ := h; rfl
  · obtain ⟨x, d, rfl, e, p⟩ := h
    simp [f_is_mark] at e
    obtain ⟨hp, rfl⟩ := e
    simp [f_is_glyph_mark, f_is_rule_mark, hp]
    cases e0 : glyphMark x <;> simp_all
theorem ok_is_placed_mark (T : Txt K mg) : FnOk P w K mg base CX0 6 T.a_is_placed_mark T.fd_is_placed_mark ["value"] (spX K g_is_placed_mark) := by
  refine okD T.F_is_placed_mark sc_is_placed_mark (fun W ds P h => ?_) (fun cdv A outer s H E W F0 hr => ⟨_, (pssd_one (psd_ret (pd_and (pd_call (ok_is_row T) mono_g_is_row (hr.mono (by decide)) rfl T.m_is_row T.F_is_row.kp T.b_is_row .nil (fun _ => .nil) pass0 EOk.no (pda_cons (pd_var (pv 0)) (pda_cons pd_int pda_nil))) (pd_and (pd_call (ok_is_signed T) mono_g_is_signed (hr.mono (by decide)) rfl T.m_is_signed T.F_is_signed.kp T.b_is_signed .nil (fun _ => .nil) pass0 EOk.no (pda_cons (pd_item (pd_var (pv 0)) pd_int (fun _ _ => rfl)) pda_nil)) (pd_and (pd_call (ok_is_signed T) mono_g_is_signed (hr.mono (by decide)) rfl T.m_is_signed T.F_is_signed.kp T.b_is_signed .nil (fun _ => .nil) pass0 EOk.no (pda_cons (pd_item (pd_var (pv 0)) pd_int (fun _ _ => rfl)) pda_nil)) (pd_one (pd_call (ok_is_mark T) mono_g_is_mark (hr.mono (by decide)) rfl T.m_is_mark T.F_is_mark.kp T.b_is_mark .nil (fun _ => .nil) pass0 EOk.no (pda_cons (pd_item (pd_var (pv 0)) pd_int (fun _ _ => rfl)) pda_nil)))))))), fun ds Pd h => ?_⟩)
  · obtain ⟨x, d, rfl, _⟩ := h; rfl
  · obtain ⟨x, d, rfl, e, p⟩ := h
    simp [f_is_placed_mark] at e
    obtain ⟨hp, rfl⟩ := e
    by_cases h5 : tupLen 3 x = true
    · obtain ⟨k, q1, f, rfl⟩ := tup3 h5
      simp only [deep, deepL, Bool.and_eq_true, decide_eq_true_eq] at hp
      obtain ⟨_, d0, d1, d2, _⟩ := hp
      simp [f_is_row, pln_tup, tupLen, f_is_signed, f_is_mark, at0, at1, at2, d0, d1, d2, deep_plain d0, deep_plain d1]
      simp only [placedMark] at p
      cases e0 : sg k <;> cases e1 : sg q1 <;> simp_all
    · have e : placedMark x = false := by
        unfold placedMark
        split
        · exact absurd rfl h5
        · rfl
      rw [e] at p
      have h5' : tupLen 3 x = false := by simpa using h5
      simp [f_is_row, deep_plain hp, h5']
      exact p
end
end K8
set_option Elab.async false
set_option linter.all false
set_option maxRecDepth 100000
set_option maxHeartbeats 4000000
set_option autoImplicit false
namespace K8
open PySem L2 DL

theorem dComp_mapOf {α : Type} {set : DG} {de : DE} {ρ : List Sl} (g f : α → D) : ∀ (xs : List α) (_ : ∀ x ∈ xs, ∀ P : D → Prop, P (f x) → ∃ ρ1, set (g x) ρ = some ρ1 ∧ de ρ1 P) (acc : List D) (P : List D → Prop), P (acc ++ xs.map f) → dComp set dYes de ρ (xs.map g) acc P
  | [], _, acc, P, p => by simpa [dComp] using p
  | x :: r, h, acc, P, p => by
    obtain ⟨ρ1, e, q⟩ := h x List.mem_cons_self (fun y => dComp set dYes de ρ (r.map g) (acc ++ [y]) P) (dComp_mapOf g f r (fun z hz => h z (List.mem_cons_of_mem _ hz)) _ P (by simpa using p))
    exact ⟨ρ1, e, by simpa [dYes] using q⟩
/-! boxes as data -/
abbrev M3 := Int × Int × D
def mD (t : M3) : D := .tup [.int t.1, .int t.2.1, t.2.2]
structure B where
  w : Int
  h : Int
  d : Int
  ms : List M3
def bF (b : B) : List (Str × D) := [("width", .int b.w), ("height", .int b.h), ("depth", .int b.d), ("marks", .lst (b.ms.map mD))]
def bD (C : Addr) (b : B) : D := .ins C (bF b)
def mv (dx dy : Int) (t : M3) : M3 := (t.1 + dx, t.2.1 + dy, t.2.2)
def okM (t : M3) : Bool := deep (mD t) && placedMark (mD t)
def okB (b : B) : Bool := sg (.int b.w) && sg (.int b.h) && sg (.int b.d) && decide (b.ms.length ≤ 1000) && b.ms.all okM
def bsW : List B → Int
  | [] => 0
  | b :: r => b.w + bsW r
def bsM (x : Int) : List B → List M3
  | [] => []
  | b :: r => b.ms.map (mv x 0) ++ bsM (x + b.w) r
def top0 : List Int → Int
  | [] => 0
  | n :: r => max n (top0 r)
theorem top0_nn : ∀ l : List Int, 0 ≤ top0 l
  | [] => by simp [top0]
  | n :: r => by have := top0_nn r; simp only [top0]; omega
theorem top0_ge : ∀ (l : List Int), ∀ y ∈ l, y ≤ top0 l
  | n :: r, y, h => by
    simp only [top0]
    rcases List.mem_cons.mp h with rfl | h
    · omega
    · have := top0_ge r y h; omega
theorem top0_mem : ∀ l : List Int, top0 l ∈ (0 :: l)
  | [] => by simp [top0]
  | n :: r => by
    have := top0_mem r
    simp only [top0]
    by_cases q : top0 r ≤ n
    · rw [Int.max_eq_left q]; simp
    · rw [Int.max_eq_right (by omega)]
      rcases List.mem_cons.mp this with e | e
      · rw [e]; simp
      · exact List.mem_cons_of_mem _ (List.mem_cons_of_mem _ e)
def put (bs : List B) : B := ⟨bsW bs, top0 (bs.map B.h), top0 (bs.map B.d), bsM 0 bs⟩
def g_check_box (C : Addr) : GX := lift0 fun _ ds P => ∃ b, ds = [bD C b] ∧ okB b = true ∧ P .non
theorem mono_g_check_box {C : Addr} : MonoX (g_check_box C) := mono0 fun _ _ _ _ m ⟨b, e, k, p⟩ => ⟨b, e, k, m _ p⟩
def g_marks_moved (C : Addr) : GX := lift0 fun _ ds P => ∃ b dx dy, ds = [bD C b, .int dx, .int dy] ∧ b.ms.length ≤ 1000 ∧ P (.lst ((b.ms.map (mv dx dy)).map mD))
theorem mono_g_marks_moved {C : Addr} : MonoX (g_marks_moved C) := mono0 fun _ _ _ _ m ⟨b, dx, dy, e, k, p⟩ => ⟨b, dx, dy, e, k, m _ p⟩
section
def eF (C : Addr) (f : Str) : D → (D → Prop) → Prop := fun d P => ∃ fs v, d = .ins C fs ∧ fs.lookup f = some v ∧ P v
theorem dFld_eq {C : Addr} {f : Str} {de : DE} : dFld C f de = fun ρ P => de ρ fun d => eF C f d P := rfl
theorem eF_of {C : Addr} {f : Str} {fs : List (Str × D)} {v : D} {P : D → Prop} (h : fs.lookup f = some v) : eF C f (.ins C fs) P = P v := by
  apply propext
  constructor
  · rintro ⟨fs, u, e, l, p⟩
    cases e
    rw [h] at l
    cases l
    exact p
  · exact fun p => ⟨_, v, rfl, h, p⟩
variable {C : Addr} {b : B} {P : D → Prop}
theorem lk_skip {f g : Str} {v : D} {fs : List (Str × D)} (h : (f == g) = false) : List.lookup f ((g, v) :: fs) = fs.lookup f := by rw [List.lookup_cons, h]
theorem lk_hit {f : Str} {v : D} {fs : List (Str × D)} : List.lookup f ((f, v) :: fs) = some v := by rw [List.lookup_cons, show (f == f) = true by simp]
theorem eF_w : eF C "width" (bD C b) P = P (.int b.w) := eF_of lk_hit
theorem eF_h : eF C "height" (bD C b) P = P (.int b.h) := eF_of (by unfold bF; rw [lk_skip (by decide +kernel), lk_hit])
theorem eF_d : eF C "depth" (bD C b) P = P (.int b.d) := eF_of (by unfold bF; rw [lk_skip (by decide +kernel), lk_skip (by decide +kernel), lk_hit])
theorem eF_m : eF C "marks" (bD C b) P = P (.lst (b.ms.map mD)) := eF_of (by unfold bF; rw [lk_skip (by decide +kernel), lk_skip (by decide +kernel), lk_skip (by decide +kernel), lk_hit])
theorem fIsC_bD : fIsC C [bD C b, .adr C] P = P (.bl true) := fIsC_eval
end
section
variable {P : Program} {w : World} {K : PySem.W.Frag} {mg : Str → Option Value} {base : Heap}
theorem ok_check_box (T : Txt K mg) : FnOk P w K mg base CX0 7 T.a_check_box T.fd_check_box ["box"] (spX K (g_check_box T.C)) := by
  refine okD T.F_check_box sc_check_box (fun W ds P h => ?_) (fun cdv A outer s H E W F0 hr => ⟨_, (pssd_cons (psd_if (pdt_not (pdt_val (pd_callB (C8.call_isC T.is_Box) serves_isC mono_fIsC rfl T.z_isinstance (by decide +kernel) (pda_cons (pd_var (pv 0)) (pda_cons (pd_gref rfl T.m_Box) pda_nil))))) (pssd_one psd_never) pssd_nil) (pssd_cons (psd_if (pdt_not (pdt_val (pd_call (ok_is_signed T) mono_g_is_signed (hr.mono (by decide)) rfl T.m_is_signed T.F_is_signed.kp T.b_is_signed .nil (fun _ => .nil) pass0 EOk.no (pda_cons (pd_fld T.cl_Box T.n_Box_width (pd_var (pv 0))) pda_nil)))) (pssd_one psd_never) pssd_nil) (pssd_cons (psd_if (pdt_not (pdt_val (pd_call (ok_is_signed T) mono_g_is_signed (hr.mono (by decide)) rfl T.m_is_signed T.F_is_signed.kp T.b_is_signed .nil (fun _ => .nil) pass0 EOk.no (pda_cons (pd_fld T.cl_Box T.n_Box_height (pd_var (pv 0))) pda_nil)))) (pssd_one psd_never) pssd_nil) (pssd_cons (psd_if (pdt_not (pdt_val (pd_call (ok_is_signed T) mono_g_is_signed (hr.mono (by decide)) rfl T.m_is_signed T.F_is_signed.kp T.b_is_signed .nil (fun _ => .nil) pass0 EOk.no (pda_cons (pd_fld T.cl_Box T.n_Box_depth (pd_var (pv 0))) pda_nil)))) (pssd_one psd_never) pssd_nil) (pssd_one (psd_if (pdt_w (pdw_or (pdt_not (pdt_val (pd_callB call_isi serves_isi mono_fIsi rfl T.z_isinstance (by decide +kernel) (pda_cons (pd_fld T.cl_Box T.n_Box_marks (pd_var (pv 0))) (pda_cons (pd_bty (T := "list") rfl T.z_list (by decide +kernel)) pda_nil))))) (pdw_or1 (pdt_not (pdt_val (pd_callB (cr_all rfl) serves_all mono_fAll rfl T.z_all (by decide +kernel) (pda_cons (pd_lc (own := [("placed", 1)]) rfl sc_check_box.nd (pid_list (pd_fld T.cl_Box T.n_Box_marks (pd_var (pv 0)))) (blkOk_by (N := sc_check_boxN) (sc := defScope s_check_box) (by decide +kernel)) (fun _ _ _ _ _ => pgd_name (i := 1) sc_check_box.nd rfl (by first | exact Or.inl rfl | exact Or.inr rfl)) (by decide) (fun _ _ _ _ _ => ptd_nil) (fun _ _ _ _ _ => (pd_call (ok_is_placed_mark T) mono_g_is_placed_mark (hr.mono (by decide)) rfl T.m_is_placed_mark T.F_is_placed_mark.kp T.b_is_placed_mark .nil (fun _ => .nil) pass0 EOk.no (pda_cons (pd_var (pv 1)) pda_nil)))) pda_nil))))))) (pssd_one psd_never) pssd_nil)))))), fun ds Pd h => ?_⟩)
  · obtain ⟨b, rfl, _⟩ := h; rfl
  · obtain ⟨b, rfl, hb, p⟩ := h
    simp only [okB, Bool.and_eq_true, decide_eq_true_eq, List.all_eq_true] at hb
    obtain ⟨⟨⟨⟨h1, h2⟩, h3⟩, h4⟩, h5⟩ := hb
    simp [dFld_eq, fIsC_bD, eF_w, eF_h, eF_d, eF_m, f_is_signed, pln, h1, h2, h3, tasked, isaB]
    refine ⟨small1000 h4, ?_⟩
    refine dComp_map (fun d => .bl (placedMark d)) _ (fun y hy Q q => ?_) [] _ ?_
    · refine ⟨_, rfl, ?_⟩
      obtain ⟨t, ht, rfl⟩ := List.mem_map.mp hy
      have := h5 t ht
      simp only [okM, Bool.and_eq_true] at this
      simp [f_is_placed_mark, this.1]
      exact q
    · rw [List.nil_append, show (b.ms.map mD).map (fun d => D.bl (placedMark d)) = ((b.ms.map mD).map placedMark).map D.bl by simp]
      refine fAll_of ⟨?_, p⟩
      · have : ((b.ms.map mD).map placedMark).all id = true := by
          simp only [List.all_map, List.all_eq_true]
          intro t ht
          have := h5 t ht
          simp only [okM, Bool.and_eq_true] at this
          simpa using this.2
        rw [this]
theorem ok_marks_moved (T : Txt K mg) : FnOk P w K mg base CX0 1 T.a_marks_moved T.fd_marks_moved ["box", "dx", "dy"] (spX K (g_marks_moved T.C)) := by
  refine okD T.F_marks_moved sc_marks_moved (fun W ds P h => ?_) (fun cdv A outer s H E W F0 hr => ⟨_, (pssd_one (psd_ret (pd_lc (own := [("x", 3), ("y", 4), ("mark", 5)]) rfl sc_marks_moved.nd (pid_list (pd_fld T.cl_Box T.n_Box_marks (pd_var (pv 0)))) (blkOk_by (N := sc_marks_movedN) (sc := defScope s_marks_moved) (by decide +kernel)) (fun _ _ _ _ _ => pgd_tupK (K := K) rfl rfl (pgds_cons (pgd_name (i := 3) sc_marks_moved.nd rfl (by first | exact Or.inl rfl | exact Or.inr rfl)) (pgds_cons (pgd_name (i := 4) sc_marks_moved.nd rfl (by first | exact Or.inl rfl | exact Or.inr rfl)) (pgds_cons (pgd_name (i := 5) sc_marks_moved.nd rfl (by first | exact Or.inl rfl | exact Or.inr rfl)) pgds_nil))) (setCons_len (setCons_len (setCons_len set0)))) (by decide) (fun _ _ _ _ _ => ptd_nil) (fun _ _ _ _ _ => (pd_tup (pda_cons (pd_add (pd_var (pv 3)) (pd_var (pv 1))) (pda_cons (pd_add (pd_var (pv 4)) (pd_var (pv 2))) (pda_cons (pd_var (pv 5)) pda_nil)))))))), fun ds Pd h => ?_⟩)
  · obtain ⟨b, dx, dy, rfl, _⟩ := h; rfl
  · obtain ⟨b, dx, dy, rfl, hl, p⟩ := h
    simp [dFld_eq, eF_m]
    refine ⟨small1000 hl, ?_⟩
    refine dComp_mapOf mD (fun t => mD (mv dx dy t)) _ (fun t ht Q q => ⟨_, rfl, ?_⟩) [] _ ?_
    · simp
      exact q
    · rw [List.map_map] at p
      exact p
end
end K8
set_option Elab.async false
set_option linter.all false
set_option maxRecDepth 100000
set_option maxHeartbeats 4000000
set_option autoImplicit false
namespace K8
open PySem PySem.Spec PyProof.Rows L2 DL
/-! a new box: not kept, its list its own -/
def iF (b : B) (a : Addr) : List (Str × V) := putF "marks" (.ref a) (putF "depth" (.int b.d) (putF "height" (.int b.h) (putF "width" (.int b.w) [])))
theorem sne : ∀ x ∈ (["width", "height", "depth", "marks"] : List Str), ∀ y ∈ (["width", "height", "depth", "marks"] : List Str), x = y ∨ ¬ x = y := by intro x _ y _; exact Classical.em _
theorem iF_eq (b : B) (a : Addr) : iF b a = ([("width", V.int b.w), ("height", V.int b.h), ("depth", V.int b.d), ("marks", V.ref a)] : List (Str × V)) := by
  have h1 : ¬ (("width" : Str) = "height") := by decide +kernel
  have h2 : ¬ (("width" : Str) = "depth") := by decide +kernel
  have h3 : ¬ (("width" : Str) = "marks") := by decide +kernel
  have h4 : ¬ (("height" : Str) = "depth") := by decide +kernel
  have h5 : ¬ (("height" : Str) = "marks") := by decide +kernel
  have h6 : ¬ (("depth" : Str) = "marks") := by decide +kernel
  simp only [iF, putF, if_neg h1, if_neg h2, if_neg h3, if_neg h4, if_neg h5, if_neg h6]
structure NewB (K : PySem.W.Frag) (C : Addr) (W : Option Addr) (F H : Hp) (b : B) (x a dx : Addr) (us : List V) (F' H' : Hp) : Prop where
  fr : Fr W F H F' H'
  hx : H x = none
  ha : H a = none
  fx : F' x = none
  fa : F' a = none
  ix : H' x = some (.ins C dx (iF b a))
  ia : H' a = some (.lst us)
  dl : DatL K F' us (b.ms.map mD)
section
variable {K : PySem.W.Frag} {C : Addr} {W : Option Addr} {F H F' H' : Hp} {b : B} {x a dx : Addr} {us : List V}
theorem NewB.ne (n : NewB K C W F H b x a dx us F' H') : x ≠ a := fun e => by
  have h1 := n.ix
  rw [e, n.ia] at h1
  cases h1
theorem NewB.dat (n : NewB K C W F H b x a dx us F' H') {F2 : Hp} (s : Same F' F2) (hx : F2 x = some (.ins C dx (iF b a))) (ha : F2 a = some (.lst us)) : Dat K F2 (.ref x) (bD C b) := by
  rw [iF_eq] at hx
  exact .ins hx (.cons (.int _) (.cons (.int _) (.cons (.int _) (.cons (.lst ha (n.dl.mono s)) .nil))))
/-- it is kept from now on -/
theorem NewB.frz (g : Good W F H) (n : NewB K C W F H b x a dx us F' H') : ∃ F2, Fr W F H F2 H' ∧ Same F' F2 ∧ Dat K F2 (.ref x) (bD C b) ∧ F2 x = some (.ins C dx (iF b a)) ∧ F2 a = some (.lst us) := by
  have ne := n.ne
  have s1 : Same F' (upd F' a (.lst us)) := same_upd n.fa
  have s2 : Same (upd F' a (.lst us)) (upd (upd F' a (.lst us)) x (.ins C dx (iF b a))) := same_upd (by rw [upd_ne ne]; exact n.fx)
  have ex : (upd (upd F' a (.lst us)) x (.ins C dx (iF b a))) x = some (.ins C dx (iF b a)) := upd_same
  have ea : (upd (upd F' a (.lst us)) x (.ins C dx (iF b a))) a = some (.lst us) := by rw [upd_ne ne.symm, upd_same]
  refine ⟨upd (upd F' a (.lst us)) x (.ins C dx (iF b a)), ⟨fun y o e => ?_, n.fr.grow.trans (s1.trans s2), n.fr.keep, fun y o e => ?_, fun y hw => ?_⟩, s1.trans s2, n.dat (s1.trans s2) ex ea, ex, ea⟩
  · by_cases q : y = x
    · subst q
      rw [ex] at e
      cases e
      exact n.ix
    · rw [upd_ne q] at e
      by_cases q2 : y = a
      · subst q2
        rw [upd_same] at e
        cases e
        exact n.ia
      · rw [upd_ne q2] at e
        exact n.fr.sub _ _ e
  · by_cases q : y = x
    · subst q
      exact .inr n.hx
    · rw [upd_ne q] at e
      by_cases q2 : y = a
      · subst q2
        exact .inr n.ha
      · rw [upd_ne q2] at e
        exact n.fr.new _ _ e
  · obtain ⟨h1, h2⟩ := n.fr.well y hw
    obtain ⟨_, i, j, k, e⟩ := g.well y hw
    have q : y ≠ x := fun q => by
      rw [q, n.hx] at e
      cases e
    have q2 : y ≠ a := fun q => by
      rw [q, n.ha] at e
      cases e
    exact ⟨by rw [upd_ne q, upd_ne q2]; exact h1, h2⟩
end
/-- a promise of a new box -/
def spN (K : PySem.W.Frag) (C : Addr) (g : List D → B → Prop) : Sp := fun vs H Q E => ∃ W F ds b, Good W F H ∧ DatL K F vs ds ∧ g ds b ∧ ∀ x a dx us F' H', NewB K C W F H b x a dx us F' H' → Q (.ref x) H'
theorem spN_of {K : PySem.W.Frag} {C : Addr} {g : List D → B → Prop} : ∀ vs H Q E, spX K (lift0 fun _ ds P => ∃ b, g ds b ∧ P (bD C b)) vs H Q E → spN K C g vs H Q E := by
  intro vs H Q E h
  obtain ⟨W, F, ds, G, d, b, hg, q⟩ := h
  refine ⟨W, F, ds, b, G, d, hg, fun x a dx us F' H' n => ?_⟩
  obtain ⟨F2, f2, _, d2, _⟩ := n.frz G
  exact q _ F2 H' f2 d2
/-! __init__ -/
def spInit (K : PySem.W.Frag) (C : Addr) : Sp := fun vs H Q E => ∃ W F H1 p dx b m, vs = [.ref p, .int b.w, .int b.h, .int b.d, m] ∧ Good W F H1 ∧ Good W F H ∧ H p = some (.ins C dx []) ∧ H1 p = none ∧ (∀ y o, H1 y = some o → H y = some o) ∧ Dat K F m (.lst (b.ms.map mD)) ∧
  ∀ a us F' H', NewB K C W F H1 b p a dx us F' H' → Q .non H'
section
variable {P : Program} {w : World} {K : PySem.W.Frag} {mg : Str → Option Value} {base : Heap}
theorem ok_init (T : Txt K mg) : FnOk P w K mg base CX0 2 T.a_Box___init__ T.fd_Box___init__ ["self", "width", "height", "depth", "marks"] (spInit K T.C) := by
  refine T.F_Box___init__.ok sc_Box___init__ (fun vs H Q E h => ?_) (fun cdv A outer s H vs Q E hr h => ?_)
  · obtain ⟨W, F, H1, p, dx, b, m, rfl, _⟩ := h
    rfl
  · obtain ⟨W, F, H1, p, dx, b, m, rfl, G1, G, hp, hp1, hold, hm, k⟩ := h
    refine ⟨_, pss_cons (ps_fld (pv 0) (pv 1) rfl) (pss_cons (ps_fld (pv 0) (pv 2) rfl) (pss_cons (ps_fld (pv 0) (pv 3) rfl) (pss_one (ps_fld (pv 0) (pe_ifExp (PDT.pt (c := ⟨W, F, (fun y => if y = p then none else H y), fun _ _ => False⟩) (pdt_val
      (pd_call (ok_is_sequence T) mono_g_is_sequence (hr.mono (by decide)) rfl T.m_is_sequence T.F_is_sequence.kp T.b_is_sequence .nil (fun _ => .nil) pass0 EOk.no (pda_cons (pd_var (pv 4)) pda_nil))))
        (pe_callTy call_list_of rfl T.z_list (by decide +kernel) (pa_cons (pv 4) pa_nil)) (pv 4)) rfl)))), ?_⟩
    have Fp : F p = none := G1.free hp1
    refine ⟨_, rfl, _, rfl, p, T.C, dx, [], rfl, hp, T.cl_Box, T.n_Box_width, (by show 0 < 1000; decide), ?_⟩
    refine ⟨_, rfl, _, rfl, p, T.C, dx, _, rfl, upd_same, T.cl_Box, T.n_Box_height, (by show 1 < 1000; decide), ?_⟩
    refine ⟨_, rfl, _, rfl, p, T.C, dx, _, rfl, upd_same, T.cl_Box, T.n_Box_depth, (by show 2 < 1000; decide), ?_⟩
    have en : Fr W F (fun y => if y = p then none else H y) F (upd (upd (upd H p (.ins T.C dx (putF "width" (.int b.w) []))) p (.ins T.C dx (putF "height" (.int b.h) (putF "width" (.int b.w) [])))) p (.ins T.C dx (putF "depth" (.int b.d) (putF "height" (.int b.h) (putF "width" (.int b.w) []))))) := by
      have q : ∀ {y : Addr} {o : HO}, y ≠ p → H y = some o → (upd (upd (upd H p (.ins T.C dx (putF "width" (.int b.w) []))) p (.ins T.C dx (putF "height" (.int b.h) (putF "width" (.int b.w) [])))) p (.ins T.C dx (putF "depth" (.int b.d) (putF "height" (.int b.h) (putF "width" (.int b.w) []))))) y = some o := fun n e => by
        rw [upd_ne n, upd_ne n, upd_ne n]
        exact e
      refine ⟨fun y o e => q (fun z => by rw [z, Fp] at e; cases e) (G.sub _ _ e), Same.refl F, fun y o e _ => ?_, fun y o e => .inl e, fun y hw => ?_⟩
      · by_cases z : y = p
        · rw [if_pos z] at e
          cases e
        · rw [if_neg z] at e
          exact q z e
      · obtain ⟨n, i, j, l, e⟩ := G.well y hw
        exact ⟨n, i, j, l, q (fun z => by rw [z, hp] at e; cases e) e⟩
    refine ⟨F, [.fz (.adr p), .fz (.int b.w), .fz (.int b.h), .fz (.int b.d), .fz (.lst (b.ms.map mD))], ⟨en, slots_start (N := sc_Box___init__N) (.cons (.adr p) (.cons (.int _) (.cons (.int _) (.cons (.int _) (.cons hm .nil)))))⟩, ?_⟩
    simp [f_is_sequence, pln, isSeq]
    intro F' H' f
    cases hm with
    | @lst am us _ hs hl =>
      have Wp : W ≠ some p := fun z => by
        obtain ⟨_, i, j, l, e⟩ := G.well p z
        rw [hp] at e
        cases e
      have Hp := f.keep p _ upd_same Wp
      have F'p : F' p = none := by
        cases q : F' p with
        | none => rfl
        | some o =>
          rcases f.new p o q with z | z
          · rw [Fp] at z; cases z
          · rw [upd_same] at z; cases z
      refine ⟨_, rfl, am, rfl, us, .inl (.of (f.sub _ _ (f.grow _ _ hs))), fun l hl0 => ?_⟩
      have nlp : p ≠ l := fun z => by
        rw [z, hl0] at Hp
        cases Hp
      refine ⟨_, rfl, p, rfl, T.C, dx, _, by rw [upd_ne nlp]; exact Hp, T.cl_Box, T.n_Box_marks, by show 3 < 1000; decide, ?_⟩
      have F'l : F' l = none := f.sub.free hl0
      have up2 : ∀ {y : Addr} {o : HO}, y ≠ p → H' y = some o → (upd (upd H' l (.lst us)) p (.ins T.C dx (iF b l))) y = some o := fun n e => by
        rw [upd_ne n, upd_ne (ne_of_none e hl0)]
        exact e
      have h3 : ∀ {y : Addr} {o : HO}, H1 y = some o → W ≠ some y → H' y = some o := fun {y o} e n => by
        have z : y ≠ p := ne_of_none e hp1
        refine f.keep y o ?_ n
        rw [upd_ne z, upd_ne z, upd_ne z]
        exact hold _ _ e
      refine k l us F' _ ⟨⟨fun y o e => up2 (fun z => by rw [z, F'p] at e; cases e) (f.sub _ _ e), f.grow, fun y o e n => up2 (ne_of_none e hp1) (h3 e n), fun y o e => ?_, fun y hw => ?_⟩, hp1, ?_, F'p, F'l, upd_same, by rw [upd_ne nlp.symm, upd_same], hl.mono f.grow⟩
      · rcases f.new y o e with z | z
        · exact .inl z
        · right
          cases q : H1 y with
          | none => rfl
          | some u =>
            have n : y ≠ p := ne_of_none q hp1
            rw [upd_ne n, upd_ne n, upd_ne n, hold _ _ q] at z
            cases z
      · obtain ⟨n, i, j, m, e⟩ := f.well y hw
        exact ⟨n, i, j, m, up2 (fun z => Wp (by rw [hw, z])) e⟩
      · cases q : H1 l with
        | none => rfl
        | some u =>
          by_cases n : W = some l
          · obtain ⟨_, i, j, m, e⟩ := f.well l n
            rw [hl0] at e
            cases e
          · have := h3 q n
            rw [hl0] at this
            cases this
end
end K8
set_option Elab.async false
set_option linter.all false
set_option maxRecDepth 100000
set_option maxHeartbeats 4000000
set_option autoImplicit false
namespace K8
open PySem PySem.Spec PyProof.Rows L2 DL
section
variable {K : PySem.W.Frag} {C : Addr} {W : Option Addr} {F H : Hp} {b : B} {Q : VK} {E : XK} {vs : List V}
theorem make_new (G : DL.Good W F H) (hv : DatL K F vs [.int b.w, .int b.h, .int b.d, .lst (b.ms.map mD)]) (k : ∀ x a dx us F' H', NewB K C W F H b x a dx us F' H' → Q (.ref x) H') :
    ∀ x dx, H x = none → H dx = none → dx ≠ x → spInit K C (.ref x :: (vs ++ [])) (upd (upd H dx (.own x)) x (.ins C dx [])) (fun v H2 => v = .non ∧ Q (.ref x) H2) E := by
  intro x dx hx hdx n
  rw [List.append_nil]
  cases hv with
  | cons h1 hv =>
  cases hv with
  | cons h2 hv =>
  cases hv with
  | cons h3 hv =>
  cases hv with
  | @cons m _ _ _ h4 hv =>
  cases hv
  cases h1
  cases h2
  cases h3
  have up2 : ∀ {y : Addr} {o : HO}, H y = some o → (upd (upd H dx (.own x)) x (.ins C dx [])) y = some o := fun e => by
    rw [upd_ne (ne_of_none e hx), upd_ne (ne_of_none e hdx)]
    exact e
  refine ⟨W, F, H, x, dx, b, m, rfl, G, ⟨fun y o e => up2 (G.sub _ _ e), fun y hw => ?_⟩, upd_same, hx, fun y o e => up2 e, h4, fun a us F' H' nb => ⟨rfl, k x a dx us F' H' nb⟩⟩
  obtain ⟨n1, i, j, l, e⟩ := G.well y hw
  exact ⟨n1, i, j, l, up2 e⟩
end
section
variable {X : Cx} {c : Dx}
def dMk (C : Addr) (da : DA) : DE := fun ρ P => da ρ fun ds => ∃ b : B, ds = [.int b.w, .int b.h, .int b.d, .lst (b.ms.map mD)] ∧ P (bD C b)
theorem pd_make {C f : Addr} {fd : FuncData} {k : Nat} {ps : List Str} {x : Str} {p pos : Pos} {e : Expr} {es : List Expr} {da : DA} (M : Mk X.K C f) (F : FnOk X.prog X.w X.K X.mg X.base CX0 k f fd ps (spInit X.K C)) (hr : Room (k + 1) X.A) (hg : Gl X x) (hm : X.mg x = some (.ref C)) (hb : Binds X.K fd ps [])
    (ha : PDA X c (e :: es) da) (hdb : (x == ("__debug__" : Str)) = false := by decide) (he : starEach (e :: es) X.env = (false, eval e X.env) :: starEach es X.env := by rfl) (hpl : (backTo pos (starEach es X.env)).any (·.1) = false := by rfl) :
    PD X c (.Call (.Name x p) (e :: es) [] pos) (dMk C da) := by
  refine ⟨imp (pe_make (E := E0) M F hr hg hm hb .nil pass0 ha.pa hdb he hpl) fun σ H Q q => ?_, fun ρ P P' m => ha.mono ρ _ _ fun ds ⟨b, e, p⟩ => ⟨b, e, m _ p⟩⟩
  obtain ⟨F1, ρ, a, q⟩ := q
  refine ⟨F1, ρ, a, ha.mono _ _ _ (fun ds q vs F2 H2 f2 d2 => ?_) q⟩
  obtain ⟨b, rfl, q⟩ := q
  refine make_new f2.good d2 fun x a dx us F' H' n => ?_
  obtain ⟨F3, f3, _, d3, _⟩ := n.frz f2.good
  exact q _ F3 H' (f2.trans f3) d3
end
theorem bsM_acc (x : Int) (b : B) (r : List B) : (bsM x (b :: r)).length = b.ms.length + (bsM (x + b.w) r).length := by simp [bsM]
def g_check_signed : GX := lift0 fun _ ds P => ∃ x s, ds = [.int x, .str s] ∧ sg (.int x) = true ∧ P .non
theorem mono_g_check_signed : MonoX g_check_signed := mono0 fun _ _ _ _ m ⟨b, s, e, k, p⟩ => ⟨b, s, e, k, m _ p⟩
def mvB (b : B) (dx dy : Int) : B := ⟨b.w + dx, b.h + dy, b.d - dy, b.ms.map (mv dx dy)⟩
def gMoved (C : Addr) (ds : List D) (r : B) : Prop := ∃ b dx dy, ds = [bD C b, .int dx, .int dy] ∧ okB b = true ∧ sg (.int dx) = true ∧ sg (.int dy) = true ∧ r = mvB b dx dy
def wdB (b : B) (v : Int) : B := ⟨v, b.h, b.d, b.ms.map (mv ((v - b.w) / 2) 0)⟩
def gWidened (C : Addr) (ds : List D) (r : B) : Prop := ∃ b v, ds = [bD C b, .int v] ∧ okB b = true ∧ sg (.int v) = true ∧ r = wdB b v
abbrev P3 := B × Int × Int
def pD (C : Addr) (p : P3) : D := .tup [bD C p.1, .int p.2.1, .int p.2.2]
def okP (p : P3) : Prop := okB p.1 = true ∧ sg (.int p.2.1) = true ∧ sg (.int p.2.2) = true
def tgM : List P3 → List M3
  | [] => []
  | p :: r => p.1.ms.map (mv p.2.1 p.2.2) ++ tgM r
def seqP (C : Addr) (ps : List P3) (d : D) : Prop := d = .lst (ps.map (pD C)) ∨ d = .tup (ps.map (pD C))
def g_check_placed (C : Addr) : GX := lift0 fun _ ds P => ∃ ps d, ds = [d] ∧ seqP C ps d ∧ ps.length ≤ 1000 ∧ (∀ p ∈ ps, okP p) ∧ P .non
theorem mono_g_check_placed {C : Addr} : MonoX (g_check_placed C) := mono0 fun _ _ _ _ m ⟨b, s, e, k, l, o, p⟩ => ⟨b, s, e, k, l, o, m _ p⟩
def gTog (C : Addr) (ds : List D) (r : B) : Prop := ∃ v h d ps dd, ds = [.int v, .int h, .int d, dd] ∧ seqP C ps dd ∧ sg (.int v) = true ∧ sg (.int h) = true ∧ sg (.int d) = true ∧ ps.length ≤ 1000 ∧ (tgM ps).length ≤ 1000 ∧ (∀ p ∈ ps, okP p) ∧ r = ⟨v, h, d, tgM ps⟩
theorem lkw {b : B} : (bF b).lookup ("width" : Str) = some (.int b.w) := lk_hit
theorem lkh {b : B} : (bF b).lookup ("height" : Str) = some (.int b.h) := by unfold bF; rw [lk_skip (by decide +kernel), lk_hit]
theorem lkd {b : B} : (bF b).lookup ("depth" : Str) = some (.int b.d) := by unfold bF; rw [lk_skip (by decide +kernel), lk_skip (by decide +kernel), lk_hit]
theorem lkm {b : B} : (bF b).lookup ("marks" : Str) = some (.lst (b.ms.map mD)) := by unfold bF; rw [lk_skip (by decide +kernel), lk_skip (by decide +kernel), lk_skip (by decide +kernel), lk_hit]
theorem okB_len {b : B} (h : okB b = true) : b.ms.length ≤ 1000 := by
  simp only [okB, Bool.and_eq_true, decide_eq_true_eq] at h
  exact h.1.2
theorem loop_placed (C : Addr) (a : D) (c : Dx) (De : DEnds) : ∀ (ps : List P3) (s1 s2 s3 : Sl), (∀ p ∈ ps, okP p) → (∀ s1 s2 s3, De.nx [.fz a, s1, s2, s3, .un]) →
    dLoop (setT (setCons (setN 1) (setCons (setN 2) (setCons (setN 3) setNil)))) (dSeq (dDrop (dFn (g_check_box C) c [] (dCons (dVar 1) dNil))) (dSeq (dDrop (dFn g_check_signed c [] (dCons (dVar 2) (dCons (dC (.str "placed")) dNil)))) (dDrop (dFn g_check_signed c [] (dCons (dVar 3) (dCons (dC (.str "placed")) dNil)))))) De (ps.map (pD C)) [.fz a, s1, s2, s3, .un]
  | [], s1, s2, s3, _, k => k s1 s2 s3
  | p :: r, s1, s2, s3, h, k => by
    obtain ⟨h1, h2, h3⟩ := h p List.mem_cons_self
    exact ⟨_, rfl, _, rfl, p.1, rfl, h1, _, rfl, _, _, rfl, h2, _, rfl, _, _, rfl, h3, loop_placed C a c De r _ _ _ (fun x hx => h x (List.mem_cons_of_mem _ hx)) k⟩
theorem loop_tog (C : Addr) (c : Dx) (De : DEnds) (e0 e1 e2 e3 : Sl) : ∀ (ps : List P3) (acc : List M3) (s5 s6 s7 : Sl), (∀ p ∈ ps, okP p) → acc.length + (tgM ps).length ≤ 1000 → (∀ s5 s6 s7, De.nx [e0, e1, e2, e3, .ow ((acc ++ tgM ps).map mD), s5, s6, s7]) →
    dLoop (setT (setCons (setN 5) (setCons (setN 6) (setCons (setN 7) setNil)))) (dExt 4 (dFn (g_marks_moved C) c [] (dCons (dVar 5) (dCons (dVar 6) (dCons (dVar 7) dNil))))) De (ps.map (pD C)) [e0, e1, e2, e3, .ow (acc.map mD), s5, s6, s7]
  | [], acc, s5, s6, s7, _, _, k => by
    have := k s5 s6 s7
    simpa [dLoop, tgM] using this
  | p :: r, acc, s5, s6, s7, h, hl, k => by
    obtain ⟨h1, h2, h3⟩ := h p List.mem_cons_self
    simp only [tgM, List.length_append, List.length_map] at hl
    refine ⟨_, rfl, _, rfl, _, rfl, _, rfl, _, rfl, p.1, p.2.1, p.2.2, rfl, okB_len h1, _, rfl, Nat.le_of_lt (small1000 (by simp; omega)), ?_⟩
    have ih := loop_tog C c De e0 e1 e2 e3 r (acc ++ p.1.ms.map (mv p.2.1 p.2.2)) (.fz (bD C p.1)) (.fz (.int p.2.1)) (.fz (.int p.2.2)) (fun x hx => h x (List.mem_cons_of_mem _ hx)) (by simp; omega) (fun s5 s6 s7 => by
      have := k s5 s6 s7
      simpa [tgM, List.append_assoc] using this)
    rw [← List.map_append]
    exact ih
section
variable {P : Program} {w : World} {K : PySem.W.Frag} {mg : Str → Option Value} {base : Heap}
theorem ok_check_signed (T : Txt K mg) : FnOk P w K mg base CX0 4 T.a_check_signed T.fd_check_signed ["value", "part"] (spX K g_check_signed) := by
  refine okD T.F_check_signed sc_check_signed (fun W ds P h => ?_) (fun cdv A outer s H E W F0 hr => ⟨_, (pssd_one (psd_if (pdt_not (pdt_val (pd_call (ok_is_signed T) mono_g_is_signed (hr.mono (by decide)) rfl T.m_is_signed T.F_is_signed.kp T.b_is_signed .nil (fun _ => .nil) pass0 EOk.no (pda_cons (pd_var (pv 0)) pda_nil)))) (pssd_one psd_never) pssd_nil)), fun ds Pd h => ?_⟩)
  · obtain ⟨b, s, rfl, _⟩ := h; rfl
  · obtain ⟨b, s, rfl, hb, p⟩ := h
    simp [f_is_signed, pln, hb]
    exact p
theorem ok_moved (T : Txt K mg) : FnOk P w K mg base CX0 8 T.a_moved T.fd_moved ["box", "dx", "dy"] (spN K T.C (gMoved T.C)) := by
  refine T.F_moved.ok sc_moved (fun vs H Q E h => ?_) (fun cdv A outer s H vs Q E hr h => ?_)
  · obtain ⟨W, F, ds, b, _, d, ⟨b', dx, dy, rfl, _⟩, _⟩ := h
    rw [d.length]
    rfl
  · obtain ⟨W, F, ds, b, G, d, ⟨b', dx, dy, rfl, hb, hx, hy, rfl⟩, q⟩ := h
    refine ⟨_, (PSsL.ps (c := ⟨W, F, H, fun _ _ => False⟩) (pssl_cons (psd_expr (pd_call (ok_check_box T) mono_g_check_box (hr.mono (by decide)) rfl T.m_check_box T.F_check_box.kp T.b_check_box .nil (fun _ => .nil) pass0 EOk.no (pda_cons (pd_var (pv 0)) pda_nil))) (pssl_cons (psd_expr (pd_call (ok_check_signed T) mono_g_check_signed (hr.mono (by decide)) rfl T.m_check_signed T.F_check_signed.kp T.b_check_signed .nil (fun _ => .nil) pass0 EOk.no (pda_cons (pd_var (pv 1)) (pda_cons pd_str pda_nil)))) (pssl_cons (psd_expr (pd_call (ok_check_signed T) mono_g_check_signed (hr.mono (by decide)) rfl T.m_check_signed T.F_check_signed.kp T.b_check_signed .nil (fun _ => .nil) pass0 EOk.no (pda_cons (pd_var (pv 2)) (pda_cons pd_str pda_nil)))) (pssl_last (pss_one (ps_ret (pe_make (E := E0) T.mk_Box (ok_init T) (hr.mono (by decide)) rfl T.m_Box T.b_Box___init__ .nil pass0 (PDA.pa (c := ⟨W, F, H, fun _ _ => False⟩) (pda_cons (pd_add (pd_fld T.cl_Box T.n_Box_width (pd_var (pv 0))) (pd_var (pv 1))) (pda_cons (pd_add (pd_fld T.cl_Box T.n_Box_height (pd_var (pv 0))) (pd_var (pv 2))) (pda_cons (pd_sub (pd_fld T.cl_Box T.n_Box_depth (pd_var (pv 0))) (pd_var (pv 2))) (pda_cons (pd_call (ok_marks_moved T) mono_g_marks_moved (hr.mono (by decide)) rfl T.m_marks_moved T.F_marks_moved.kp T.b_marks_moved .nil (fun _ => .nil) pass0 EOk.no (pda_cons (pd_var (pv 0)) (pda_cons (pd_var (pv 1)) (pda_cons (pd_var (pv 2)) pda_nil)))) pda_nil))))))))))))), ?_⟩
    refine ⟨F, _, ⟨fun _ => False, fun _ => False, fun _ => False, fun _ => False⟩, fun ρ' => ρ' = [.fz (bD T.C b'), .fz (.int dx), .fz (.int dy)], ⟨G.rfl, slots_start d⟩, ⟨fun _ _ _ _ z => z.elim, fun _ _ _ _ z => z.elim, fun _ _ _ _ z => z.elim, fun _ _ _ _ z => z.elim⟩, fun ρ' σ' F' H' z s a => ?_, ?_⟩
    · refine ⟨F', ρ', a, ?_⟩
      have fin : ∀ vs' F2 H2, DL.Fr W F' H' F2 H2 → DatL K F2 vs' [.int (mvB b' dx dy).w, .int (mvB b' dx dy).h, .int (mvB b' dx dy).d, .lst ((mvB b' dx dy).ms.map mD)] → ∀ x dx, H2 x = none → H2 dx = none → dx ≠ x → spInit K T.C (.ref x :: (vs' ++ [])) (upd (upd H2 dx (.own x)) x (.ins T.C dx [])) (fun v H3 => v = .non ∧ Q (.ref x) H3) E0 := fun vs' F2 H2 f2 d2 =>
        make_new (b := mvB b' dx dy) f2.good d2 fun x a' dx us F3 H3 n =>
          q x a' dx us F3 H3 ⟨a.en.trans (f2.trans n.fr), entry_none (c := ⟨W, F, H, fun _ _ => False⟩) (a.en.trans f2) n.hx, entry_none (c := ⟨W, F, H, fun _ _ => False⟩) (a.en.trans f2) n.ha, n.fx, n.fa, n.ix, n.ia, n.dl⟩
      subst z
      exact ⟨_, rfl, bF b', _, rfl, lkw, _, rfl, b'.w, dx, rfl, rfl, _, rfl, bF b', _, rfl, lkh, _, rfl, b'.h, dy, rfl, rfl, _, rfl, bF b', _, rfl, lkd, _, rfl, b'.d, dy, rfl, rfl, _, rfl, _, rfl, _, rfl, b', dx, dy, rfl, okB_len hb, fin⟩
    · exact ⟨_, rfl, b', rfl, hb, _, rfl, dx, _, rfl, hx, _, rfl, dy, _, rfl, hy, rfl⟩
theorem ok_widened (T : Txt K mg) : FnOk P w K mg base CX0 8 T.a_widened T.fd_widened ["box", "width"] (spN K T.C (gWidened T.C)) := by
  refine T.F_widened.ok sc_widened (fun vs H Q E h => ?_) (fun cdv A outer s H vs Q E hr h => ?_)
  · obtain ⟨W, F, ds, b, _, d, ⟨b', v, rfl, _⟩, _⟩ := h
    rw [d.length]
    rfl
  · obtain ⟨W, F, ds, b, G, d, ⟨b', v, rfl, hb, hx, rfl⟩, q⟩ := h
    refine ⟨_, (PSsL.ps (c := ⟨W, F, H, fun _ _ => False⟩) (pssl_cons (psd_expr (pd_call (ok_check_box T) mono_g_check_box (hr.mono (by decide)) rfl T.m_check_box T.F_check_box.kp T.b_check_box .nil (fun _ => .nil) pass0 EOk.no (pda_cons (pd_var (pv 0)) pda_nil))) (pssl_cons (psd_expr (pd_call (ok_check_signed T) mono_g_check_signed (hr.mono (by decide)) rfl T.m_check_signed T.F_check_signed.kp T.b_check_signed .nil (fun _ => .nil) pass0 EOk.no (pda_cons (pd_var (pv 1)) (pda_cons pd_str pda_nil)))) (pssl_last (pss_one (ps_ret (pe_make (E := E0) T.mk_Box (ok_init T) (hr.mono (by decide)) rfl T.m_Box T.b_Box___init__ .nil pass0 (PDA.pa (c := ⟨W, F, H, fun _ _ => False⟩) (pda_cons (pd_var (pv 1)) (pda_cons (pd_fld T.cl_Box T.n_Box_height (pd_var (pv 0))) (pda_cons (pd_fld T.cl_Box T.n_Box_depth (pd_var (pv 0))) (pda_cons (pd_call (ok_marks_moved T) mono_g_marks_moved (hr.mono (by decide)) rfl T.m_marks_moved T.F_marks_moved.kp T.b_marks_moved .nil (fun _ => .nil) pass0 EOk.no (pda_cons (pd_var (pv 0)) (pda_cons (pd_fdiv (pd_sub (pd_var (pv 1)) (pd_fld T.cl_Box T.n_Box_width (pd_var (pv 0)))) pd_int) (pda_cons pd_int pda_nil)))) pda_nil)))))))))))), ?_⟩
    refine ⟨F, _, ⟨fun _ => False, fun _ => False, fun _ => False, fun _ => False⟩, fun ρ' => ρ' = [.fz (bD T.C b'), .fz (.int v)], ⟨G.rfl, slots_start d⟩, ⟨fun _ _ _ _ z => z.elim, fun _ _ _ _ z => z.elim, fun _ _ _ _ z => z.elim, fun _ _ _ _ z => z.elim⟩, fun ρ' σ' F' H' z s a => ?_, ?_⟩
    · refine ⟨F', ρ', a, ?_⟩
      have fin : ∀ vs' F2 H2, DL.Fr W F' H' F2 H2 → DatL K F2 vs' [.int (wdB b' v).w, .int (wdB b' v).h, .int (wdB b' v).d, .lst ((wdB b' v).ms.map mD)] → ∀ x dx, H2 x = none → H2 dx = none → dx ≠ x → spInit K T.C (.ref x :: (vs' ++ [])) (upd (upd H2 dx (.own x)) x (.ins T.C dx [])) (fun v H3 => v = .non ∧ Q (.ref x) H3) E0 := fun vs' F2 H2 f2 d2 =>
        make_new (b := wdB b' v) f2.good d2 fun x a' dx us F3 H3 n =>
          q x a' dx us F3 H3 ⟨a.en.trans (f2.trans n.fr), entry_none (c := ⟨W, F, H, fun _ _ => False⟩) (a.en.trans f2) n.hx, entry_none (c := ⟨W, F, H, fun _ _ => False⟩) (a.en.trans f2) n.ha, n.fx, n.fa, n.ix, n.ia, n.dl⟩
      subst z
      exact ⟨_, rfl, _, rfl, bF b', _, rfl, lkh, _, rfl, bF b', _, rfl, lkd, _, rfl, _, rfl, _, rfl, bF b', _, rfl, lkw, v, b'.w, rfl, rfl, _, 2, rfl, rfl, ⟨by decide, by decide +kernel⟩, b', _, 0, rfl, okB_len hb, fin⟩
    · exact ⟨_, rfl, b', rfl, hb, _, rfl, v, _, rfl, hx, rfl⟩
theorem ok_check_placed (T : Txt K mg) : FnOk P w K mg base CX0 8 T.a_check_placed T.fd_check_placed ["placed"] (spX K (g_check_placed T.C)) := by
  refine okE T.F_check_placed sc_check_placed (fun W ds P h => ?_) (fun cdv A outer s H E W F0 ds Pd hr h => ?_)
  · obtain ⟨ps, d, rfl, _⟩ := h; rfl
  · obtain ⟨ps, d, rfl, hs, hl, ho, p⟩ := h
    rcases hs with rfl | rfl
    · refine ⟨_, (pssd_cons (psd_if (pdt_w (pdw_or (pdt_not (pdt_val (pd_call (ok_is_sequence T) mono_g_is_sequence (hr.mono (by decide)) rfl T.m_is_sequence T.F_is_sequence.kp T.b_is_sequence .nil (fun _ => .nil) pass0 EOk.no (pda_cons (pd_var (pv 0)) pda_nil)))) (pdw_or1 (pdt_not (pdt_val (pd_callB (cr_all rfl) serves_all mono_fAll rfl T.z_all (by decide +kernel) (pda_cons (pd_lc (own := [("entry", 4)]) rfl sc_check_placed.nd (pid_list (pd_var (pv 0))) (blkOk_by (N := sc_check_placedN) (sc := defScope s_check_placed) (by decide +kernel)) (fun _ _ _ _ _ => pgd_name (i := 4) sc_check_placed.nd rfl (by first | exact Or.inl rfl | exact Or.inr rfl)) (by decide) (fun _ _ _ _ _ => ptd_nil) (fun _ _ _ _ _ => (pd_call (ok_is_row T) mono_g_is_row (hr.mono (by decide)) rfl T.m_is_row T.F_is_row.kp T.b_is_row .nil (fun _ => .nil) pass0 EOk.no (pda_cons (pd_var (pv 4)) (pda_cons pd_int pda_nil))))) pda_nil))))))) (pssd_one psd_never) pssd_nil) (pssd_one (psd_for PassesOwn.never rfl (pid_list (pd_var (pv 0))) (pgd_tupK (K := K) rfl rfl (pgds_cons (pgd_name (i := 1) sc_check_placed.nd rfl (by first | exact Or.inl rfl | exact Or.inr rfl)) (pgds_cons (pgd_name (i := 2) sc_check_placed.nd rfl (by first | exact Or.inl rfl | exact Or.inr rfl)) (pgds_cons (pgd_name (i := 3) sc_check_placed.nd rfl (by first | exact Or.inl rfl | exact Or.inr rfl)) pgds_nil))) (setCons_len (setCons_len (setCons_len set0)))) (pssd_cons (psd_expr (pd_call (ok_check_box T) mono_g_check_box (hr.mono (by decide)) rfl T.m_check_box T.F_check_box.kp T.b_check_box .nil (fun _ => .nil) pass0 EOk.no (pda_cons (pd_var (pv 1)) pda_nil))) (pssd_cons (psd_expr (pd_call (ok_check_signed T) mono_g_check_signed (hr.mono (by decide)) rfl T.m_check_signed T.F_check_signed.kp T.b_check_signed .nil (fun _ => .nil) pass0 EOk.no (pda_cons (pd_var (pv 2)) (pda_cons pd_str pda_nil)))) (pssd_one (psd_expr (pd_call (ok_check_signed T) mono_g_check_signed (hr.mono (by decide)) rfl T.m_check_signed T.F_check_signed.kp T.b_check_signed .nil (fun _ => .nil) pass0 EOk.no (pda_cons (pd_var (pv 3)) (pda_cons pd_str pda_nil)))))))))), ?_⟩
      simp [f_is_sequence, pln, isSeq]
      refine ⟨small1000 hl, ?_⟩
      refine dComp_mapOf (pD T.C) (fun _ => .bl true) _ (fun t ht R r => ⟨_, rfl, ?_⟩) [] _ ?_
      · exact ⟨_, rfl, pD T.C t, .int 3, .bl true, rfl, rfl, r⟩
      · rw [List.nil_append, show (ps.map fun _ => D.bl true) = (ps.map fun _ => true).map D.bl by rw [List.map_map]; rfl]
        refine fAll_of ⟨?_, ?_⟩
        · simp
        · exact loop_placed T.C _ _ _ ps _ _ _ ho fun _ _ _ => p
    · refine ⟨_, (pssd_cons (psd_if (pdt_w (pdw_or (pdt_not (pdt_val (pd_call (ok_is_sequence T) mono_g_is_sequence (hr.mono (by decide)) rfl T.m_is_sequence T.F_is_sequence.kp T.b_is_sequence .nil (fun _ => .nil) pass0 EOk.no (pda_cons (pd_var (pv 0)) pda_nil)))) (pdw_or1 (pdt_not (pdt_val (pd_callB (cr_all rfl) serves_all mono_fAll rfl T.z_all (by decide +kernel) (pda_cons (pd_lc (own := [("entry", 4)]) rfl sc_check_placed.nd (pid_tup (pd_var (pv 0))) (blkOk_by (N := sc_check_placedN) (sc := defScope s_check_placed) (by decide +kernel)) (fun _ _ _ _ _ => pgd_name (i := 4) sc_check_placed.nd rfl (by first | exact Or.inl rfl | exact Or.inr rfl)) (by decide) (fun _ _ _ _ _ => ptd_nil) (fun _ _ _ _ _ => (pd_call (ok_is_row T) mono_g_is_row (hr.mono (by decide)) rfl T.m_is_row T.F_is_row.kp T.b_is_row .nil (fun _ => .nil) pass0 EOk.no (pda_cons (pd_var (pv 4)) (pda_cons pd_int pda_nil))))) pda_nil))))))) (pssd_one psd_never) pssd_nil) (pssd_one (psd_for PassesOwn.never rfl (pid_tup (pd_var (pv 0))) (pgd_tupK (K := K) rfl rfl (pgds_cons (pgd_name (i := 1) sc_check_placed.nd rfl (by first | exact Or.inl rfl | exact Or.inr rfl)) (pgds_cons (pgd_name (i := 2) sc_check_placed.nd rfl (by first | exact Or.inl rfl | exact Or.inr rfl)) (pgds_cons (pgd_name (i := 3) sc_check_placed.nd rfl (by first | exact Or.inl rfl | exact Or.inr rfl)) pgds_nil))) (setCons_len (setCons_len (setCons_len set0)))) (pssd_cons (psd_expr (pd_call (ok_check_box T) mono_g_check_box (hr.mono (by decide)) rfl T.m_check_box T.F_check_box.kp T.b_check_box .nil (fun _ => .nil) pass0 EOk.no (pda_cons (pd_var (pv 1)) pda_nil))) (pssd_cons (psd_expr (pd_call (ok_check_signed T) mono_g_check_signed (hr.mono (by decide)) rfl T.m_check_signed T.F_check_signed.kp T.b_check_signed .nil (fun _ => .nil) pass0 EOk.no (pda_cons (pd_var (pv 2)) (pda_cons pd_str pda_nil)))) (pssd_one (psd_expr (pd_call (ok_check_signed T) mono_g_check_signed (hr.mono (by decide)) rfl T.m_check_signed T.F_check_signed.kp T.b_check_signed .nil (fun _ => .nil) pass0 EOk.no (pda_cons (pd_var (pv 3)) (pda_cons pd_str pda_nil)))))))))), ?_⟩
      simp [f_is_sequence, pln, isSeq]
      refine ⟨small1000 hl, ?_⟩
      refine dComp_mapOf (pD T.C) (fun _ => .bl true) _ (fun t ht R r => ⟨_, rfl, ?_⟩) [] _ ?_
      · exact ⟨_, rfl, pD T.C t, .int 3, .bl true, rfl, rfl, r⟩
      · rw [List.nil_append, show (ps.map fun _ => D.bl true) = (ps.map fun _ => true).map D.bl by rw [List.map_map]; rfl]
        refine fAll_of ⟨?_, ?_⟩
        · simp
        · exact loop_placed T.C _ _ _ ps _ _ _ ho fun _ _ _ => p
theorem ok_together (T : Txt K mg) : FnOk P w K mg base CX0 9 T.a_together T.fd_together ["width", "height", "depth", "placed"] (spN K T.C (gTog T.C)) := by
  refine T.F_together.ok sc_together (fun vs H Q E h => ?_) (fun cdv A outer s H vs Q E hr h => ?_)
  · obtain ⟨W, F, ds, b, _, d, ⟨v, h, d0, ps, dd, rfl, _⟩, _⟩ := h
    rw [d.length]
    rfl
  · obtain ⟨W, F, ds, b, G, d, ⟨v, h, d0, ps, dd, rfl, hs, hv, hh, hd, hl, hm, ho, rfl⟩, q⟩ := h
    rcases hs with rfl | rfl
    · refine ⟨_, (PSsL.ps (c := ⟨W, F, H, fun _ _ => False⟩) (pssl_cons (psd_expr (pd_call (ok_check_signed T) mono_g_check_signed (hr.mono (by decide)) rfl T.m_check_signed T.F_check_signed.kp T.b_check_signed .nil (fun _ => .nil) pass0 EOk.no (pda_cons (pd_var (pv 0)) (pda_cons pd_str pda_nil)))) (pssl_cons (psd_expr (pd_call (ok_check_signed T) mono_g_check_signed (hr.mono (by decide)) rfl T.m_check_signed T.F_check_signed.kp T.b_check_signed .nil (fun _ => .nil) pass0 EOk.no (pda_cons (pd_var (pv 1)) (pda_cons pd_str pda_nil)))) (pssl_cons (psd_expr (pd_call (ok_check_signed T) mono_g_check_signed (hr.mono (by decide)) rfl T.m_check_signed T.F_check_signed.kp T.b_check_signed .nil (fun _ => .nil) pass0 EOk.no (pda_cons (pd_var (pv 2)) (pda_cons pd_str pda_nil)))) (pssl_cons (psd_expr (pd_call (ok_check_placed T) mono_g_check_placed (hr.mono (by decide)) rfl T.m_check_placed T.F_check_placed.kp T.b_check_placed .nil (fun _ => .nil) pass0 EOk.no (pda_cons (pd_var (pv 3)) pda_nil))) (pssl_cons (psd_newL (i := 4) sc_together.nd rfl (by first | exact Or.inl rfl | exact Or.inr rfl) pda_nil) (pssl_cons (psd_for PassesOwn.never rfl (pid_list (pd_var (pv 3))) (pgd_tupK (K := K) rfl rfl (pgds_cons (pgd_name (i := 5) sc_together.nd rfl (by first | exact Or.inl rfl | exact Or.inr rfl)) (pgds_cons (pgd_name (i := 6) sc_together.nd rfl (by first | exact Or.inl rfl | exact Or.inr rfl)) (pgds_cons (pgd_name (i := 7) sc_together.nd rfl (by first | exact Or.inl rfl | exact Or.inr rfl)) pgds_nil))) (setCons_len (setCons_len (setCons_len set0)))) (pssd_one (psd_extend (pv 4) (pd_call (ok_marks_moved T) mono_g_marks_moved (hr.mono (by decide)) rfl T.m_marks_moved T.F_marks_moved.kp T.b_marks_moved .nil (fun _ => .nil) pass0 EOk.no (pda_cons (pd_var (pv 5)) (pda_cons (pd_var (pv 6)) (pda_cons (pd_var (pv 7)) pda_nil))))))) (pssl_keep 4 (pssl_last (pss_one (ps_ret (pe_make (E := E0) T.mk_Box (ok_init T) (hr.mono (by decide)) rfl T.m_Box T.b_Box___init__ .nil pass0 (PDA.pa (c := ⟨W, F, H, fun _ _ => False⟩) (pda_cons (pd_var (pv 0)) (pda_cons (pd_var (pv 1)) (pda_cons (pd_var (pv 2)) (pda_cons (pd_var (pv 4)) pda_nil))))))))))))))))), ?_⟩
      refine ⟨F, _, ⟨fun _ => False, fun _ => False, fun _ => False, fun _ => False⟩, fun ρ' => ρ'[0]? = some (.fz (.int v)) ∧ ρ'[1]? = some (.fz (.int h)) ∧ ρ'[2]? = some (.fz (.int d0)) ∧ ρ'[4]? = some (.fz (.lst ((tgM ps).map mD))), ⟨G.rfl, slots_start d⟩, ⟨fun _ _ _ _ z => z.elim, fun _ _ _ _ z => z.elim, fun _ _ _ _ z => z.elim, fun _ _ _ _ z => z.elim⟩, fun ρ' σ' F' H' z s a => ?_, ?_⟩
      · refine ⟨F', ρ', a, _, z.1, _, z.2.1, _, z.2.2.1, _, z.2.2.2, fun vs' F2 H2 f2 d2 => ?_⟩
        refine make_new (b := ⟨v, h, d0, tgM ps⟩) f2.good d2 fun x a' dx us F3 H3 n => ?_
        exact q x a' dx us F3 H3 ⟨a.en.trans (f2.trans n.fr), entry_none (c := ⟨W, F, H, fun _ _ => False⟩) (a.en.trans f2) n.hx, entry_none (c := ⟨W, F, H, fun _ _ => False⟩) (a.en.trans f2) n.ha, n.fx, n.fa, n.ix, n.ia, n.dl⟩
      · refine ⟨_, rfl, v, _, rfl, hv, _, rfl, h, _, rfl, hh, _, rfl, d0, _, rfl, hd, _, rfl, ps, _, rfl, .inl rfl, hl, ho, ?_⟩
        refine ⟨Nat.zero_le _, ?_⟩
        refine ⟨(.lst (ps.map (pD T.C))), rfl, ps.map (pD T.C), rfl, ?_⟩
        refine loop_tog T.C _ _ _ _ _ _ ps [] _ _ _ ho (by simpa using hm) fun s5 s6 s7 => ?_
        exact ⟨_, rfl, rfl, rfl, rfl, rfl⟩
    · refine ⟨_, (PSsL.ps (c := ⟨W, F, H, fun _ _ => False⟩) (pssl_cons (psd_expr (pd_call (ok_check_signed T) mono_g_check_signed (hr.mono (by decide)) rfl T.m_check_signed T.F_check_signed.kp T.b_check_signed .nil (fun _ => .nil) pass0 EOk.no (pda_cons (pd_var (pv 0)) (pda_cons pd_str pda_nil)))) (pssl_cons (psd_expr (pd_call (ok_check_signed T) mono_g_check_signed (hr.mono (by decide)) rfl T.m_check_signed T.F_check_signed.kp T.b_check_signed .nil (fun _ => .nil) pass0 EOk.no (pda_cons (pd_var (pv 1)) (pda_cons pd_str pda_nil)))) (pssl_cons (psd_expr (pd_call (ok_check_signed T) mono_g_check_signed (hr.mono (by decide)) rfl T.m_check_signed T.F_check_signed.kp T.b_check_signed .nil (fun _ => .nil) pass0 EOk.no (pda_cons (pd_var (pv 2)) (pda_cons pd_str pda_nil)))) (pssl_cons (psd_expr (pd_call (ok_check_placed T) mono_g_check_placed (hr.mono (by decide)) rfl T.m_check_placed T.F_check_placed.kp T.b_check_placed .nil (fun _ => .nil) pass0 EOk.no (pda_cons (pd_var (pv 3)) pda_nil))) (pssl_cons (psd_newL (i := 4) sc_together.nd rfl (by first | exact Or.inl rfl | exact Or.inr rfl) pda_nil) (pssl_cons (psd_for PassesOwn.never rfl (pid_tup (pd_var (pv 3))) (pgd_tupK (K := K) rfl rfl (pgds_cons (pgd_name (i := 5) sc_together.nd rfl (by first | exact Or.inl rfl | exact Or.inr rfl)) (pgds_cons (pgd_name (i := 6) sc_together.nd rfl (by first | exact Or.inl rfl | exact Or.inr rfl)) (pgds_cons (pgd_name (i := 7) sc_together.nd rfl (by first | exact Or.inl rfl | exact Or.inr rfl)) pgds_nil))) (setCons_len (setCons_len (setCons_len set0)))) (pssd_one (psd_extend (pv 4) (pd_call (ok_marks_moved T) mono_g_marks_moved (hr.mono (by decide)) rfl T.m_marks_moved T.F_marks_moved.kp T.b_marks_moved .nil (fun _ => .nil) pass0 EOk.no (pda_cons (pd_var (pv 5)) (pda_cons (pd_var (pv 6)) (pda_cons (pd_var (pv 7)) pda_nil))))))) (pssl_keep 4 (pssl_last (pss_one (ps_ret (pe_make (E := E0) T.mk_Box (ok_init T) (hr.mono (by decide)) rfl T.m_Box T.b_Box___init__ .nil pass0 (PDA.pa (c := ⟨W, F, H, fun _ _ => False⟩) (pda_cons (pd_var (pv 0)) (pda_cons (pd_var (pv 1)) (pda_cons (pd_var (pv 2)) (pda_cons (pd_var (pv 4)) pda_nil))))))))))))))))), ?_⟩
      refine ⟨F, _, ⟨fun _ => False, fun _ => False, fun _ => False, fun _ => False⟩, fun ρ' => ρ'[0]? = some (.fz (.int v)) ∧ ρ'[1]? = some (.fz (.int h)) ∧ ρ'[2]? = some (.fz (.int d0)) ∧ ρ'[4]? = some (.fz (.lst ((tgM ps).map mD))), ⟨G.rfl, slots_start d⟩, ⟨fun _ _ _ _ z => z.elim, fun _ _ _ _ z => z.elim, fun _ _ _ _ z => z.elim, fun _ _ _ _ z => z.elim⟩, fun ρ' σ' F' H' z s a => ?_, ?_⟩
      · refine ⟨F', ρ', a, _, z.1, _, z.2.1, _, z.2.2.1, _, z.2.2.2, fun vs' F2 H2 f2 d2 => ?_⟩
        refine make_new (b := ⟨v, h, d0, tgM ps⟩) f2.good d2 fun x a' dx us F3 H3 n => ?_
        exact q x a' dx us F3 H3 ⟨a.en.trans (f2.trans n.fr), entry_none (c := ⟨W, F, H, fun _ _ => False⟩) (a.en.trans f2) n.hx, entry_none (c := ⟨W, F, H, fun _ _ => False⟩) (a.en.trans f2) n.ha, n.fx, n.fa, n.ix, n.ia, n.dl⟩
      · refine ⟨_, rfl, v, _, rfl, hv, _, rfl, h, _, rfl, hh, _, rfl, d0, _, rfl, hd, _, rfl, ps, _, rfl, .inr rfl, hl, ho, ?_⟩
        refine ⟨Nat.zero_le _, ?_⟩
        refine ⟨(.tup (ps.map (pD T.C))), rfl, ps.map (pD T.C), rfl, ?_⟩
        refine loop_tog T.C _ _ _ _ _ _ ps [] _ _ _ ho (by simpa using hm) fun s5 s6 s7 => ?_
        exact ⟨_, rfl, rfl, rfl, rfl, rfl⟩
end
end K8
set_option Elab.async false
set_option linter.all false
set_option maxRecDepth 100000
set_option maxHeartbeats 4000000
set_option autoImplicit false
namespace K8
open PySem PySem.Spec PyProof.Rows L2 DL
open Classical in
noncomputable def fBoxEq (C : Addr) (ds : List D) : Option D := if ∃ b, ds = [bD C b, bD C b] ∧ D.finL (b.ms.map mD) = true ∧ D.depL (b.ms.map mD) ≤ 60 then some (.bl true) else none
theorem fBoxEq_of {C : Addr} {b : B} (h : D.finL (b.ms.map mD) = true) (hd : D.depL (b.ms.map mD) ≤ 60) : fBoxEq C [bD C b, bD C b] = some (.bl true) := if_pos ⟨b, rfl, h, hd⟩
section
variable {P : Program} {w : World} {K : PySem.W.Frag} {mg : Str → Option Value} {base : Heap}
theorem ok_Box___eq__ (T : Txt K mg) : FnOk P w K mg base CX0 1 T.a_Box___eq__ T.fd_Box___eq__ ["self", "other"] (spX K (gF (fBoxEq T.C))) := by
  refine okD T.F_Box___eq__ sc_Box___eq__ (fun W ds P h => ?_) (fun cdv A outer s H E W F0 hr => ⟨_, (pssd_one (psd_ret (pd_and (pd_callB (C8.call_isC T.is_Box) serves_isC mono_fIsC rfl T.z_isinstance (by decide +kernel) (pda_cons (pd_var (pv 1)) (pda_cons (pd_gref rfl T.m_Box) pda_nil))) (pd_and (pd_cmp (op_eqD (hu64 hr)) serves_eq mono_fEq (pd_fld T.cl_Box T.n_Box_width (pd_var (pv 0))) (pd_fld T.cl_Box T.n_Box_width (pd_var (pv 1))) (nobehind _ (by decide) (by decide))) (pd_and (pd_cmp (op_eqD (hu64 hr)) serves_eq mono_fEq (pd_fld T.cl_Box T.n_Box_height (pd_var (pv 0))) (pd_fld T.cl_Box T.n_Box_height (pd_var (pv 1))) (nobehind _ (by decide) (by decide))) (pd_and (pd_cmp (op_eqD (hu64 hr)) serves_eq mono_fEq (pd_fld T.cl_Box T.n_Box_depth (pd_var (pv 0))) (pd_fld T.cl_Box T.n_Box_depth (pd_var (pv 1))) (nobehind _ (by decide) (by decide))) (pd_one (pd_cmp (op_eqD (hu64 hr)) serves_eq mono_fEq (pd_fld T.cl_Box T.n_Box_marks (pd_var (pv 0))) (pd_fld T.cl_Box T.n_Box_marks (pd_var (pv 1))) (nobehind _ (by decide) (by decide)))))))))), fun ds Pd h => ?_⟩)
  · obtain ⟨d, e, _⟩ := h
    unfold fBoxEq at e
    split at e
    · rename_i h
      obtain ⟨b, rfl, _⟩ := h
      rfl
    · cases e
  · obtain ⟨d, e, p⟩ := h
    unfold fBoxEq at e
    split at e
    · rename_i h
      obtain ⟨b, rfl, hf, hd⟩ := h
      cases e
      simp [dFld_eq, fIsC_bD, eF_w, eF_h, eF_d, eF_m]
      refine fEq_same (by simpa [D.fin] using hf) (by simp only [D.dep]; omega) ?_
      exact p
    · cases e
end
end K8
set_option Elab.async false
set_option linter.all false
set_option maxRecDepth 100000
set_option maxHeartbeats 4000000
set_option autoImplicit false
namespace K8
open PySem PySem.Spec PyProof.Rows L2 DL
def g__law_mix : GX := lift0 fun _ ds P => ∃ i j, ds = [.int i, .int j] ∧ ∀ n, P (.int n)
theorem mono_g__law_mix : MonoX g__law_mix := mono0 fun _ _ _ _ m ⟨i, j, e, p⟩ => ⟨i, j, e, fun n => m _ (p n)⟩
def g__law_draw : GX := lift0 fun W ds P => ∃ wa many, ds = [.adr wa, .int many] ∧ W = some wa ∧ 0 < many ∧ many < 2 ^ 30 ∧ ∀ n, 0 ≤ n → n < many → P (.int n)
theorem mono_g__law_draw : MonoX g__law_draw := mono0 fun _ _ _ _ m ⟨a, k, e, h1, h2, h3, p⟩ => ⟨a, k, e, h1, h2, h3, fun n a b => m _ (p n a b)⟩
theorem well_upd {W : Option Addr} {F H : Hp} {wa : Addr} {i j k : Int} (G : DL.Good W F H) (hw : W = some wa) : DL.Fr W F H F (upd H wa (.lst [.int i, .int j, .int k])) := by
  obtain ⟨n, _⟩ := G.well wa hw
  refine ⟨fun y o e => ?_, Same.refl F, fun y o e h => ?_, fun y o e => .inl e, fun y hy => ?_⟩
  · have : y ≠ wa := fun z => by rw [z, n] at e; cases e
    rw [upd_ne this]
    exact G.sub _ _ e
  · have : y ≠ wa := fun z => h (by rw [hw, z])
    rw [upd_ne this]
    exact e
  · rw [hw] at hy
    cases hy
    exact ⟨n, i, j, k, upd_same⟩
theorem weak {W : Option Addr} {F H F' H' : Hp} (G : DL.Good W F H) (f : DL.Fr none (fun _ => none) H F' H') : DL.Fr W F H F H' := by
  have kp : ∀ y o, H y = some o → H' y = some o := fun y o e => f.keep y o e (fun z => nomatch z)
  refine ⟨fun y o e => kp _ _ (G.sub _ _ e), Same.refl F, fun y o e _ => kp _ _ e, fun y o e => .inl e, fun y hy => ?_⟩
  obtain ⟨n, i, j, k, e⟩ := G.well y hy
  exact ⟨n, i, j, k, kp _ _ e⟩
theorem modOk {a n b : Int} (h : 0 < n) (h2 : n < 2 ^ 64) : PySem.IntMulOk (a % n) b := mulOk_left (by have := Int.emod_nonneg a (show n ≠ 0 by omega); omega) (by have := Int.emod_lt_of_pos a h; omega)
theorem good0 {H : Hp} : DL.Good none (fun _ => none) H := ⟨fun _ _ e => (nomatch e), fun _ e => (nomatch e)⟩
section
variable {P : Program} {w : World} {K : PySem.W.Frag} {mg : Str → Option Value} {base : Heap}
theorem ok__law_mix (T : Txt K mg) : FnOk P w K mg base CX0 1 T.a__law_mix T.fd__law_mix ["cell", "lap"] (spX K g__law_mix) := by
  refine okD T.F__law_mix sc__law_mix (fun W ds P h => ?_) (fun cdv A outer s H E W F0 hr => ⟨_, (pssd_cons (psd_set (i := 2) sc__law_mix.nd rfl (by first | exact Or.inl rfl | exact Or.inr rfl) (pd_add (pd_add (pd_add (pd_mod (pd_callTy call_int1 serves_int mono_fInt rfl T.z_int (by decide +kernel) (pda_cons (pd_var (pv 0)) pda_nil)) pd_int) (pd_mulA pd_int (pd_var (pv 1)))) (pd_mod (pd_callTy call_int1 serves_int mono_fInt rfl T.z_int (by decide +kernel) (pda_cons (pd_fdiv (pd_var (pv 0)) pd_int) pda_nil)) pd_int)) pd_int)) (pssd_cons (psd_set (i := 2) sc__law_mix.nd rfl (by first | exact Or.inl rfl | exact Or.inr rfl) (pd_mod (pd_callTy call_int1 serves_int mono_fInt rfl T.z_int (by decide +kernel) (pda_cons (pd_mulA (pd_var (pv 2)) pd_int) pda_nil)) pd_int)) (pssd_cons (psd_set (i := 2) sc__law_mix.nd rfl (by first | exact Or.inl rfl | exact Or.inr rfl) (pd_mod (pd_callTy call_int1 serves_int mono_fInt rfl T.z_int (by decide +kernel) (pda_cons (pd_mulA (pd_var (pv 2)) (pd_add (pd_add (pd_fdiv (pd_var (pv 2)) pd_int) pd_int) (pd_var (pv 1)))) pda_nil)) pd_int)) (pssd_one (psd_ret (pd_mod (pd_callTy call_int1 serves_int mono_fInt rfl T.z_int (by decide +kernel) (pda_cons (pd_mulA (pd_var (pv 2)) (pd_add (pd_fdiv (pd_var (pv 2)) pd_int) pd_int)) pda_nil)) pd_int)))))), fun ds Pd h => ?_⟩)
  · obtain ⟨i, j, rfl, _⟩ := h; rfl
  · obtain ⟨i, j, rfl, p⟩ := h
    simp
    exact ⟨mulOk_left (by decide) (by decide), ⟨by decide, by decide +kernel⟩, mulOk_right (by decide) (by decide), ⟨by decide, by decide +kernel⟩, modOk (by decide) (by decide), ⟨by decide, by decide +kernel⟩, modOk (by decide) (by decide), p _⟩
theorem ok__law_draw (T : Txt K mg) : FnOk P w K mg base CX0 2 T.a__law_draw T.fd__law_draw ["well", "many"] (spX K g__law_draw) := by
  refine T.F__law_draw.ok sc__law_draw (fun vs H Q E h => ?_) (fun cdv A outer s H vs Q E hr h => ?_)
  · obtain ⟨W, F, ds, _, d, wa, many, rfl, _⟩ := h
    rw [d.length]
    rfl
  · obtain ⟨W, F, ds, G, d, wa, many, rfl, hw, h0, h30, q⟩ := h
    obtain ⟨v1, v2, rfl, d1, d2⟩ := datL2 d
    cases d1
    cases d2
    obtain ⟨nF, i, j, l, hH⟩ := G.well wa hw
    refine ⟨_, pss_cons (ps_if (pt_cmpR op_gt (pe_ix ix_list (pv 0) pe_int (fun _ _ => rfl)) pe_int (nomark _))
        (pss_cons (ps_set (i := 2) sc__law_draw.nd rfl (Or.inl rfl) (pe_op op_mod (pe_callTy call_int1 rfl T.z_int (by decide +kernel) (pa_cons (pe_ix ix_list (pv 0) pe_int (fun _ _ => rfl)) pa_nil)) (pv 1)))
          (pss_cons (ps_asg (pe_op op_fdivW (pe_ix ix_list (pv 0) pe_int (fun _ _ => rfl)) (pv 1)) (pg_sub (pv 0) pe_int set_list)) (pss_one (ps_ret (pv 2))))) pss_nil)
      (pss_cons (ps_asg (pe_op op_add (pe_ix ix_list (pv 0) pe_int (fun _ _ => rfl)) pe_int) (pg_sub (pv 0) pe_int set_list))
        (pss_one (ps_ret (pe_op op_mod (pe_callTy call_int1 rfl T.z_int (by decide +kernel) (pa_cons (pe_call (E := E0) (ok__law_mix T) (hr.mono (by decide)) rfl T.m__law_mix T.F__law_mix.kp T.b__law_mix .nil pass0 (pa_cons (pe_ix ix_list (pv 0) pe_int (fun _ _ => rfl)) (pa_cons (pe_ix ix_list (pv 0) pe_int (fun _ _ => rfl)) pa_nil))) pa_nil)) (pv 1))))), ?_⟩
    refine ⟨_, rfl, wa, _, 0, .int i, rfl, rfl, .of hH, rfl, i, 0, rfl, rfl, _, rfl, ?_⟩
    refine ite2 (fun hg => ?_) (fun hg => ?_)
    · refine ⟨_, rfl, wa, _, 0, .int i, rfl, rfl, .of hH, rfl, .inl ⟨i, rfl, _, rfl, i, many, rfl, rfl, h0, ?_⟩⟩
      refine ⟨_, rfl, wa, _, 0, .int i, rfl, rfl, .of hH, rfl, _, rfl, i, many, rfl, rfl, wide_div h0 (b := 30) (by omega) (by decide) (by decide), _, rfl, wa, _, 0, 0, rfl, rfl, hH, rfl, ?_⟩
      exact ⟨_, rfl, q (i % many) (Int.emod_nonneg _ (by omega)) (Int.emod_lt_of_pos _ h0) _ F _ (well_upd G hw) (.int _)⟩
    · refine ⟨_, rfl, wa, _, 2, .int l, rfl, rfl, .of hH, rfl, l, 1, rfl, rfl, _, rfl, wa, _, 2, 2, rfl, rfl, hH, rfl, ?_⟩
      refine ⟨_, rfl, wa, _, 1, .int j, rfl, rfl, .of upd_same, rfl, _, rfl, wa, _, 2, .int (l + 1), rfl, rfl, .of upd_same, rfl, ?_⟩
      refine ⟨none, fun _ => none, [.int j, .int (l + 1)], good0, .cons (.int _) (.cons (.int _) .nil), j, l + 1, rfl, fun n v F' H' f dv => ?_⟩
      cases dv
      exact .inl ⟨n, rfl, _, rfl, n, many, rfl, rfl, h0, q (n % many) (Int.emod_nonneg _ (by omega)) (Int.emod_lt_of_pos _ h0) _ F H' ((well_upd G hw).trans (weak (well_upd G hw).good f)) (.int _)⟩
end
end K8
set_option Elab.async false
set_option linter.all false
set_option maxRecDepth 100000
set_option maxHeartbeats 4000000
set_option autoImplicit false
namespace K8
open PySem PySem.Spec PyProof.Rows L2 DL
def num (n : Int) : Prop := -(10 ^ 40) ≤ n ∧ n ≤ 10 ^ 40
def spots (sp : List Int) : Prop := sp.length ≤ 3 ∧ ∀ i ∈ sp, 0 ≤ i ∧ i < 3
def lawMark (m : D) : Prop := (∃ sp a b, m = .tup [.str "rule", .tup (sp.map D.int), .int a, .int b] ∧ spots sp ∧ num a ∧ num b) ∨
  ∃ sp f s n, m = .tup [.str "glyph", .tup (sp.map D.int), .int f, .int s, .str n] ∧ spots sp ∧ 0 ≤ f ∧ f < 4 ∧ 0 ≤ s ∧ s < 3 ∧ n ∈ (["x", "y", "sum"] : List Str)
def lawT (t : M3) : Prop := num t.1 ∧ num t.2.1 ∧ lawMark t.2.2
def lawB (b : B) : Prop := num b.w ∧ num b.h ∧ num b.d ∧ b.ms.length ≤ 3 ∧ ∀ t ∈ b.ms, lawT t
def g__law_pick : GX := lift0 fun W ds P => ∃ wa l, ds = [.adr wa, .lst l] ∧ W = some wa ∧ 0 < l.length ∧ l.length ≤ 1000 ∧ ∀ d ∈ l, P d
theorem mono_g__law_pick : MonoX g__law_pick := mono0 fun _ _ _ _ m ⟨a, k, e, h1, h2, h3, p⟩ => ⟨a, k, e, h1, h2, h3, fun n a => m _ (p n a)⟩
def g__law_number : GX := lift0 fun W ds P => ∃ wa, ds = [.adr wa] ∧ W = some wa ∧ ∀ n, num n → P (.int n)
theorem mono_g__law_number : MonoX g__law_number := mono0 fun _ _ _ _ m ⟨a, e, h, p⟩ => ⟨a, e, h, fun n a => m _ (p n a)⟩
def g__law_mark : GX := lift0 fun W ds P => ∃ wa, ds = [.adr wa] ∧ W = some wa ∧ ∀ n, lawMark n → P n
theorem mono_g__law_mark : MonoX g__law_mark := mono0 fun _ _ _ _ m ⟨a, e, h, p⟩ => ⟨a, e, h, fun n a => m _ (p n a)⟩
def g__law_marks : GX := lift0 fun W ds P => ∃ wa, ds = [.adr wa] ∧ W = some wa ∧ ∀ ms : List M3, ms.length ≤ 3 → (∀ t ∈ ms, lawT t) → P (.lst (ms.map mD))
theorem mono_g__law_marks : MonoX g__law_marks := mono0 fun _ _ _ _ m ⟨a, e, h, p⟩ => ⟨a, e, h, fun n a b => m _ (p n a b)⟩
def g__law_box (C : Addr) : GX := lift0 fun W ds P => ∃ wa, ds = [.adr wa] ∧ W = some wa ∧ ∀ b, lawB b → P (bD C b)
theorem mono_g__law_box {C : Addr} : MonoX (g__law_box C) := mono0 fun _ _ _ _ m ⟨a, e, h, p⟩ => ⟨a, e, h, fun n a => m _ (p n a)⟩
def allD (b : B) : D := .tup [.int b.w, .int b.h, .int b.d, .lst (b.ms.map mD)]
def g__law_all (C : Addr) : GX := lift0 fun _ ds P => ∃ b, ds = [bD C b] ∧ P (allD b)
theorem mono_g__law_all {C : Addr} : MonoX (g__law_all C) := mono0 fun _ _ _ _ m ⟨a, e, p⟩ => ⟨a, e, m _ p⟩
theorem ints_of : ∀ ys : List D, (∀ y ∈ ys, ∃ i, y = .int i ∧ 0 ≤ i ∧ i < 3) → ∃ sp : List Int, ys = sp.map D.int ∧ ∀ i ∈ sp, 0 ≤ i ∧ i < 3
  | [], _ => ⟨[], rfl, fun _ h => by cases h⟩
  | y :: r, h => by
    obtain ⟨i, rfl, hi⟩ := h y List.mem_cons_self
    obtain ⟨sp, rfl, hs⟩ := ints_of r fun z hz => h z (List.mem_cons_of_mem _ hz)
    exact ⟨i :: sp, rfl, fun j hj => by
      rcases List.mem_cons.mp hj with rfl | hj
      · exact hi
      · exact hs j hj⟩
theorem ms_of : ∀ ys : List D, (∀ y ∈ ys, ∃ t, y = mD t ∧ lawT t) → ∃ ms : List M3, ys = ms.map mD ∧ ∀ t ∈ ms, lawT t
  | [], _ => ⟨[], rfl, fun _ h => by cases h⟩
  | y :: r, h => by
    obtain ⟨t, rfl, hi⟩ := h y List.mem_cons_self
    obtain ⟨sp, rfl, hs⟩ := ms_of r fun z hz => h z (List.mem_cons_of_mem _ hz)
    exact ⟨t :: sp, rfl, fun j hj => by
      rcases List.mem_cons.mp hj with rfl | hj
      · exact hi
      · exact hs j hj⟩
section
variable {P : Program} {w : World} {K : PySem.W.Frag} {mg : Str → Option Value} {base : Heap}
theorem ok__law_pick (T : Txt K mg) : FnOk P w K mg base CX0 3 T.a__law_pick T.fd__law_pick ["well", "some"] (spX K g__law_pick) := by
  refine okD T.F__law_pick sc__law_pick (fun W ds P h => ?_) (fun cdv A outer s H E W F0 hr => ⟨_, (pssd_one (psd_ret (pd_item (pd_var (pv 1)) (pd_call (ok__law_draw T) mono_g__law_draw (hr.mono (by decide)) rfl T.m__law_draw T.F__law_draw.kp T.b__law_draw .nil (fun _ => .nil) pass0 EOk.no (pda_cons (pd_var (pv 0)) (pda_cons (pd_callB call_len serves_len mono_fLen rfl T.z_len (by decide +kernel) (pda_cons (pd_var (pv 1)) pda_nil)) pda_nil))) (fun _ _ => rfl)))), fun ds Pd h => ?_⟩)
  · obtain ⟨wa, l, rfl, _⟩ := h; rfl
  · obtain ⟨wa, l, rfl, hw, h0, h1, p⟩ := h
    simp
    refine ⟨wa, _, rfl, hw, by omega, by omega, fun n n0 n1 => ?_⟩
    have hn : n.toNat < l.length := by omega
    refine fIx_lst.mpr ⟨l[n.toNat], ?_, p _ (List.getElem_mem _)⟩
    have := atI_nat (xs := l) (j := n.toNat) (List.getElem?_eq_getElem hn)
    rwa [Int.toNat_of_nonneg n0] at this
theorem ok__law_number (T : Txt K mg) : FnOk P w K mg base CX0 4 T.a__law_number T.fd__law_number ["well"] (spX K g__law_number) := by
  refine okD T.F__law_number sc__law_number (fun W ds P h => ?_) (fun cdv A outer s H E W F0 hr => ⟨_, (pssd_one (psd_ret (pd_call (ok__law_pick T) mono_g__law_pick (hr.mono (by decide)) rfl T.m__law_pick T.F__law_pick.kp T.b__law_pick .nil (fun _ => .nil) pass0 EOk.no (pda_cons (pd_var (pv 0)) (pda_cons (pd_lst (pda_cons pd_int (pda_cons pd_int (pda_cons (pd_neg pd_int) (pda_cons pd_int (pda_cons (pd_neg pd_int) (pda_cons (pd_pow pd_int pd_int) (pda_cons (pd_neg (pd_pow pd_int pd_int)) (pda_cons (pd_call (ok__law_draw T) mono_g__law_draw (hr.mono (by decide)) rfl T.m__law_draw T.F__law_draw.kp T.b__law_draw .nil (fun _ => .nil) pass0 EOk.no (pda_cons (pd_var (pv 0)) (pda_cons pd_int pda_nil))) (pda_cons (pd_neg (pd_call (ok__law_draw T) mono_g__law_draw (hr.mono (by decide)) rfl T.m__law_draw T.F__law_draw.kp T.b__law_draw .nil (fun _ => .nil) pass0 EOk.no (pda_cons (pd_var (pv 0)) (pda_cons pd_int pda_nil)))) pda_nil)))))))))) pda_nil))))), fun ds Pd h => ?_⟩)
  · obtain ⟨wa, rfl, _⟩ := h; rfl
  · obtain ⟨wa, rfl, hw, p⟩ := h
    simp
    refine ⟨⟨by decide, by decide, by decide⟩, wa, 900, rfl, hw, by decide, by decide, fun n a b => ⟨wa, 90, rfl, hw, by decide, by decide, fun m c d => ?_⟩⟩
    show fNeg (.int m) _
    rw [fNeg_eval]
    refine ⟨wa, _, rfl, hw, by simp, by simp, fun d hd => ?_⟩
    simp at hd
    rcases hd with rfl | rfl | rfl | rfl | rfl | rfl | rfl | rfl | rfl <;> exact p _ ⟨by omega, by omega⟩
theorem ok__law_mark (T : Txt K mg) : FnOk P w K mg base CX0 5 T.a__law_mark T.fd__law_mark ["well"] (spX K g__law_mark) := by
  refine okD T.F__law_mark sc__law_mark (fun W ds P h => ?_) (fun cdv A outer s H E W F0 hr => ⟨_, (pssd_cons (psd_set (i := 1) sc__law_mark.nd rfl (by first | exact Or.inl rfl | exact Or.inr rfl) (pd_callTy call_tuple_of serves_tupOf mono_fTupOf rfl T.z_tuple (by decide +kernel) (pda_cons (pd_lc (own := [("turn", 2)]) rfl sc__law_mark.nd (pid_range rfl T.z_range (pd_call (ok__law_draw T) mono_g__law_draw (hr.mono (by decide)) rfl T.m__law_draw T.F__law_draw.kp T.b__law_draw .nil (fun _ => .nil) pass0 EOk.no (pda_cons (pd_var (pv 0)) (pda_cons pd_int pda_nil)))) (blkOk_by (N := sc__law_markN) (sc := defScope s__law_mark) (by decide +kernel)) (fun _ _ _ _ _ => pgd_name (i := 2) sc__law_mark.nd rfl (by first | exact Or.inl rfl | exact Or.inr rfl)) (by decide) (fun _ _ _ _ _ => ptd_nil) (fun _ _ _ _ _ => (pd_call (ok__law_draw T) mono_g__law_draw (hr.mono (by decide)) rfl T.m__law_draw T.F__law_draw.kp T.b__law_draw .nil (fun _ => .nil) pass0 EOk.no (pda_cons (pd_var (pv 0)) (pda_cons pd_int pda_nil))))) pda_nil))) (pssd_cons (psd_if (pdt_cmp (op_eqD (hu64 hr)) serves_eq mono_fEq (pd_call (ok__law_draw T) mono_g__law_draw (hr.mono (by decide)) rfl T.m__law_draw T.F__law_draw.kp T.b__law_draw .nil (fun _ => .nil) pass0 EOk.no (pda_cons (pd_var (pv 0)) (pda_cons pd_int pda_nil))) pd_int (nobehind _ (by decide) (by decide))) (pssd_one (psd_ret (pd_tup (pda_cons pd_str (pda_cons (pd_var (pv 1)) (pda_cons (pd_call (ok__law_number T) mono_g__law_number (hr.mono (by decide)) rfl T.m__law_number T.F__law_number.kp T.b__law_number .nil (fun _ => .nil) pass0 EOk.no (pda_cons (pd_var (pv 0)) pda_nil)) (pda_cons (pd_call (ok__law_number T) mono_g__law_number (hr.mono (by decide)) rfl T.m__law_number T.F__law_number.kp T.b__law_number .nil (fun _ => .nil) pass0 EOk.no (pda_cons (pd_var (pv 0)) pda_nil)) pda_nil))))))) pssd_nil) (pssd_one (psd_ret (pd_tup (pda_cons pd_str (pda_cons (pd_var (pv 1)) (pda_cons (pd_call (ok__law_draw T) mono_g__law_draw (hr.mono (by decide)) rfl T.m__law_draw T.F__law_draw.kp T.b__law_draw .nil (fun _ => .nil) pass0 EOk.no (pda_cons (pd_var (pv 0)) (pda_cons pd_int pda_nil))) (pda_cons (pd_call (ok__law_draw T) mono_g__law_draw (hr.mono (by decide)) rfl T.m__law_draw T.F__law_draw.kp T.b__law_draw .nil (fun _ => .nil) pass0 EOk.no (pda_cons (pd_var (pv 0)) (pda_cons pd_int pda_nil))) (pda_cons (pd_call (ok__law_pick T) mono_g__law_pick (hr.mono (by decide)) rfl T.m__law_pick T.F__law_pick.kp T.b__law_pick .nil (fun _ => .nil) pass0 EOk.no (pda_cons (pd_var (pv 0)) (pda_cons (pd_lst (pda_cons pd_str (pda_cons pd_str (pda_cons pd_str pda_nil)))) pda_nil))) pda_nil)))))))))), fun ds Pd h => ?_⟩)
  · obtain ⟨wa, rfl, _⟩ := h; rfl
  · obtain ⟨wa, rfl, hw, p⟩ := h
    refine ⟨_, rfl, wa, 4, rfl, hw, by decide, by decide, fun n n0 n4 => ⟨n, rfl, by omega, by omega, ?_, ?_⟩⟩
    · exact small1000 (by simp; omega)
    refine dComp_rel (fun d => ∃ i, d = .int i ∧ 0 ≤ i ∧ i < 3) _ (fun x hx Q q => ?_) [] _ fun ys hl hy => ?_
    · exact ⟨_, rfl, _, rfl, wa, 3, rfl, hw, by decide, by decide, fun i i0 i3 => q _ ⟨i, rfl, i0, i3⟩⟩
    obtain ⟨sp, rfl, hs⟩ := ints_of ys hy
    have hsp : spots sp := ⟨by simp at hl; omega, hs⟩
    rw [List.nil_append]
    refine ⟨sp.map D.int, .inl ⟨rfl, ?_⟩⟩
    refine ⟨_, rfl, wa, 3, rfl, hw, by decide, by decide, fun k k0 k3 => ?_⟩
    dsimp only [dC]
    rw [fEq_int]
    refine ⟨_, rfl, ?_⟩
    split
    · exact ⟨_, rfl, _, rfl, wa, rfl, hw, fun a ha => ⟨_, rfl, wa, rfl, hw, fun b hb => ⟨by simp, p _ (.inl ⟨sp, a, b, rfl, hsp, ha, hb⟩)⟩⟩⟩
    · refine ⟨_, rfl, _, rfl, wa, 4, rfl, hw, by decide, by decide, fun f f0 f4 => ⟨_, rfl, wa, 3, rfl, hw, by decide, by decide, fun z z0 z3 => ⟨_, rfl, by simp, wa, _, rfl, hw, by simp, by simp, fun d hd => ?_⟩⟩⟩
      have key : ∀ n : Str, n ∈ (["x", "y", "sum"] : List Str) → D.str n = d → ([D.str (Str.ofString "glyph"), D.tup (sp.map D.int), D.int f, D.int z, d] : List D).length ≤ 1000 ∧ Pd (.tup [D.str (Str.ofString "glyph"), D.tup (sp.map D.int), D.int f, D.int z, d]) := fun n hn e => by
        subst e
        exact ⟨by simp, p _ (.inr ⟨sp, f, z, n, rfl, hsp, f0, f4, z0, z3, hn⟩)⟩
      simp only [List.mem_cons, List.not_mem_nil, or_false] at hd
      rcases hd with rfl | rfl | rfl
      · exact key _ (by simp) rfl
      · exact key _ (by simp) rfl
      · exact key _ (by simp) rfl
theorem ok__law_marks (T : Txt K mg) : FnOk P w K mg base CX0 6 T.a__law_marks T.fd__law_marks ["well"] (spX K g__law_marks) := by
  refine okD T.F__law_marks sc__law_marks (fun W ds P h => ?_) (fun cdv A outer s H E W F0 hr => ⟨_, (pssd_one (psd_ret (pd_lc (own := [("turn", 1)]) rfl sc__law_marks.nd (pid_range rfl T.z_range (pd_call (ok__law_draw T) mono_g__law_draw (hr.mono (by decide)) rfl T.m__law_draw T.F__law_draw.kp T.b__law_draw .nil (fun _ => .nil) pass0 EOk.no (pda_cons (pd_var (pv 0)) (pda_cons pd_int pda_nil)))) (blkOk_by (N := sc__law_marksN) (sc := defScope s__law_marks) (by decide +kernel)) (fun _ _ _ _ _ => pgd_name (i := 1) sc__law_marks.nd rfl (by first | exact Or.inl rfl | exact Or.inr rfl)) (by decide) (fun _ _ _ _ _ => ptd_nil) (fun _ _ _ _ _ => (pd_tup (pda_cons (pd_call (ok__law_number T) mono_g__law_number (hr.mono (by decide)) rfl T.m__law_number T.F__law_number.kp T.b__law_number .nil (fun _ => .nil) pass0 EOk.no (pda_cons (pd_var (pv 0)) pda_nil)) (pda_cons (pd_call (ok__law_number T) mono_g__law_number (hr.mono (by decide)) rfl T.m__law_number T.F__law_number.kp T.b__law_number .nil (fun _ => .nil) pass0 EOk.no (pda_cons (pd_var (pv 0)) pda_nil)) (pda_cons (pd_call (ok__law_mark T) mono_g__law_mark (hr.mono (by decide)) rfl T.m__law_mark T.F__law_mark.kp T.b__law_mark .nil (fun _ => .nil) pass0 EOk.no (pda_cons (pd_var (pv 0)) pda_nil)) pda_nil)))))))), fun ds Pd h => ?_⟩)
  · obtain ⟨wa, rfl, _⟩ := h; rfl
  · obtain ⟨wa, rfl, hw, p⟩ := h
    refine ⟨_, rfl, wa, 4, rfl, hw, by decide, by decide, fun n n0 n4 => ⟨n, rfl, by omega, by omega, ?_, ?_⟩⟩
    · exact small1000 (by simp; omega)
    refine dComp_rel (fun d => ∃ t, d = mD t ∧ lawT t) _ (fun x hx Q q => ?_) [] _ fun ys hl hy => ?_
    · exact ⟨_, rfl, _, rfl, wa, rfl, hw, fun a ha => ⟨_, rfl, wa, rfl, hw, fun b hb => ⟨_, rfl, wa, rfl, hw, fun m hm => ⟨by simp, q _ ⟨(a, b, m), rfl, ha, hb, hm⟩⟩⟩⟩⟩
    obtain ⟨ms, rfl, hs⟩ := ms_of ys hy
    rw [List.nil_append]
    exact p ms (by simp at hl; omega) hs
theorem ok__law_box (T : Txt K mg) : FnOk P w K mg base CX0 7 T.a__law_box T.fd__law_box ["well"] (spX K (g__law_box T.C)) := by
  refine okD T.F__law_box sc__law_box (fun W ds P h => ?_) (fun cdv A outer s H E W F0 hr => ⟨_, (pssd_one (psd_ret (pd_make T.mk_Box (ok_init T) (hr.mono (by decide)) rfl T.m_Box T.b_Box___init__ (pda_cons (pd_call (ok__law_number T) mono_g__law_number (hr.mono (by decide)) rfl T.m__law_number T.F__law_number.kp T.b__law_number .nil (fun _ => .nil) pass0 EOk.no (pda_cons (pd_var (pv 0)) pda_nil)) (pda_cons (pd_call (ok__law_number T) mono_g__law_number (hr.mono (by decide)) rfl T.m__law_number T.F__law_number.kp T.b__law_number .nil (fun _ => .nil) pass0 EOk.no (pda_cons (pd_var (pv 0)) pda_nil)) (pda_cons (pd_call (ok__law_number T) mono_g__law_number (hr.mono (by decide)) rfl T.m__law_number T.F__law_number.kp T.b__law_number .nil (fun _ => .nil) pass0 EOk.no (pda_cons (pd_var (pv 0)) pda_nil)) (pda_cons (pd_call (ok__law_marks T) mono_g__law_marks (hr.mono (by decide)) rfl T.m__law_marks T.F__law_marks.kp T.b__law_marks .nil (fun _ => .nil) pass0 EOk.no (pda_cons (pd_var (pv 0)) pda_nil)) pda_nil))))))), fun ds Pd h => ?_⟩)
  · obtain ⟨wa, rfl, _⟩ := h; rfl
  · obtain ⟨wa, rfl, hw, p⟩ := h
    refine ⟨_, rfl, wa, rfl, hw, fun a ha => ⟨_, rfl, wa, rfl, hw, fun b hb => ⟨_, rfl, wa, rfl, hw, fun m hm => ⟨_, rfl, wa, rfl, hw, fun ms hl hs => ?_⟩⟩⟩⟩
    exact ⟨⟨a, b, m, ms⟩, rfl, p _ ⟨ha, hb, hm, hl, hs⟩⟩
theorem ok__law_all (T : Txt K mg) : FnOk P w K mg base CX0 1 T.a__law_all T.fd__law_all ["one"] (spX K (g__law_all T.C)) := by
  refine okD T.F__law_all sc__law_all (fun W ds P h => ?_) (fun cdv A outer s H E W F0 hr => ⟨_, (pssd_one (psd_ret (pd_tup (pda_cons (pd_fld T.cl_Box T.n_Box_width (pd_var (pv 0))) (pda_cons (pd_fld T.cl_Box T.n_Box_height (pd_var (pv 0))) (pda_cons (pd_fld T.cl_Box T.n_Box_depth (pd_var (pv 0))) (pda_cons (pd_fld T.cl_Box T.n_Box_marks (pd_var (pv 0))) pda_nil))))))), fun ds Pd h => ?_⟩)
  · obtain ⟨b, rfl, _⟩ := h; rfl
  · obtain ⟨b, rfl, p⟩ := h
    simp [dFld_eq, eF_w, eF_h, eF_d, eF_m]
    exact p
end
end K8
set_option Elab.async false
set_option linter.all false
set_option maxRecDepth 100000
set_option maxHeartbeats 4000000
set_option autoImplicit false
namespace K8
open PySem PySem.Spec PyProof.Rows L2 DL
def big (n : Int) : Prop := -(10 ^ 50) ≤ n ∧ n ≤ 10 ^ 50
def bigT (t : M3) : Prop := big t.1 ∧ big t.2.1 ∧ lawMark t.2.2
def bigB (b : B) : Prop := big b.w ∧ big b.h ∧ big b.d ∧ b.ms.length ≤ 1000 ∧ ∀ t ∈ b.ms, bigT t
theorem num_big {n : Int} (h : num n) : big n := ⟨by have := h.1; omega, by have := h.2; omega⟩
theorem fin_int {n : Int} (h : big n) : (D.int n).fin = true := by
  simp only [D.fin, Bool.and_eq_true, decide_eq_true_eq]
  exact h
theorem sg_big {n : Int} (h : big n) : sg (.int n) = true := by
  have h1 := h.1
  have h2 := h.2
  simp only [btw, Bool.and_eq_true, decide_eq_true_eq]
  constructor
  · show -(10 ^ 60) ≤ n
    omega
  · show n ≤ 10 ^ 60
    omega
theorem small_big {n : Int} (h1 : 0 ≤ n) (h2 : n < 100) : big n := ⟨by omega, by omega⟩
theorem spots_fin {sp : List Int} (h : spots sp) : D.finL (sp.map D.int) = true := finL_all.mpr fun x hx => by
  obtain ⟨i, hi, rfl⟩ := List.mem_map.mp hx
  exact fin_int (small_big (h.2 i hi).1 (by have := (h.2 i hi).2; omega))
theorem spots_wt {sp : List Int} (h : spots sp) : D.wtL (sp.map D.int) ≤ 573 := by
  refine Nat.le_trans (wtL_le (n := 190) fun x hx => ?_) ?_
  · obtain ⟨i, hi, rfl⟩ := List.mem_map.mp hx
    exact Nat.le_refl _
  · have := h.1
    simp only [List.length_map]
    omega
theorem spots_dep {sp : List Int} : D.depL (sp.map D.int) ≤ 0 := depL_le fun x hx => by
  obtain ⟨i, hi, rfl⟩ := List.mem_map.mp hx
  exact Nat.le_refl _
theorem spots_path {sp : List Int} (h : spots sp) : pathOk (.tup (sp.map D.int)) = true := by
  simp only [pathOk, List.all_eq_true]
  intro x hx
  obtain ⟨i, hi, rfl⟩ := List.mem_map.mp hx
  simpa [step0] using (h.2 i hi).1
theorem spots_deep {sp : List Int} : deepL (sp.map D.int) = true := by
  induction sp with
  | nil => rfl
  | cons i r ih => simp [deepL, deep, ih]
structure MF (m : D) : Prop where
  fin : m.fin = true
  wt : m.wt ≤ 1100
  dep : m.dep ≤ 2
  deep : deep m = true
  ok : (glyphMark m || ruleMark m) = true
theorem strs3 : ∀ n ∈ (["x", "y", "sum"] : List Str), (D.str n).fin = true ∧ isName (.str n) = true ∧ n.length ≤ 1000 := by decide +kernel
theorem mf_of {m : D} (h : lawMark m) : MF m := by
  rcases h with ⟨sp, a, b, rfl, hs, ha, hb⟩ | ⟨sp, f, s, n, rfl, hs, f0, f4, s0, s3, hn⟩
  · have h1 := fin_int (num_big ha)
    have h2 := fin_int (num_big hb)
    have h3 := spots_fin hs
    have h4 := spots_wt hs
    have h5 := spots_dep (sp := sp)
    have hl := hs.1
    have e1 : (D.str "rule").fin = true := by decide +kernel
    have e2 : ("rule" : Str).length ≤ 1000 := by decide +kernel
    have e3 : wordIn (D.str "rule") ["rule"] = true := by decide +kernel
    refine ⟨?_, ?_, ?_, ?_, ?_⟩
    · rw [D.fin]
      simp only [D.finL, Bool.and_eq_true]
      exact ⟨e1, by rw [D.fin]; exact h3, h1, h2, trivial⟩
    · simp only [D.wt, D.wtL]
      omega
    · simp only [D.dep, D.depL]
      omega
    · simp [deep, deepL, e2, spots_deep]
      omega
    · simp [ruleMark, e3, spots_path hs, sg_big (num_big ha), sg_big (num_big hb)]
  · obtain ⟨n1, n2, n3⟩ := strs3 n hn
    have h1 := fin_int (small_big f0 (by omega))
    have h2 := fin_int (small_big s0 (by omega))
    have h3 := spots_fin hs
    have h4 := spots_wt hs
    have h5 := spots_dep (sp := sp)
    have hl := hs.1
    have e1 : (D.str "glyph").fin = true := by decide +kernel
    have e2 : ("glyph" : Str).length ≤ 1000 := by decide +kernel
    have e3 : wordIn (D.str "glyph") ["glyph"] = true := by decide +kernel
    refine ⟨?_, ?_, ?_, ?_, ?_⟩
    · rw [D.fin]
      simp only [D.finL, Bool.and_eq_true]
      exact ⟨e1, by rw [D.fin]; exact h3, h1, h2, n1, trivial⟩
    · simp only [D.wt, D.wtL]
      omega
    · simp only [D.dep, D.depL]
      omega
    · simp [deep, deepL, e2, n3, spots_deep]
      omega
    · have b1 : btw 0 3 (.int f) = true := by simp [btw]; omega
      have b2 : btw 0 2 (.int s) = true := by simp [btw]; omega
      simp [glyphMark, e3, spots_path hs, b1, b2, n2]
theorem mt_fin {t : M3} (h : bigT t) : (mD t).fin = true := by
  have m := mf_of h.2.2
  rw [mD, D.fin]
  simp only [D.finL, Bool.and_eq_true]
  exact ⟨fin_int h.1, fin_int h.2.1, m.fin, trivial⟩
theorem mt_wt {t : M3} (h : bigT t) : (mD t).wt ≤ 1500 := by
  have m := (mf_of h.2.2).wt
  simp only [mD, D.wt, D.wtL]
  omega
theorem mt_dep {t : M3} (h : bigT t) : (mD t).dep ≤ 3 := by
  have m := (mf_of h.2.2).dep
  simp only [mD, D.dep, D.depL]
  omega
theorem mt_ok {t : M3} (h : bigT t) : okM t = true := by
  have m := mf_of h.2.2
  have a := sg_big h.1
  have b := sg_big h.2.1
  have c := m.ok
  simp only [okM, mD, Bool.and_eq_true]
  refine ⟨by simp [deep, deepL, m.deep], ?_⟩
  simp only [placedMark]
  rw [a, b, c]
  rfl
theorem ms_fin {ms : List M3} (h : ∀ t ∈ ms, bigT t) : D.finL (ms.map mD) = true := finL_all.mpr fun x hx => by
  obtain ⟨t, ht, rfl⟩ := List.mem_map.mp hx
  exact mt_fin (h t ht)
theorem ms_dep {ms : List M3} (h : ∀ t ∈ ms, bigT t) : D.depL (ms.map mD) ≤ 3 := depL_le fun x hx => by
  obtain ⟨t, ht, rfl⟩ := List.mem_map.mp hx
  exact mt_dep (h t ht)
theorem ms_wt {ms : List M3} (h : ∀ t ∈ ms, bigT t) : D.wtL (ms.map mD) ≤ ms.length * 1501 := by
  refine Nat.le_trans (wtL_le (n := 1500) fun x hx => ?_) (by rw [List.length_map]; exact Nat.le_refl _)
  obtain ⟨t, ht, rfl⟩ := List.mem_map.mp hx
  exact mt_wt (h t ht)
theorem okB_big {b : B} (h : bigB b) : okB b = true := by
  obtain ⟨h1, h2, h3, h4, h5⟩ := h
  simp only [okB, Bool.and_eq_true, decide_eq_true_eq, List.all_eq_true]
  exact ⟨⟨⟨⟨sg_big h1, sg_big h2⟩, sg_big h3⟩, h4⟩, fun t ht => mt_ok (h5 t ht)⟩
theorem all_fin {b : B} (h : bigB b) : (allD b).fin = true := by
  obtain ⟨h1, h2, h3, h4, h5⟩ := h
  rw [allD, D.fin]
  simp only [D.finL, Bool.and_eq_true]
  exact ⟨fin_int h1, fin_int h2, fin_int h3, by rw [D.fin]; exact ms_fin h5, trivial⟩
theorem all_dep {b : B} (h : bigB b) : (allD b).dep ≤ 5 := by
  have := ms_dep h.2.2.2.2
  simp only [allD, D.dep, D.depL]
  omega
theorem all_wt {b : B} (h : bigB b) (hl : b.ms.length ≤ 3) : (allD b).wt ≤ 8000 := by
  have := ms_wt h.2.2.2.2
  simp only [allD, D.wt, D.wtL]
  omega
theorem law_big {b : B} (h : lawB b) : bigB b := ⟨num_big h.1, num_big h.2.1, num_big h.2.2.1, by have := h.2.2.2.1; omega, fun t ht => by
  have := h.2.2.2.2 t ht
  exact ⟨num_big this.1, num_big this.2.1, this.2.2⟩⟩
/-! rows of boxes -/
theorem bsW_le : ∀ (bs : List B), (∀ b ∈ bs, num b.w) → -(bs.length * 10 ^ 40 : Int) ≤ bsW bs ∧ bsW bs ≤ bs.length * 10 ^ 40
  | [], _ => by simp [bsW]
  | b :: r, h => by
    have h1 := h b List.mem_cons_self
    have h2 := bsW_le r fun x hx => h x (List.mem_cons_of_mem _ hx)
    unfold num at h1
    simp only [bsW, List.length_cons]
    push_cast
    omega
theorem bsM_mem : ∀ (bs : List B) (x : Int) (n : Nat), (∀ b ∈ bs, lawB b) → bs.length ≤ n → n ≤ 100 → -((100 - n) * 10 ^ 40 : Int) ≤ x → x ≤ ((100 - n) * 10 ^ 40 : Int) → ∀ t ∈ bsM x bs, bigT t
  | [], _, _, _, _, _, _, _, t, ht => by simp [bsM] at ht
  | b :: r, x, n, h, hl, hn, h1, h2, t, ht => by
    simp only [bsM, List.mem_append, List.mem_map] at ht
    have hb := h b List.mem_cons_self
    rcases ht with ⟨u, hu, rfl⟩ | ht
    · obtain ⟨a1, a2, a3⟩ := hb.2.2.2.2 u hu
      unfold num at a1 a2
      refine ⟨?_, ?_, a3⟩
      · simp only [mv, big]
        constructor <;> omega
      · simp only [mv, big]
        constructor <;> omega
    · have hw := hb.1
      unfold num at hw
      simp only [List.length_cons] at hl
      refine bsM_mem r (x + b.w) (n - 1) (fun y hy => h y (List.mem_cons_of_mem _ hy)) (by omega) (by omega) ?_ ?_ t ht
      · have : ((n - 1 : Nat) : Int) = (n : Int) - 1 := by omega
        omega
      · have : ((n - 1 : Nat) : Int) = (n : Int) - 1 := by omega
        omega
theorem bsM_len : ∀ (bs : List B) (x : Int), (∀ b ∈ bs, lawB b) → (bsM x bs).length ≤ 3 * bs.length
  | [], _, _ => by simp [bsM]
  | b :: r, x, h => by
    rw [bsM_acc]
    have h1 := (h b List.mem_cons_self).2.2.2.1
    have h2 := bsM_len r (x + b.w) fun y hy => h y (List.mem_cons_of_mem _ hy)
    simp only [List.length_cons]
    omega
theorem top0_num (l : List Int) (h : ∀ n ∈ l, num n) : num (top0 l) := by
  have h0 := top0_nn l
  rcases List.mem_cons.mp (top0_mem l) with e | e
  · rw [e]; exact ⟨by decide, by decide⟩
  · exact h _ e
theorem put_big {bs : List B} (h : ∀ b ∈ bs, lawB b) (hl : bs.length ≤ 50) : bigB (put bs) := by
  have h1 := bsW_le bs fun b hb => (h b hb).1
  refine ⟨⟨by show -(10 ^ 50) ≤ bsW bs; omega, by show bsW bs ≤ 10 ^ 50; omega⟩, num_big (top0_num _ fun n hn => ?_), num_big (top0_num _ fun n hn => ?_), ?_, bsM_mem bs 0 50 h hl (by decide) (by decide) (by decide)⟩
  · obtain ⟨b, hb, rfl⟩ := List.mem_map.mp hn
    exact (h b hb).2.1
  · obtain ⟨b, hb, rfl⟩ := List.mem_map.mp hn
    exact (h b hb).2.2.1
  · have := bsM_len bs 0 h
    show (bsM 0 bs).length ≤ 1000
    omega
end K8
set_option Elab.async false
set_option linter.all false
set_option maxRecDepth 100000
set_option maxHeartbeats 4000000
set_option autoImplicit false
namespace K8
open PySem PySem.Spec PyProof.Rows L2 DL
def g_moved (C : Addr) : GX := lift0 fun _ ds P => ∃ b, gMoved C ds b ∧ P (bD C b)
theorem mono_g_moved {C : Addr} : MonoX (g_moved C) := mono0 fun _ _ _ _ m ⟨b, h, p⟩ => ⟨b, h, m _ p⟩
def g_together (C : Addr) : GX := lift0 fun _ ds P => ∃ b, gTog C ds b ∧ P (bD C b)
theorem mono_g_together {C : Addr} : MonoX (g_together C) := mono0 fun _ _ _ _ m ⟨b, h, p⟩ => ⟨b, h, m _ p⟩
def g_widened (C : Addr) : GX := lift0 fun _ ds P => ∃ b, gWidened C ds b ∧ P (bD C b)
theorem mono_g_widened {C : Addr} : MonoX (g_widened C) := mono0 fun _ _ _ _ m ⟨b, h, p⟩ => ⟨b, h, m _ p⟩
/-- dx, dy, box; depth, height, placed, width; width, box -/
def permM {α : Type} : List α → List α
  | [a, b, c] => [c, a, b]
  | _ => []
def permT {α : Type} : List α → List α
  | [a, b, c, d] => [d, b, a, c]
  | _ => []
def permW {α : Type} : List α → List α
  | [a, b] => [b, a]
  | _ => []
def noPos {α : Type} (f : List α → List α) : List α → List α → List α
  | [], ws => f ws
  | _ :: _, _ => []
theorem permM_ok {K : PySem.W.Frag} : ∀ F vs ds, DatL K F vs ds → DatL K F (noPos permM [] vs) (permM ds)
  | _, _, _, .nil => .nil
  | _, _, _, .cons _ .nil => .nil
  | _, _, _, .cons _ (.cons _ .nil) => .nil
  | _, _, _, .cons a (.cons b (.cons c .nil)) => .cons c (.cons a (.cons b .nil))
  | _, _, _, .cons _ (.cons _ (.cons _ (.cons _ _))) => .nil
theorem permT_ok {K : PySem.W.Frag} : ∀ F vs ds, DatL K F vs ds → DatL K F (noPos permT [] vs) (permT ds)
  | _, _, _, .nil => .nil
  | _, _, _, .cons _ .nil => .nil
  | _, _, _, .cons _ (.cons _ .nil) => .nil
  | _, _, _, .cons _ (.cons _ (.cons _ .nil)) => .nil
  | _, _, _, .cons a (.cons b (.cons c (.cons d .nil))) => .cons d (.cons b (.cons a (.cons c .nil)))
  | _, _, _, .cons _ (.cons _ (.cons _ (.cons _ (.cons _ _)))) => .nil
theorem permW_ok {K : PySem.W.Frag} : ∀ F vs ds, DatL K F vs ds → DatL K F (noPos permW [] vs) (permW ds)
  | _, _, _, .nil => .nil
  | _, _, _, .cons _ .nil => .nil
  | _, _, _, .cons a (.cons b .nil) => .cons b (.cons a .nil)
  | _, _, _, .cons _ (.cons _ (.cons _ _)) => .nil
/-! sizes -/
def nn (n : Nat) (z : Int) : Prop := -((n : Int) * 10 ^ 40) ≤ z ∧ z ≤ (n : Int) * 10 ^ 40
def lvB (n : Nat) (b : B) : Prop := nn n b.w ∧ nn n b.h ∧ nn n b.d ∧ b.ms.length ≤ 3 ∧ ∀ t ∈ b.ms, nn n t.1 ∧ nn n t.2.1 ∧ lawMark t.2.2
theorem nn1 {z : Int} (h : num z) : nn 1 z := ⟨by have := h.1; omega, by have := h.2; omega⟩
theorem lv_law {b : B} (h : lawB b) : lvB 1 b := ⟨nn1 h.1, nn1 h.2.1, nn1 h.2.2.1, h.2.2.2.1, fun t ht => ⟨nn1 (h.2.2.2.2 t ht).1, nn1 (h.2.2.2.2 t ht).2.1, (h.2.2.2.2 t ht).2.2⟩⟩
theorem nn_add {n m : Nat} {x y : Int} (h : nn n x) (k : nn m y) : nn (n + m) (x + y) := ⟨by have := h.1; have := k.1; push_cast; omega, by have := h.2; have := k.2; push_cast; omega⟩
theorem nn_neg {n : Nat} {x : Int} (h : nn n x) : nn n (-x) := ⟨by have := h.2; omega, by have := h.1; omega⟩
theorem nn_sub {n m : Nat} {x y : Int} (h : nn n x) (k : nn m y) : nn (n + m) (x - y) := by rw [Int.sub_eq_add_neg]; exact nn_add h (nn_neg k)
theorem nn_big {n : Nat} {x : Int} (h : nn n x) (hn : n ≤ 1000) : big x := ⟨by have := h.1; omega, by have := h.2; omega⟩
theorem nn_sg {n : Nat} {x : Int} (h : nn n x) (hn : n ≤ 1000) : sg (.int x) = true := sg_big (nn_big h hn)
theorem lv_mv {n m : Nat} {b : B} {dx dy : Int} (h : lvB n b) (hx : nn m dx) (hy : nn m dy) : lvB (n + m) (mvB b dx dy) := by
  refine ⟨nn_add h.1 hx, nn_add h.2.1 hy, nn_sub h.2.2.1 hy, by show (List.map _ b.ms).length ≤ 3; rw [List.length_map]; exact h.2.2.2.1, fun t ht => ?_⟩
  obtain ⟨u, hu, rfl⟩ := List.mem_map.mp (show t ∈ b.ms.map (mv dx dy) from ht)
  obtain ⟨h1, h2, h3⟩ := h.2.2.2.2 u hu
  exact ⟨nn_add h1 hx, nn_add h2 hy, h3⟩
theorem lv_wd {n m k : Nat} {b : B} {v : Int} (h : lvB n b) (hv : nn m v) (hx : nn k ((v - b.w) / 2)) (e1 : n + k ≤ 1000) (e2 : m ≤ 1000) : bigB (wdB b v) := by
  refine ⟨nn_big hv e2, nn_big h.2.1 (by omega), nn_big h.2.2.1 (by omega), by show (List.map _ b.ms).length ≤ 1000; rw [List.length_map]; have := h.2.2.2.1; omega, fun t ht => ?_⟩
  obtain ⟨u, hu, rfl⟩ := List.mem_map.mp (show t ∈ b.ms.map (mv ((v - b.w) / 2) 0) from ht)
  obtain ⟨h1, h2, h3⟩ := h.2.2.2.2 u hu
  refine ⟨nn_big (nn_add h1 hx) e1, ?_, h3⟩
  show big (u.2.1 + 0)
  rw [Int.add_zero]
  exact nn_big h2 (by omega)
theorem lv_big {n : Nat} {b : B} (h : lvB n b) (hn : n ≤ 1000) : bigB b := ⟨nn_big h.1 hn, nn_big h.2.1 hn, nn_big h.2.2.1 hn, by have := h.2.2.2.1; omega, fun t ht => ⟨nn_big (h.2.2.2.2 t ht).1 hn, nn_big (h.2.2.2.2 t ht).2.1 hn, (h.2.2.2.2 t ht).2.2⟩⟩
theorem mvmv (l : List M3) (a u m h : Int) : (l.map (mv a u)).map (mv m h) = l.map (mv (a + m) (u + h)) := by
  rw [List.map_map]
  refine List.map_congr_left fun t _ => ?_
  simp only [Function.comp, mv]
  rw [Int.add_assoc, Int.add_assoc]
theorem mv_mv (b : B) (a u m h : Int) : mvB (mvB b a u) m h = mvB b (a + m) (u + h) := by
  unfold mvB
  rw [mvmv, Int.add_assoc, Int.add_assoc, Int.sub_sub]
theorem mv_back (b : B) (a u : Int) : mvB (mvB b a u) (-a) (-u) = b := by
  rw [mv_mv]
  unfold mvB
  have e : mv (a + -a) (u + -u) = id := by
    funext t
    simp only [mv, Int.add_right_neg, Int.add_zero]
    rfl
  rw [e, List.map_id, Int.add_right_neg, Int.add_right_neg, Int.add_zero, Int.add_zero, Int.sub_zero]
theorem t_own {C : Addr} {b : B} {neg : Bool} {P : D → Prop} (hb : bigB b) (p : P (.bl (true != neg))) : fOwn C (fBoxEq C) neg (bD C b) (bD C b) P := ⟨_, _, true, rfl, rfl, fBoxEq_of (ms_fin hb.2.2.2.2) (Nat.le_trans (ms_dep hb.2.2.2.2) (by decide)), p⟩
theorem t_own' {C : Addr} {b b' : B} {neg : Bool} {P : D → Prop} (e : b = b') (hb : bigB b') (p : P (.bl (true != neg))) : fOwn C (fBoxEq C) neg (bD C b) (bD C b') P := by
  subst e
  exact t_own hb p
theorem els {p q : Prop} (h : q) : if false = true then p else q := by rw [if_neg (by decide)]; exact h
theorem thn' {p q : Prop} (h : p) : if true = true then p else q := by rw [if_pos rfl]; exact h
theorem fEq_same' {n : Bool} {d d' : D} {P : D → Prop} (e : d' = d) (h : d.fin = true) (hd : d.dep ≤ 64) (p : P (.bl (true != n))) : fEq n d d' P := by
  subst e
  exact fEq_same h hd p
theorem wd_self (b : B) : wdB b b.w = b := by
  unfold wdB
  have e : mv ((b.w - b.w) / 2) 0 = id := by
    funext t
    simp [mv]
  rw [e, List.map_id]
theorem half (m : Int) : (m - m % 2) / 2 = m / 2 := by omega
theorem nn_half {n : Nat} {x : Int} (h : nn n x) : nn n (x / 2) := ⟨by have := h.1; omega, by have := h.2; omega⟩
theorem ps_of {C : Addr} : ∀ ys : List D, (∀ y ∈ ys, ∃ p, y = pD C p ∧ lawB p.1 ∧ num p.2.1 ∧ num p.2.2) → ∃ ps : List P3, ys = ps.map (pD C) ∧ ∀ p ∈ ps, lawB p.1 ∧ num p.2.1 ∧ num p.2.2
  | [], _ => ⟨[], rfl, fun _ h => by cases h⟩
  | y :: r, h => by
    obtain ⟨t, rfl, hi⟩ := h y List.mem_cons_self
    obtain ⟨sp, rfl, hs⟩ := ps_of r fun z hz => h z (List.mem_cons_of_mem _ hz)
    exact ⟨t :: sp, rfl, fun j hj => by
      rcases List.mem_cons.mp hj with rfl | hj
      · exact hi
      · exact hs j hj⟩
theorem tg_big : ∀ (ps : List P3), (∀ p ∈ ps, lawB p.1 ∧ num p.2.1 ∧ num p.2.2) → (tgM ps).length ≤ 3 * ps.length ∧ ∀ t ∈ tgM ps, bigT t
  | [], _ => ⟨by simp [tgM], fun t h => by simp [tgM] at h⟩
  | p :: r, h => by
    obtain ⟨h1, h2, h3⟩ := h p List.mem_cons_self
    obtain ⟨i1, i2⟩ := tg_big r fun x hx => h x (List.mem_cons_of_mem _ hx)
    refine ⟨?_, fun t ht => ?_⟩
    · have := h1.2.2.2.1
      simp only [tgM, List.length_append, List.length_map, List.length_cons]
      omega
    · simp only [tgM, List.mem_append, List.mem_map] at ht
      rcases ht with ⟨u, hu, rfl⟩ | ht
      · obtain ⟨a1, a2, a3⟩ := (lv_law h1).2.2.2.2 u hu
        exact ⟨nn_big (nn_add a1 (nn1 h2)) (by decide), nn_big (nn_add a2 (nn1 h3)) (by decide), a3⟩
      · exact i2 t ht
theorem noow_set {ρ : List Sl} {j : Nat} {x : Sl} (h : ∀ (i : Nat) ds, ρ[i]? ≠ some (Sl.ow ds)) (hx : ∀ ds, x ≠ .ow ds) : ∀ (i : Nat) ds, (ρ.set j x)[i]? ≠ some (Sl.ow ds) := by
  intro i ds e
  rw [List.getElem?_set] at e
  split at e
  · split at e
    · exact hx ds (Option.some.inj e)
    · cases e
  · exact h i ds e
def g__law_shifted : GX := lift0 fun _ ds P => ∃ (ms : List M3) (a u : Int), ds = [.lst (ms.map mD), .int a, .int u] ∧ ms.length ≤ 1000 ∧ P (.lst ((ms.map (mv a u)).map mD))
theorem mono_g__law_shifted : MonoX g__law_shifted := mono0 fun _ _ _ _ m ⟨b, dx, dy, e, k, p⟩ => ⟨b, dx, dy, e, k, m _ p⟩
def gT : GX := lift0 fun W ds P => ∃ wa, ds = [.adr wa] ∧ W = some wa ∧ P (.bl true)
abbrev g__law_moved_right : GX := gT
abbrev g__law_together_right : GX := gT
abbrev g__law_widened_right : GX := gT
abbrev g__law_right : GX := gT
theorem mono_gT : MonoX gT := mono0 fun _ _ _ _ m ⟨a, e, h, p⟩ => ⟨a, e, h, m _ p⟩
theorem mono_g__law_moved_right : MonoX gT := mono_gT
theorem mono_g__law_together_right : MonoX gT := mono_gT
theorem mono_g__law_widened_right : MonoX gT := mono_gT
theorem loop_tr (C : Addr) (c : Dx) (De : DEnds) (e0 e1 e6 e7 e8 : Sl) : ∀ (ps : List P3) (acc : List M3) (s3 s4 s5 : Sl), (∀ p ∈ ps, p.1.ms.length ≤ 1000) → acc.length + (tgM ps).length ≤ 1000 → (∀ s3 s4 s5, De.nx [e0, e1, .fz (.lst ((acc ++ tgM ps).map mD)), s3, s4, s5, e6, e7, e8]) →
    dLoop (setT (setCons (setN 3) (setCons (setN 4) (setCons (setN 5) setNil)))) (dSet 2 (dOp fCat (dVar 2) (dFn g__law_shifted c [] (dCons (dFld C (Str.ofString "marks") (dVar 3)) (dCons (dVar 4) (dCons (dVar 5) dNil)))))) De (ps.map (pD C)) [e0, e1, .fz (.lst (acc.map mD)), s3, s4, s5, e6, e7, e8]
  | [], acc, s3, s4, s5, _, _, k => by
    have := k s3 s4 s5
    simpa [dLoop, tgM] using this
  | p :: r, acc, s3, s4, s5, h, hl, k => by
    have h1 := h p List.mem_cons_self
    simp only [tgM, List.length_append, List.length_map] at hl
    refine ⟨_, rfl, _, rfl, _, rfl, bF p.1, _, rfl, lkm, _, rfl, _, rfl, p.1.ms, p.2.1, p.2.2, rfl, h1, _, _, rfl, rfl, Nat.le_of_lt (small1000 (by simp; omega)), ?_⟩
    have ih := loop_tr C c De e0 e1 e6 e7 e8 r (acc ++ p.1.ms.map (mv p.2.1 p.2.2)) (.fz (bD C p.1)) (.fz (.int p.2.1)) (.fz (.int p.2.2)) (fun x hx => h x (List.mem_cons_of_mem _ hx)) (by simp; omega) (fun s5 s6 s7 => by
      have := k s5 s6 s7
      simpa [tgM, List.append_assoc] using this)
    rw [← List.map_append]
    exact ih
section
variable {P : Program} {w : World} {K : PySem.W.Frag} {mg : Str → Option Value} {base : Heap}
theorem ok_movedF (T : Txt K mg) : FnOk P w K mg base CX0 8 T.a_moved T.fd_moved ["box", "dx", "dy"] (spX K (g_moved T.C)) := FnOk_imp (ok_moved T) spN_of
theorem ok_togetherF (T : Txt K mg) : FnOk P w K mg base CX0 9 T.a_together T.fd_together ["width", "height", "depth", "placed"] (spX K (g_together T.C)) := FnOk_imp (ok_together T) spN_of
theorem ok_widenedF (T : Txt K mg) : FnOk P w K mg base CX0 8 T.a_widened T.fd_widened ["box", "width"] (spX K (g_widened T.C)) := FnOk_imp (ok_widened T) spN_of
theorem ok__law_shifted (T : Txt K mg) : FnOk P w K mg base CX0 1 T.a__law_shifted T.fd__law_shifted ["marks", "across", "up"] (spX K g__law_shifted) := by
  refine okD T.F__law_shifted sc__law_shifted (fun W ds P h => ?_) (fun cdv A outer s H E W F0 hr => ⟨_, (pssd_one (psd_ret (pd_lc (own := [("x", 3), ("y", 4), ("mark", 5)]) rfl sc__law_shifted.nd (pid_list (pd_var (pv 0))) (blkOk_by (N := sc__law_shiftedN) (sc := defScope s__law_shifted) (by decide +kernel)) (fun _ _ _ _ _ => pgd_tupK (K := K) rfl rfl (pgds_cons (pgd_name (i := 3) sc__law_shifted.nd rfl (by first | exact Or.inl rfl | exact Or.inr rfl)) (pgds_cons (pgd_name (i := 4) sc__law_shifted.nd rfl (by first | exact Or.inl rfl | exact Or.inr rfl)) (pgds_cons (pgd_name (i := 5) sc__law_shifted.nd rfl (by first | exact Or.inl rfl | exact Or.inr rfl)) pgds_nil))) (setCons_len (setCons_len (setCons_len set0)))) (by decide) (fun _ _ _ _ _ => ptd_nil) (fun _ _ _ _ _ => (pd_tup (pda_cons (pd_add (pd_var (pv 3)) (pd_var (pv 1))) (pda_cons (pd_add (pd_var (pv 4)) (pd_var (pv 2))) (pda_cons (pd_var (pv 5)) pda_nil)))))))), fun ds Pd h => ?_⟩)
  · obtain ⟨b, dx, dy, rfl, _⟩ := h; rfl
  · obtain ⟨b, dx, dy, rfl, hl, p⟩ := h
    refine ⟨_, rfl, _, rfl, by rw [List.length_map]; exact small1000 hl, ?_⟩
    refine dComp_mapOf mD (fun t => mD (mv dx dy t)) _ (fun t ht Q q => ⟨_, rfl, ?_⟩) [] _ ?_
    · exact ⟨_, rfl, _, rfl, t.1, dx, rfl, rfl, _, rfl, _, rfl, t.2.1, dy, rfl, rfl, _, rfl, by simp, q⟩
    · rw [List.map_map] at p
      exact p
theorem ok__law_widened_right (T : Txt K mg) (kb_widened : KBinds K T.fd_widened ["box", "width"] ["width", "box"] (noPos permW) (noPos permW)) : FnOk P w K mg base CX0 9 T.a__law_widened_right T.fd__law_widened_right ["well"] (spX K g__law_widened_right) := by
  refine okD T.F__law_widened_right sc__law_widened_right (fun W ds P h => ?_) (fun cdv A outer s H E W F0 hr => ⟨_, (pssd_cons (psd_par (i := 1) (j := 2) rfl sc__law_widened_right.nd rfl rfl (by decide) rfl rfl (pda_cons (pd_call (ok__law_box T) mono_g__law_box (hr.mono (by decide)) rfl T.m__law_box T.F__law_box.kp T.b__law_box .nil (fun _ => .nil) pass0 EOk.no (pda_cons (pd_var (pv 0)) pda_nil)) (pda_cons (pd_call (ok__law_number T) mono_g__law_number (hr.mono (by decide)) rfl T.m__law_number T.F__law_number.kp T.b__law_number .nil (fun _ => .nil) pass0 EOk.no (pda_cons (pd_var (pv 0)) pda_nil)) pda_nil)) rfl) (pssd_cons (psd_par (i := 3) (j := 4) rfl sc__law_widened_right.nd rfl rfl (by decide) rfl rfl (pda_cons (pd_call (ok_widenedF T) mono_g_widened (hr.mono (by decide)) rfl T.m_widened T.F_widened.kp T.b_widened .nil (fun _ => .nil) pass0 EOk.no (pda_cons (pd_var (pv 1)) (pda_cons (pd_var (pv 2)) pda_nil))) (pda_cons (pd_sub (pd_var (pv 2)) (pd_fld T.cl_Box T.n_Box_width (pd_var (pv 1)))) pda_nil)) rfl) (pssd_cons (psd_set (i := 5) sc__law_widened_right.nd rfl (by first | exact Or.inl rfl | exact Or.inr rfl) (pd_fdiv (pd_sub (pd_var (pv 4)) (pd_mod (pd_callTy call_int1 serves_int mono_fInt rfl T.z_int (by decide +kernel) (pda_cons (pd_var (pv 4)) pda_nil)) pd_int)) pd_int)) (pssd_cons (psd_if (pdt_cmp (op_neD (hu64 hr)) serves_ne mono_fEq (pd_call (ok__law_all T) mono_g__law_all (hr.mono (by decide)) rfl T.m__law_all T.F__law_all.kp T.b__law_all .nil (fun _ => .nil) pass0 EOk.no (pda_cons (pd_var (pv 3)) pda_nil)) (pd_tup (pda_cons (pd_var (pv 2)) (pda_cons (pd_fld T.cl_Box T.n_Box_height (pd_var (pv 1))) (pda_cons (pd_fld T.cl_Box T.n_Box_depth (pd_var (pv 1))) (pda_cons (pd_call (ok__law_shifted T) mono_g__law_shifted (hr.mono (by decide)) rfl T.m__law_shifted T.F__law_shifted.kp T.b__law_shifted .nil (fun _ => .nil) pass0 EOk.no (pda_cons (pd_fld T.cl_Box T.n_Box_marks (pd_var (pv 1))) (pda_cons (pd_var (pv 5)) (pda_cons pd_int pda_nil)))) pda_nil))))) (nobehind _ (by decide) (by decide))) (pssd_one (psd_ret pd_bl)) pssd_nil) (pssd_one (psd_ret (pd_and (pd_cmp (op_eqO (ok_Box___eq__ T) T.eq_Box T.b_Box___eq__ (hr.mono (by decide))) serves_own mono_fOwn (pd_call (ok_widenedF T) mono_g_widened (hr.mono (by decide)) rfl T.m_widened T.F_widened.kp T.b_widened .nil (fun _ => .nil) pass0 EOk.no (pda_cons (pd_var (pv 1)) (pda_cons (pd_fld T.cl_Box T.n_Box_width (pd_var (pv 1))) pda_nil))) (pd_var (pv 1)) (nobehind _ (by decide) (by decide))) (pd_one (pd_cmp (op_eqO (ok_Box___eq__ T) T.eq_Box T.b_Box___eq__ (hr.mono (by decide))) serves_own mono_fOwn (pd_callKp (gD := permW) (ok_widenedF T) mono_g_widened (hr.mono (by decide)) rfl T.m_widened T.F_widened.kp kb_widened permW_ok pass0 EOk.no (pdk_cons (pd_var (pv 2)) (pdk_cons (pd_var (pv 1)) pdk_nil))) (pd_var (pv 3)) (nobehind _ (by decide) (by decide))))))))))), fun ds Pd h => ?_⟩)
  · obtain ⟨wa, rfl, _⟩ := h; rfl
  · obtain ⟨wa, rfl, hw, p⟩ := h
    refine ⟨_, rfl, wa, rfl, hw, fun b hb => ⟨_, rfl, wa, rfl, hw, fun v hv => ⟨_, _, rfl, ?_⟩⟩⟩
    have lb := lv_law hb
    have bb := lv_big lb (by decide)
    have ok := okB_big bb
    have sv := nn_sg (nn1 hv) (by decide)
    have bw := lv_wd lb (nn1 hv) (nn_half (nn_sub (nn1 hv) lb.1)) (by decide) (by decide)
    refine ⟨_, rfl, _, rfl, wdB b v, ⟨b, v, rfl, ok, sv, rfl⟩, _, rfl, _, rfl, bF b, _, rfl, lkw, v, b.w, rfl, rfl, _, _, rfl, ?_⟩
    refine ⟨_, rfl, _, rfl, .inl ⟨_, rfl, _, 2, rfl, rfl, (show (0 : Int) < 2 by decide), _, _, rfl, rfl, _, 2, rfl, rfl, ⟨by decide, by decide +kernel⟩, ?_⟩⟩
    refine ⟨_, rfl, wdB b v, rfl, _, rfl, _, rfl, bF b, _, rfl, lkh, _, rfl, bF b, _, rfl, lkd, _, rfl, bF b, _, rfl, lkm, _, rfl, b.ms, _, 0, rfl, bb.2.2.2.1, by simp, fEq_same' (d := allD (wdB b v)) (congrArg (fun z => DL.D.tup [.int v, .int b.h, .int b.d, .lst ((b.ms.map (mv z 0)).map mD)]) (half (v - b.w))) (all_fin bw) (Nat.le_trans (all_dep bw) (by decide)) ⟨false, rfl, els ?_⟩⟩
    refine ⟨_, rfl, _, rfl, bF b, _, rfl, lkw, wdB b b.w, ⟨b, b.w, rfl, ok, nn_sg lb.1 (by decide), rfl⟩, _, rfl, t_own' (wd_self b) bb ⟨true, rfl, thn' ?_⟩⟩
    exact ⟨_, rfl, _, rfl, wdB b v, ⟨b, v, rfl, ok, sv, rfl⟩, _, rfl, t_own bw p⟩
theorem ok__law_together_right (T : Txt K mg) (kb_together : KBinds K T.fd_together ["width", "height", "depth", "placed"] ["depth", "height", "placed", "width"] (noPos permT) (noPos permT)) : FnOk P w K mg base CX0 10 T.a__law_together_right T.fd__law_together_right ["well"] (spX K g__law_together_right) := by
  refine okD T.F__law_together_right sc__law_together_right (fun W ds P h => ?_) (fun cdv A outer s H E W F0 hr => ⟨_, (pssd_cons (psd_setLc (i := 1) (y := "some") (own := [("k", 8)]) rfl sc__law_together_right.nd rfl rfl (sw_true rfl rfl rfl (by decide +kernel)) (pid_range rfl T.z_range (pd_call (ok__law_draw T) mono_g__law_draw (hr.mono (by decide)) rfl T.m__law_draw T.F__law_draw.kp T.b__law_draw .nil (fun _ => .nil) pass0 EOk.no (pda_cons (pd_var (pv 0)) (pda_cons pd_int pda_nil)))) (blkOk_by (N := sc__law_together_rightN) (sc := defScope s__law_together_right) (by decide +kernel)) (fun _ _ _ _ _ => pgd_name (i := 8) sc__law_together_right.nd rfl (by first | exact Or.inl rfl | exact Or.inr rfl)) (by decide) (fun _ _ _ _ _ => ptd_nil) (fun _ _ _ _ _ => (pd_tup (pda_cons (pd_call (ok__law_box T) mono_g__law_box (hr.mono (by decide)) rfl T.m__law_box T.F__law_box.kp T.b__law_box .nil (fun _ => .nil) pass0 EOk.no (pda_cons (pd_var (pv 0)) pda_nil)) (pda_cons (pd_call (ok__law_number T) mono_g__law_number (hr.mono (by decide)) rfl T.m__law_number T.F__law_number.kp T.b__law_number .nil (fun _ => .nil) pass0 EOk.no (pda_cons (pd_var (pv 0)) pda_nil)) (pda_cons (pd_call (ok__law_number T) mono_g__law_number (hr.mono (by decide)) rfl T.m__law_number T.F__law_number.kp T.b__law_number .nil (fun _ => .nil) pass0 EOk.no (pda_cons (pd_var (pv 0)) pda_nil)) pda_nil)))))) (pssd_cons (psd_set (i := 2) sc__law_together_right.nd rfl (by first | exact Or.inl rfl | exact Or.inr rfl) (pd_lst pda_nil)) (pssd_cons (psd_for PassesOwn.never rfl (pid_list (pd_var (pv 1))) (pgd_tupK (K := K) rfl rfl (pgds_cons (pgd_name (i := 3) sc__law_together_right.nd rfl (by first | exact Or.inl rfl | exact Or.inr rfl)) (pgds_cons (pgd_name (i := 4) sc__law_together_right.nd rfl (by first | exact Or.inl rfl | exact Or.inr rfl)) (pgds_cons (pgd_name (i := 5) sc__law_together_right.nd rfl (by first | exact Or.inl rfl | exact Or.inr rfl)) pgds_nil))) (setCons_len (setCons_len (setCons_len set0)))) (pssd_one (psd_set (i := 2) sc__law_together_right.nd rfl (by first | exact Or.inl rfl | exact Or.inr rfl) (pd_cat (pd_var (pv 2)) (pd_call (ok__law_shifted T) mono_g__law_shifted (hr.mono (by decide)) rfl T.m__law_shifted T.F__law_shifted.kp T.b__law_shifted .nil (fun _ => .nil) pass0 EOk.no (pda_cons (pd_fld T.cl_Box T.n_Box_marks (pd_var (pv 3))) (pda_cons (pd_var (pv 4)) (pda_cons (pd_var (pv 5)) pda_nil)))))))) (pssd_cons (psd_setLc (i := 6) (y := "sizes") (own := [("k", 8)]) rfl sc__law_together_right.nd rfl rfl (sw_true rfl rfl rfl (by decide +kernel)) (pid_range rfl T.z_range pd_int) (blkOk_by (N := sc__law_together_rightN) (sc := defScope s__law_together_right) (by decide +kernel)) (fun _ _ _ _ _ => pgd_name (i := 8) sc__law_together_right.nd rfl (by first | exact Or.inl rfl | exact Or.inr rfl)) (by decide) (fun _ _ _ _ _ => ptd_nil) (fun _ _ _ _ _ => (pd_call (ok__law_number T) mono_g__law_number (hr.mono (by decide)) rfl T.m__law_number T.F__law_number.kp T.b__law_number .nil (fun _ => .nil) pass0 EOk.no (pda_cons (pd_var (pv 0)) pda_nil)))) (pssd_cons (psd_set (i := 7) sc__law_together_right.nd rfl (by first | exact Or.inl rfl | exact Or.inr rfl) (pd_call (ok_togetherF T) mono_g_together (hr.mono (by decide)) rfl T.m_together T.F_together.kp T.b_together .nil (fun _ => .nil) pass0 EOk.no (pda_cons (pd_item (pd_var (pv 6)) pd_int (fun _ _ => rfl)) (pda_cons (pd_item (pd_var (pv 6)) pd_int (fun _ _ => rfl)) (pda_cons (pd_item (pd_var (pv 6)) pd_int (fun _ _ => rfl)) (pda_cons (pd_var (pv 1)) pda_nil)))))) (pssd_cons (psd_if (pdt_w (pdw_or (pdt_cmp (op_neD (hu64 hr)) serves_ne mono_fEq (pd_call (ok__law_all T) mono_g__law_all (hr.mono (by decide)) rfl T.m__law_all T.F__law_all.kp T.b__law_all .nil (fun _ => .nil) pass0 EOk.no (pda_cons (pd_var (pv 7)) pda_nil)) (pd_catT (pd_callTy call_tuple_of serves_tupOf mono_fTupOf rfl T.z_tuple (by decide +kernel) (pda_cons (pd_var (pv 6)) pda_nil)) (pd_tup (pda_cons (pd_var (pv 2)) pda_nil))) (nobehind _ (by decide) (by decide))) (pdw_or1 (pdt_cmp (op_neO (ok_Box___eq__ T) T.eq_Box T.b_Box___eq__ (hr.mono (by decide))) serves_own mono_fOwn (pd_call (ok_togetherF T) mono_g_together (hr.mono (by decide)) rfl T.m_together T.F_together.kp T.b_together .nil (fun _ => .nil) pass0 EOk.no (pda_cons (pd_item (pd_var (pv 6)) pd_int (fun _ _ => rfl)) (pda_cons (pd_item (pd_var (pv 6)) pd_int (fun _ _ => rfl)) (pda_cons (pd_item (pd_var (pv 6)) pd_int (fun _ _ => rfl)) (pda_cons (pd_callTy call_tuple_of serves_tupOf mono_fTupOf rfl T.z_tuple (by decide +kernel) (pda_cons (pd_var (pv 1)) pda_nil)) pda_nil))))) (pd_var (pv 7)) (nobehind _ (by decide) (by decide)))))) (pssd_one (psd_ret pd_bl)) pssd_nil) (pssd_one (psd_ret (pd_cmp (op_eqO (ok_Box___eq__ T) T.eq_Box T.b_Box___eq__ (hr.mono (by decide))) serves_own mono_fOwn (pd_callKp (gD := permT) (ok_togetherF T) mono_g_together (hr.mono (by decide)) rfl T.m_together T.F_together.kp kb_together permT_ok pass0 EOk.no (pdk_cons (pd_item (pd_var (pv 6)) pd_int (fun _ _ => rfl)) (pdk_cons (pd_item (pd_var (pv 6)) pd_int (fun _ _ => rfl)) (pdk_cons (pd_var (pv 1)) (pdk_cons (pd_item (pd_var (pv 6)) pd_int (fun _ _ => rfl)) pdk_nil))))) (pd_var (pv 7)) (nobehind _ (by decide) (by decide))))))))))), fun ds Pd h => ?_⟩)
  · obtain ⟨wa, rfl, _⟩ := h; rfl
  · obtain ⟨wa, rfl, hw, p⟩ := h
    refine ⟨_, rfl, wa, 5, rfl, hw, by decide, by decide, fun m m0 m5 => ⟨m, rfl, by omega, by omega, ?_, ?_⟩⟩
    · exact small1000 (by simp; omega)
    refine dComp_rel (fun d => ∃ p, d = pD T.C p ∧ lawB p.1 ∧ num p.2.1 ∧ num p.2.2) _ (fun x hx Q q => ?_) [] _ fun ys hlen hy => ?_
    · exact ⟨_, rfl, _, rfl, wa, rfl, hw, fun b hb => ⟨_, rfl, wa, rfl, hw, fun x hx => ⟨_, rfl, wa, rfl, hw, fun y hy => ⟨by simp, q _ ⟨(b, x, y), rfl, hb, hx, hy⟩⟩⟩⟩⟩
    obtain ⟨ps, rfl, hps⟩ := ps_of ys hy
    have hl4 : ps.length ≤ 4 := by simp at hlen; omega
    rw [List.nil_append]
    obtain ⟨tl, tb⟩ := tg_big ps hps
    have okp : ∀ p ∈ ps, okP p := fun p hp => ⟨okB_big (law_big (hps p hp).1), nn_sg (nn1 (hps p hp).2.1) (by decide), nn_sg (nn1 (hps p hp).2.2) (by decide)⟩
    refine ⟨by simp, _, rfl, _, rfl, ?_⟩
    refine loop_tr T.C ⟨W, F0, H, fun _ _ => False⟩ _ _ _ _ _ _ ps [] _ _ _ (fun p hp => okB_len (okp p hp).1) (by simp; omega) fun s3 s4 s5 => ?_
    refine ⟨3, rfl, by decide, by decide, small1000 (by simp), ?_⟩
    refine dComp_rel (fun d => ∃ n, d = .int n ∧ num n) _ (fun x hx Q q => ?_) [] _ fun zs hz3 hz => ?_
    · exact ⟨_, rfl, _, rfl, wa, rfl, hw, fun n hn => q _ ⟨n, rfl, hn⟩⟩
    match zs, hz3, hz with
    | [z0, z1, z2], _, hz =>
    obtain ⟨n0, rfl, h0⟩ := hz z0 (by simp)
    obtain ⟨n1, rfl, h1⟩ := hz z1 (by simp)
    obtain ⟨n2, rfl, h2⟩ := hz z2 (by simp)
    rw [List.nil_append]
    have tb2 : bigB ⟨n0, n1, n2, tgM ps⟩ := ⟨num_big h0, num_big h1, num_big h2, by show (tgM ps).length ≤ 1000; omega, tb⟩
    have gt : ∀ dd, seqP T.C ps dd → gTog T.C [.int n0, .int n1, .int n2, dd] ⟨n0, n1, n2, tgM ps⟩ := fun dd hd => ⟨n0, n1, n2, ps, dd, rfl, hd, nn_sg (nn1 h0) (by decide), nn_sg (nn1 h1) (by decide), nn_sg (nn1 h2) (by decide), by omega, by omega, okp, rfl⟩
    refine ⟨_, rfl, _, 0, _, .inl rfl, rfl, at0, _, rfl, _, 1, _, .inl rfl, rfl, at1, _, rfl, _, 2, _, .inl rfl, rfl, at2, _, rfl, _, gt _ (.inl rfl), ?_⟩
    refine ⟨_, rfl, _, rfl, _, rfl, _, .inl ⟨rfl, _, rfl, by simp, _, _, rfl, rfl, by simp [sizeLine], fEq_same' rfl (all_fin tb2) (Nat.le_trans (all_dep tb2) (by decide)) ⟨false, rfl, els ?_⟩⟩⟩
    refine ⟨_, rfl, _, 0, _, .inl rfl, rfl, at0, _, rfl, _, 1, _, .inl rfl, rfl, at1, _, rfl, _, 2, _, .inl rfl, rfl, at2, _, rfl, _, .inl ⟨rfl, _, gt _ (.inr rfl), _, rfl, t_own tb2 ⟨false, rfl, els ?_⟩⟩⟩
    exact ⟨_, rfl, _, 2, _, .inl rfl, rfl, at2, _, rfl, _, 1, _, .inl rfl, rfl, at1, _, rfl, _, rfl, _, 0, _, .inl rfl, rfl, at0, _, gt _ (.inl rfl), _, rfl, t_own tb2 p⟩
end
end K8
set_option Elab.async false
set_option linter.all false
set_option maxRecDepth 100000
set_option maxHeartbeats 4000000
set_option autoImplicit false
namespace K8
open PySem PySem.Spec PyProof.Rows L2 DL
section
variable {P : Program} {w : World} {K : PySem.W.Frag} {mg : Str → Option Value} {base : Heap}
theorem ok__law_moved_right (T : Txt K mg) (kb_moved : KBinds K T.fd_moved ["box", "dx", "dy"] ["dx", "dy", "box"] (noPos permM) (noPos permM)) : FnG P w K mg base 9 T.a__law_moved_right T.fd__law_moved_right ["well"] (spX K gT) := by
  refine okGs T.F__law_moved_right sc__law_moved_right (fun vs H Q E h => ?_) (fun cdv A outer s H vs Q E hgd hr h => ?_)
  · obtain ⟨W, F, ds, _, d, wa, rfl, _⟩ := h
    rw [d.length]
    rfl
  · obtain ⟨W, F, ds, G, d, wa, rfl, hw, q⟩ := h
    refine ⟨_, (PSsL.ps (c := ⟨W, F, H, fun _ _ => False⟩) (pssl_cons (psd_par3 (i := 1) (j := 2) (l := 3) rfl sc__law_moved_right.nd rfl rfl rfl (by decide) (by decide) (by decide) rfl rfl rfl (pda_cons (pd_call (ok__law_box T) mono_g__law_box (hr.mono (by decide)) rfl T.m__law_box T.F__law_box.kp T.b__law_box .nil (fun _ => .nil) pass0 EOk.no (pda_cons (pd_var (pv 0)) pda_nil)) (pda_cons (pd_call (ok__law_number T) mono_g__law_number (hr.mono (by decide)) rfl T.m__law_number T.F__law_number.kp T.b__law_number .nil (fun _ => .nil) pass0 EOk.no (pda_cons (pd_var (pv 0)) pda_nil)) (pda_cons (pd_call (ok__law_number T) mono_g__law_number (hr.mono (by decide)) rfl T.m__law_number T.F__law_number.kp T.b__law_number .nil (fun _ => .nil) pass0 EOk.no (pda_cons (pd_var (pv 0)) pda_nil)) pda_nil))) rfl) (pssl_last (pss_cons (ps_par (i := 4) (j := 5) rfl sc__law_moved_right.nd rfl rfl (by decide) rfl rfl (pa_cons (PD.pe (c := ⟨W, F, H, fun _ _ => False⟩) (pd_callB (call_repr hgd hr) serves_repr mono_fRepr rfl T.z_repr (by decide +kernel) (pda_cons (pd_call (ok__law_all T) mono_g__law_all (hr.mono (by decide)) rfl T.m__law_all T.F__law_all.kp T.b__law_all .nil (fun _ => .nil) pass0 EOk.no (pda_cons (pd_var (pv 1)) pda_nil)) pda_nil))) (pa_cons (pe_call (E := E0) (ok_moved T) (hr.mono (by decide)) rfl T.m_moved T.F_moved.kp T.b_moved .nil pass0 (PDA.pa (c := ⟨W, F, H, fun _ _ => False⟩) (pda_cons (pd_var (pv 1)) (pda_cons (pd_var (pv 2)) (pda_cons (pd_var (pv 3)) pda_nil))))) pa_nil)) rfl) (pss_cons (ps_set (i := 6) sc__law_moved_right.nd rfl (Or.inl rfl) (PD.pe (c := ⟨W, F, H, fun _ _ => False⟩) (pd_call (ok__law_shifted T) mono_g__law_shifted (hr.mono (by decide)) rfl T.m__law_shifted T.F__law_shifted.kp T.b__law_shifted .nil (fun _ => .nil) pass0 EOk.no (pda_cons (pd_fld T.cl_Box T.n_Box_marks (pd_var (pv 1))) (pda_cons (pd_var (pv 2)) (pda_cons (pd_var (pv 3)) pda_nil)))))) (pss_cons (ps_if (PDT.pt (c := ⟨W, F, H, fun _ _ => False⟩) (pdt_cmp (op_neD (hu64 hr)) serves_ne mono_fEq (pd_call (ok__law_all T) mono_g__law_all (hr.mono (by decide)) rfl T.m__law_all T.F__law_all.kp T.b__law_all .nil (fun _ => .nil) pass0 EOk.no (pda_cons (pd_var (pv 5)) pda_nil)) (pd_tup (pda_cons (pd_add (pd_fld T.cl_Box T.n_Box_width (pd_var (pv 1))) (pd_var (pv 2))) (pda_cons (pd_add (pd_fld T.cl_Box T.n_Box_height (pd_var (pv 1))) (pd_var (pv 3))) (pda_cons (pd_sub (pd_fld T.cl_Box T.n_Box_depth (pd_var (pv 1))) (pd_var (pv 3))) (pda_cons (pd_var (pv 6)) pda_nil))))) (nobehind _ (by decide) (by decide)))) (pss_one (ps_ret pe_bl)) pss_nil) (pss_cons (ps_par (i := 7) (j := 8) rfl sc__law_moved_right.nd rfl rfl (by decide) rfl rfl (PDA.pa (c := ⟨W, F, H, fun _ _ => False⟩) (pda_cons (pd_call (ok__law_number T) mono_g__law_number (hr.mono (by decide)) rfl T.m__law_number T.F__law_number.kp T.b__law_number .nil (fun _ => .nil) pass0 EOk.no (pda_cons (pd_var (pv 0)) pda_nil)) (pda_cons (pd_call (ok__law_number T) mono_g__law_number (hr.mono (by decide)) rfl T.m__law_number T.F__law_number.kp T.b__law_number .nil (fun _ => .nil) pass0 EOk.no (pda_cons (pd_var (pv 0)) pda_nil)) pda_nil))) rfl) (pss_cons (ps_if (PDT.pt (c := ⟨W, F, H, fun _ _ => False⟩) (pdt_w (pdw_or (pdt_cmp (op_neO (ok_Box___eq__ T) T.eq_Box T.b_Box___eq__ (hr.mono (by decide))) serves_own mono_fOwn (pd_call (ok_movedF T) mono_g_moved (hr.mono (by decide)) rfl T.m_moved T.F_moved.kp T.b_moved .nil (fun _ => .nil) pass0 EOk.no (pda_cons (pd_var (pv 5)) (pda_cons (pd_var (pv 7)) (pda_cons (pd_var (pv 8)) pda_nil)))) (pd_call (ok_movedF T) mono_g_moved (hr.mono (by decide)) rfl T.m_moved T.F_moved.kp T.b_moved .nil (fun _ => .nil) pass0 EOk.no (pda_cons (pd_var (pv 1)) (pda_cons (pd_add (pd_var (pv 2)) (pd_var (pv 7))) (pda_cons (pd_add (pd_var (pv 3)) (pd_var (pv 8))) pda_nil)))) (nobehind _ (by decide) (by decide))) (pdw_or1 (pdt_cmp (op_neO (ok_Box___eq__ T) T.eq_Box T.b_Box___eq__ (hr.mono (by decide))) serves_own mono_fOwn (pd_call (ok_movedF T) mono_g_moved (hr.mono (by decide)) rfl T.m_moved T.F_moved.kp T.b_moved .nil (fun _ => .nil) pass0 EOk.no (pda_cons (pd_var (pv 5)) (pda_cons (pd_neg (pd_var (pv 2))) (pda_cons (pd_neg (pd_var (pv 3))) pda_nil)))) (pd_var (pv 1)) (nobehind _ (by decide) (by decide))))))) (pss_one (ps_ret pe_bl)) pss_nil) (pss_cons (ps_expr (pe_bm PySem.F.plainAttrs_list PySem.F.slot_list_append PySem.F.type_list_append mt_append (pe_fld (pv 5) rfl) (pa_cons pe_non pa_nil))) (pss_one (ps_ret (PD.pe (c := ⟨W, F, H, fun _ _ => False⟩) (pd_and (pd_cmp op_eq serves_eqS mono_fEqS (pd_callB (call_repr hgd hr) serves_repr mono_fRepr rfl T.z_repr (by decide +kernel) (pda_cons (pd_call (ok__law_all T) mono_g__law_all (hr.mono (by decide)) rfl T.m__law_all T.F__law_all.kp T.b__law_all .nil (fun _ => .nil) pass0 EOk.no (pda_cons (pd_var (pv 1)) pda_nil)) pda_nil)) (pd_var (pv 4)) (nobehind _ (by decide) (by decide))) (pd_one (pd_cmp (op_eqO (ok_Box___eq__ T) T.eq_Box T.b_Box___eq__ (hr.mono (by decide))) serves_own mono_fOwn (pd_callKp (gD := permM) (ok_movedF T) mono_g_moved (hr.mono (by decide)) rfl T.m_moved T.F_moved.kp kb_moved permM_ok pass0 EOk.no (pdk_cons (pd_var (pv 2)) (pdk_cons (pd_var (pv 3)) (pdk_cons (pd_var (pv 1)) pdk_nil)))) (pd_call (ok_movedF T) mono_g_moved (hr.mono (by decide)) rfl T.m_moved T.F_moved.kp T.b_moved .nil (fun _ => .nil) pass0 EOk.no (pda_cons (pd_var (pv 1)) (pda_cons (pd_var (pv 2)) (pda_cons (pd_var (pv 3)) pda_nil)))) (nobehind _ (by decide) (by decide))))))))))))))))), ?_⟩
    refine ⟨F, _, ⟨fun _ => False, fun _ => False, fun _ => False, fun _ => False⟩, fun ρ' => ∃ b x y, lawB b ∧ num x ∧ num y ∧ ρ' = [.fz (.adr wa), .fz (bD T.C b), .fz (.int x), .fz (.int y), .un, .un, .un, .un, .un], ⟨G.rfl, slots_start d⟩, ⟨fun _ _ _ _ z => z.elim, fun _ _ _ _ z => z.elim, fun _ _ _ _ z => z.elim, fun _ _ _ _ z => z.elim⟩, fun ρ' σ F1 H1 z s a => ?_, ?_⟩
    · obtain ⟨b, x, y, hb, hx, hy, rfl⟩ := z
      have bb := law_big hb
      have ok := okB_big bb
      have lb := lv_law hb
      have sx := nn_sg (nn1 hx) (by decide)
      have sy := nn_sg (nn1 hy) (by decide)
      have l2 := lv_mv lb (nn1 hx) (nn1 hy)
      have b2 := lv_big l2 (by decide)
      have ok2 := okB_big b2
      have hσ : 5 < σ.length := by
        have e := a.sl.len
        simp only [List.length_cons, List.length_nil] at e
        omega
      obtain ⟨txt, es, _⟩ := sh_py (all_fin bb)
      have noow : ∀ (i : Nat) ds, [Sl.fz (.adr wa), .fz (bD T.C b), .fz (.int x), .fz (.int y), .un, .un, .un, .un, .un][i]? ≠ some (Sl.ow ds) := fun i ds e => by
        have := List.mem_of_getElem? e
        simp at this
      -- kept, told
      refine ⟨F1, _, a, _, rfl, b, rfl, ?_⟩
      dsimp only [dNil]
      refine fRepr_sh ⟨_, .inr rfl⟩ (all_fin bb) (Nat.le_trans (all_dep bb) (by decide)) (all_wt bb hb.2.2.2.1) ?_
      rw [es]
      intro v F2 H2 f2 dv
      have a1 := a.fr f2
      refine ⟨F2, _, a1, _, rfl, _, rfl, _, rfl, fun vs F3 H3 f3 d3 => ?_⟩
      show spN K T.C (gMoved T.C) (vs ++ []) H3 _ E0
      rw [List.append_nil]
      refine ⟨W, F3, _, mvB b x y, f3.good, d3, ⟨b, x, y, rfl, ok, sx, sy, rfl⟩, fun p a' dx us F4 H4 n => ?_⟩
      refine ⟨_, _, rfl, ?_⟩
      obtain ⟨F5, f5, s45, dat5, ex5, ea5⟩ := n.frz f3.good
      have a2 := (a1.fr f3).fr n.fr
      have a3 := (a1.fr f3).fr f5
      have u1 := At.mk (c := ⟨W, F, H, fun _ _ => False⟩) a2.en ((a2.sl.set 4 (dv.mono (f3.grow.trans n.fr.grow))).forget 5 (some (V.ref p)))
      have v1 := At.mk (c := ⟨W, F, H, fun _ _ => False⟩) a3.en ((a3.sl.set 4 (dv.mono (f3.grow.trans f5.grow))).set 5 dat5)
      -- marks
      refine ⟨F5, _, v1, ?_⟩
      refine ⟨_, rfl, bF b, _, rfl, lkm, _, rfl, _, rfl, b.ms, x, y, rfl, bb.2.2.2.1, fun m F6 H6 f6 dm => ?_⟩
      have s46 := s45.trans f6.grow
      have u2' := u1.fr (fr_back f6 s45)
      have v2' := v1.fr f6
      have u2 := At.mk (c := ⟨W, F, H, fun _ _ => False⟩) u2'.en (u2'.sl.forget 6 (some m))
      have v2 := At.mk (c := ⟨W, F, H, fun _ _ => False⟩) v2'.en (v2'.sl.set 6 dm)
      refine ⟨F6, _, v2, ?_⟩
      refine ⟨_, rfl, mvB b x y, rfl, _, rfl, bF b, _, rfl, lkw, _, rfl, b.w, x, rfl, rfl, _, rfl, bF b, _, rfl, lkh, _, rfl, b.h, y, rfl, rfl, _, rfl, bF b, _, rfl, lkd, _, rfl, b.d, y, rfl, rfl, _, rfl, by simp, fEq_same' rfl (all_fin b2) (Nat.le_trans (all_dep b2) (by decide)) ⟨false, rfl, fun F7 H7 f7 => els ?_⟩⟩
      have u3 := u2.fr (fr_back f7 s46)
      have v3 := v2.fr (fr_back f7 (Same.refl F6))
      -- more, higher
      refine ⟨F6, _, v3, ?_⟩
      refine ⟨_, rfl, wa, rfl, hw, fun m1 hm1 => ⟨_, rfl, wa, rfl, hw, fun h1 hh1 vs F8 H8 f8 d8 => ?_⟩⟩
      obtain ⟨c1, c2, rfl, e1, e2⟩ := datL2 d8
      cases e1
      cases e2
      refine ⟨_, _, rfl, ?_⟩
      have u4' := u3.fr (fr_back f8 s46)
      have v4' := v3.fr (fr_back f8 (Same.refl F6))
      have u4 := At.mk (c := ⟨W, F, H, fun _ _ => False⟩) u4'.en ((u4'.sl.set 7 (.int m1)).set 8 (.int h1))
      have v4 := At.mk (c := ⟨W, F, H, fun _ _ => False⟩) v4'.en ((v4'.sl.set 7 (.int m1)).set 8 (.int h1))
      have sm := nn_sg (nn1 hm1) (by decide)
      have sh := nn_sg (nn1 hh1) (by decide)
      refine ⟨F6, _, v4, ?_⟩
      refine ⟨_, rfl, _, rfl, _, rfl, mvB (mvB b x y) m1 h1, ⟨mvB b x y, m1, h1, rfl, ok2, sm, sh, rfl⟩, _, rfl, _, rfl, _, rfl, x, m1, rfl, rfl, _, rfl, _, rfl, y, h1, rfl, rfl, mvB b (x + m1) (y + h1), ⟨b, x + m1, y + h1, rfl, ok, nn_sg (nn_add (nn1 hx) (nn1 hm1)) (by decide), nn_sg (nn_add (nn1 hy) (nn1 hh1)) (by decide), rfl⟩,
        t_own' (mv_mv b x y m1 h1) (lv_big (lv_mv lb (nn_add (nn1 hx) (nn1 hm1)) (nn_add (nn1 hy) (nn1 hh1))) (by decide)) ⟨false, rfl, els ?_⟩⟩
      refine ⟨_, rfl, _, rfl, x, rfl, _, rfl, y, rfl, mvB (mvB b x y) (-x) (-y), ⟨mvB b x y, -x, -y, rfl, ok2, nn_sg (nn_neg (nn1 hx)) (by decide), nn_sg (nn_neg (nn1 hy)) (by decide), rfl⟩, _, rfl, t_own' (mv_back b x y) bb ⟨false, rfl, fun F9 H9 f9 => els ?_⟩⟩
      have u5 := u4.fr (fr_back f9 s46)
      have p9 : H9 p = some (.ins T.C dx (iF (mvB b x y) a')) := f9.sub _ _ (f9.grow _ _ (f6.grow _ _ ex5))
      have a9 : H9 a' = some (.lst us) := f9.sub _ _ (f9.grow _ _ (f6.grow _ _ ea5))
      have lk9 : (iF (mvB b x y) a').lookup ("marks" : Str) = some (.ref a') := by unfold iF; rw [lookup_putF, if_pos rfl]
      have lus : us.length ≤ 1000 := by
        rw [n.dl.length, List.length_map]
        exact b2.2.2.2.1
      refine ⟨_, by rw [List.getElem?_set_ne (by decide), List.getElem?_set_ne (by decide), List.getElem?_set_ne (by decide), List.getElem?_set_self (by rw [List.length_set]; exact hσ)], p, T.C, dx, _, _, rfl, p9, T.cl_Box, T.n_Box_marks, lk9, .inl ⟨rfl, _, SqL.of a9⟩, a', _, _, rfl, rfl, a9, small1000 lus, ?_⟩
      have Wa : W ≠ some a' := fun z => by
        obtain ⟨_, i, j, q, e⟩ := f3.good.well a' z
        rw [n.ha] at e
        cases e
      have no2 := noow_set (j := 8) (x := .fz (.int h1)) (noow_set (j := 7) (x := .fz (.int m1)) (noow_set (j := 6) (x := .un) (noow_set (j := 5) (x := .un) (noow_set (j := 4) (x := .fz (.str txt)) noow (by simp)) (by simp)) (by simp)) (by simp)) (by simp)
      have u6 := At.mk (c := ⟨W, F, H, fun _ _ => False⟩) (own_upd (o := .lst (us ++ [.non])) u5.en n.fa Wa (entry_none (c := ⟨W, F, H, fun _ _ => False⟩) (a1.fr f3).en n.ha)) (slots_any u5.sl no2)
      refine ⟨F4, _, u6, ?_⟩
      refine ⟨_, rfl, b, rfl, ?_⟩
      dsimp only [dNil]
      refine fRepr_sh ⟨_, .inr rfl⟩ (all_fin bb) (Nat.le_trans (all_dep bb) (by decide)) (all_wt bb hb.2.2.2.1) ?_
      rw [es]
      refine ⟨_, rfl, true, by simp, thn' ?_⟩
      refine ⟨_, rfl, _, rfl, _, rfl, mvB b x y, ⟨b, x, y, rfl, ok, sx, sy, rfl⟩, _, rfl, _, rfl, _, rfl, mvB b x y, ⟨b, x, y, rfl, ok, sx, sy, rfl⟩, t_own b2 fun v F' H' f dv => ?_⟩
      exact q v F' H' (u6.en.trans f) dv
    · exact ⟨_, rfl, wa, rfl, hw, fun b hb => ⟨_, rfl, wa, rfl, hw, fun x hx => ⟨_, rfl, wa, rfl, hw, fun y hy => ⟨_, _, _, rfl, b, x, y, hb, hx, hy, rfl⟩⟩⟩⟩
end
end K8
set_option Elab.async false
set_option linter.all false
set_option maxRecDepth 100000
set_option maxHeartbeats 4000000
set_option autoImplicit false
namespace K8
open PySem PySem.Spec PyProof.Rows L2 DL
theorem dLoop_inv {set : DG} {body : DS} {De : DEnds} (I : List Sl → Prop) : ∀ (xs : List D), (∀ d ∈ xs, ∀ ρ, I ρ → ∃ ρ1, set d ρ = some ρ1 ∧ ∀ De' : DEnds, (∀ ρ', I ρ' → De'.nx ρ') → body De' ρ1) → (∀ ρ', I ρ' → De.nx ρ') → ∀ ρ, I ρ → dLoop set body De xs ρ
  | [], _, k, ρ, i => k ρ i
  | d :: r, h, k, ρ, i => by
    obtain ⟨ρ1, e, q⟩ := h d List.mem_cons_self ρ i
    exact ⟨ρ1, e, q _ fun ρ' i' => dLoop_inv I r (fun y hy => h y (List.mem_cons_of_mem _ hy)) k ρ' i'⟩

section
variable {P : Program} {w : World} {K : PySem.W.Frag} {mg : Str → Option Value} {base : Heap}
theorem ok__law_right (T : Txt K mg) (kb_moved : KBinds K T.fd_moved ["box", "dx", "dy"] ["dx", "dy", "box"] (noPos permM) (noPos permM)) (kb_together : KBinds K T.fd_together ["width", "height", "depth", "placed"] ["depth", "height", "placed", "width"] (noPos permT) (noPos permT)) (kb_widened : KBinds K T.fd_widened ["box", "width"] ["width", "box"] (noPos permW) (noPos permW)) : FnG P w K mg base 11 T.a__law_right T.fd__law_right ["well"] (spX K g__law_right) := by
  refine okG T.F__law_right sc__law_right (fun W ds P h => ?_) (fun cdv A outer s H E W F0 hgd hr => ⟨_, (pssd_cons (psd_for PassesOwn.never rfl (pid_range rfl T.z_range pd_int) (pgd_name (i := 1) sc__law_right.nd rfl (by first | exact Or.inl rfl | exact Or.inr rfl)) (pssd_one (psd_if (pdt_w (pdw_or (pdt_not (pdt_val (pd_callG (ok__law_moved_right T kb_moved) mono_gT hgd (hr.mono (by decide)) rfl T.m__law_moved_right T.F__law_moved_right.kp T.b__law_moved_right EOk.no (pda_cons (pd_var (pv 0)) pda_nil)))) (pdw_or (pdt_not (pdt_val (pd_call (ok__law_together_right T kb_together) mono_gT (hr.mono (by decide)) rfl T.m__law_together_right T.F__law_together_right.kp T.b__law_together_right .nil (fun _ => .nil) pass0 EOk.no (pda_cons (pd_var (pv 0)) pda_nil)))) (pdw_or1 (pdt_not (pdt_val (pd_call (ok__law_widened_right T kb_widened) mono_gT (hr.mono (by decide)) rfl T.m__law_widened_right T.F__law_widened_right.kp T.b__law_widened_right .nil (fun _ => .nil) pass0 EOk.no (pda_cons (pd_var (pv 0)) pda_nil)))))))) (pssd_one (psd_ret pd_bl)) pssd_nil))) (pssd_one (psd_ret pd_bl))), fun ds Pd h => ?_⟩)
  · obtain ⟨wa, rfl, _⟩ := h; rfl
  · obtain ⟨wa, rfl, hw, p⟩ := h
    refine ⟨4, rfl, by decide, by decide, dLoop_inv (fun ρ => ∃ s, ρ = [.fz (.adr wa), s]) _ (fun d hd ρ hI => ?_) (fun ρ hI => p) _ ⟨_, rfl⟩⟩
    obtain ⟨s, rfl⟩ := hI
    exact ⟨_, rfl, fun De' hn => ⟨_, rfl, wa, rfl, hw, true, rfl, els ⟨_, rfl, wa, rfl, hw, true, rfl, els ⟨_, rfl, wa, rfl, hw, true, rfl, els (hn _ ⟨_, rfl⟩)⟩⟩⟩⟩
end
def spSource (K : PySem.W.Frag) : Sp := fun vs H Q _ => ∃ (a : Addr) (ns : List Int) (k : Nat), vs = [.ref a, .int (k : Int)] ∧ SqL K H a (ns.map V.int) ∧ ns.length ≤ 63 ∧ k < 100 ∧ ∀ (H2 : Hp) (l : Addr) (i j : Int), Same H H2 → H2 l = none → Q (.ref l) (upd H2 l (.lst [.int i, .int j, .int 0]))
def spLaw (K : PySem.W.Frag) : Sp := fun vs H Q _ => ∃ (a : Addr) (ns : List Int), vs = [.ref a] ∧ SqL K H a (ns.map V.int) ∧ ns.length ≤ 63 ∧ ∀ H', Q (.bl true) H'
section
variable {P : Program} {w : World} {K : PySem.W.Frag} {mg : Str → Option Value} {base : Heap}
theorem ok_source (T : Txt K mg) : FnOk P w K mg base CX0 1 T.a__law_source T.fd__law_source ["script", "k"] (spSource K) := by
  refine T.F__law_source.ok sc__law_source (fun vs H Q E h => ?_) (fun cdv A outer s H vs Q E hr h => ?_)
  · obtain ⟨a, ns, k, rfl, _⟩ := h
    rfl
  · obtain ⟨a, ns, k, rfl, hS, hl, hk, q⟩ := h
    refine ⟨_, pss_cons (ps_set (i := 2) sc__law_source.nd rfl (Or.inl rfl) (pe_op op_add (pe_ix ix_list (pe_op op_catS (pv 0) (pe_lst (pa_cons pe_int pa_nil))) pe_int (fun _ _ => rfl)) (pe_op op_mulA pe_int (pv 1))))
      (C8.pss_cut (ps_if (pt_cmpR op_lt (pv 1) (pe_callB call_len_seq (by rfl) T.z_len PySem.boot_len (pa_cons (pv 0) pa_nil)) (nomark _)) (pss_one (ps_set (i := 2) sc__law_source.nd rfl (Or.inl rfl) (pe_ix ix_list (pv 0) (pv 1) (fun _ _ => rfl)))) pss_nil)
        (pss_one (ps_ret (pe_lst (pa_cons (pe_op op_mulA (pv 2) (pe_callTy call_int1 rfl T.z_int (by decide +kernel) (pa_cons (pe_cmpR op_ge (pv 2) (pe_op op_pow pe_int pe_int) (nomark _)) pa_nil))) (pa_cons (pv 2) (pa_cons pe_int pa_nil))))))), ?_⟩
    have h0 : ∃ z, atI (ns.map V.int ++ [V.int 0]) 0 = some (.int z) := by
      cases ns with
      | nil => exact ⟨0, atI_nat (j := 0) rfl⟩
      | cons z r => exact ⟨z, atI_nat (j := 0) rfl⟩
    obtain ⟨z, hz⟩ := h0
    refine ⟨_, rfl, (by show 1 ≤ sizeLine; decide), fun l hl => ?_⟩
    have s1 : Same H (upd H l (.lst [.int 0])) := DL.same_upd hl
    refine ⟨a, l, _, _, rfl, rfl, s1.seq hS, .of upd_same, (by rw [List.length_map]; exact Nat.le_of_lt (small1000 (by show ns.length + 1 ≤ 1000; omega))), fun p hp => ?_⟩
    have s2 := s1.trans (DL.same_upd (o := .lst (ns.map V.int ++ [.int 0])) hp)
    refine ⟨p, _, 0, .int z, rfl, rfl, .of upd_same, hz, _, rfl, 7919, (k : Int), rfl, rfl, mulOk_left (by decide) (by decide), z, 7919 * (k : Int), rfl, rfl, ?_⟩
    refine ⟨fun σ' H' => ∃ z, σ' = [some (.ref a), some (.int (k : Int)), some (.int z)] ∧ Same H H', ?_, fun σ' H' h => ?_⟩
    · refine ⟨_, rfl, _, rfl, a, ns.map V.int, rfl, .inl (s2.seq hS), (k : Int), _, rfl, rfl, _, rfl, ite2 (fun hlt => ?_) (fun _ => ?_)⟩
      · have hlt' : k < ns.length := by simpa using hlt
        refine ⟨_, rfl, _, rfl, a, _, (k : Int), .int ns[k], rfl, rfl, s2.seq hS, atI_nat (by simp [hlt']), ?_⟩
        exact ⟨_, rfl, s2⟩
      · exact ⟨_, rfl, s2⟩
    · obtain ⟨z, rfl, s⟩ := h
      refine ⟨_, rfl, _, rfl, 10, 18, rfl, rfl, ⟨by decide, by decide, by decide⟩, z, _, rfl, rfl, .inr ⟨_, rfl, z, _, rfl, rfl, mulOk_right (by split <;> decide) (by split <;> decide), _, rfl, (by show 3 ≤ sizeLine; decide), fun l hl => ?_⟩⟩
      exact q H' l _ _ s hl
theorem ok_law (T : Txt K mg) (kb_moved : KBinds K T.fd_moved ["box", "dx", "dy"] ["dx", "dy", "box"] (noPos permM) (noPos permM)) (kb_together : KBinds K T.fd_together ["width", "height", "depth", "placed"] ["depth", "height", "placed", "width"] (noPos permT) (noPos permT)) (kb_widened : KBinds K T.fd_widened ["box", "width"] ["width", "box"] (noPos permW) (noPos permW)) : FnG P w K mg base 12 T.a_law T.fd_law ["script"] (spLaw K) := by
  refine okGs T.F_law sc_law (fun vs H Q E h => ?_) (fun cdv A outer s H vs Q E hgd hr h => ?_)
  · obtain ⟨a, ns, rfl, _⟩ := h
    rfl
  · obtain ⟨a, ns, rfl, hS, hl, q⟩ := h
    refine ⟨_, pss_cons (ps_for PassesOwn.never rfl (pi_range1 rfl T.z_range (pa_cons (pe_callB (call_max2 rfl) rfl T.z_max (by decide +kernel) (pa_cons pe_int (pa_cons (pe_callB (call_min2 rfl) rfl T.z_min (by decide +kernel) (pa_cons pe_int (pa_cons (pe_callB call_len_seq (by rfl) T.z_len PySem.boot_len (pa_cons (pv 0) pa_nil)) pa_nil))) pa_nil))) pa_nil)) (pg_name (i := 1) sc_law.nd rfl (Or.inl rfl))
        (pss_one (ps_if (pt_not (pt_val (pe_callG (ok__law_right T kb_moved kb_together kb_widened) hgd (hr.mono (by decide)) rfl T.m__law_right T.F__law_right.kp T.b__law_right (pa_cons (pe_call (E := E0) (ok_source T) (hr.mono (by decide)) rfl T.m__law_source T.F__law_source.kp T.b__law_source .nil pass0 (pa_cons (pv 0) (pa_cons (pv 1) pa_nil))) pa_nil)))) (pss_one (ps_ret pe_bl)) pss_nil)))
      (pss_one (ps_ret pe_bl)), ?_⟩
    have hm : ∀ L : Int, (if (if L < 4 then L else 4) > 1 then (if L < 4 then L else 4) else 1) ≤ 4 ∧ 1 ≤ (if (if L < 4 then L else 4) > 1 then (if L < 4 then L else 4) else 1) := fun L => by
      split <;> (try split) <;> omega
    refine ⟨_, rfl, a, ns.map V.int, rfl, .inl hS, 4, _, rfl, 1, _, rfl, _, rfl, (by have := hm (((ns.map V.int).length : Nat) : Int); omega), (by have := hm (((ns.map V.int).length : Nat) : Int); omega),
      for_range (lo := 0) (fun i σ H' => ∃ v, σ = [some (.ref a), v] ∧ Same H H') ⟨none, rfl, Same.refl H⟩ (fun i σ H' hi h => ?_) (fun σ H' _ => q H')⟩
    obtain ⟨v, rfl, s1⟩ := h
    have hi4 : i < 100 := by
      have := hm (((ns.map V.int).length : Nat) : Int)
      omega
    refine ⟨_, rfl, _, rfl, a, ns, i, by simp, s1.seq hS, hl, hi4, fun H2 l j1 j2 s2 hl0 => ?_⟩
    refine ⟨some l, fun _ => none, [.adr l], ⟨fun _ _ e => (nomatch e), fun b hb => ?_⟩, .cons (.adr l) .nil, l, rfl, rfl, fun u F' H4 f du => ?_⟩
    · cases hb
      exact ⟨rfl, j1, j2, 0, upd_same⟩
    · cases du
      refine ⟨true, rfl, els ?_⟩
      refine ⟨_, rfl, fun b o e => ?_⟩
      have e2 : H2 b = some o := s2 _ _ (s1 _ _ e)
      have ne : b ≠ l := ne_of_none e2 hl0
      exact f.keep b o (by rw [upd_ne ne]; exact e2) (fun z => ne (Option.some.inj z).symm)
end
end K8
set_option Elab.async false
set_option linter.all false
set_option maxRecDepth 100000
set_option maxHeartbeats 4000000
set_option autoImplicit false
namespace K8
open PySem PySem.Spec PyProof.Rows L2 DL
theorem permM_rel : ∀ {vs : List V} {us : List Value}, Vals vs us → Vals (permM vs) (permM us)
  | _, _, .nil => .nil
  | _, _, .cons _ .nil => .nil
  | _, _, .cons _ (.cons _ .nil) => .nil
  | _, _, .cons a (.cons b (.cons c .nil)) => .cons c (.cons a (.cons b .nil))
  | _, _, .cons _ (.cons _ (.cons _ (.cons _ _))) => .nil
theorem permT_rel : ∀ {vs : List V} {us : List Value}, Vals vs us → Vals (permT vs) (permT us)
  | _, _, .nil => .nil
  | _, _, .cons _ .nil => .nil
  | _, _, .cons _ (.cons _ .nil) => .nil
  | _, _, .cons _ (.cons _ (.cons _ .nil)) => .nil
  | _, _, .cons a (.cons b (.cons c (.cons d .nil))) => .cons d (.cons b (.cons a (.cons c .nil)))
  | _, _, .cons _ (.cons _ (.cons _ (.cons _ (.cons _ _)))) => .nil
theorem permW_rel : ∀ {vs : List V} {us : List Value}, Vals vs us → Vals (permW vs) (permW us)
  | _, _, .nil => .nil
  | _, _, .cons _ .nil => .nil
  | _, _, .cons a (.cons b .nil) => .cons b (.cons a .nil)
  | _, _, .cons _ (.cons _ (.cons _ _)) => .nil
theorem all_mk {l : PySem.W.OpenLaw} {w : World} {K : PySem.W.Frag} {h : Heap} {mg : Str → Option Value} {fa : Addr} {f_is_integer f_is_between f_is_signed f_is_word f_is_name f_is_row f_is_sequence f_is_family f_is_size f_is_path f_check_box f_is_placed_mark f_is_mark f_is_glyph_mark f_is_rule_mark f_check_signed f_marks_moved f_moved f_together f_check_placed f_widened f__law_mix f__law_source f__law_draw f__law_pick f__law_number f__law_mark f__law_marks f__law_box f__law_all f__law_shifted f__law_moved_right f__law_together_right f__law_widened_right f__law_right f_law C f_init f_eq Td e0 : Addr} {od_is_integer an_is_integer od_is_between an_is_between od_is_signed an_is_signed od_is_word an_is_word od_is_name an_is_name od_is_row an_is_row od_is_sequence an_is_sequence od_is_family an_is_family od_is_size an_is_size od_is_path an_is_path od_check_box an_check_box od_is_placed_mark an_is_placed_mark od_is_mark an_is_mark od_is_glyph_mark an_is_glyph_mark od_is_rule_mark an_is_rule_mark od_check_signed an_check_signed od_marks_moved an_marks_moved od_moved an_moved od_together an_together od_check_placed an_check_placed od_widened an_widened od__law_mix an__law_mix od__law_source an__law_source od__law_draw an__law_draw od__law_pick an__law_pick od__law_number an__law_number od__law_mark an__law_mark od__law_marks an__law_marks od__law_box an__law_box od__law_all an__law_all od__law_shifted an__law_shifted od__law_moved_right an__law_moved_right od__law_together_right an__law_together_right od__law_widened_right an__law_widened_right od__law_right an__law_right od_law an_law od_init an_init od_eq an_eq : Option Addr} {sl_is_integer sl_is_between sl_is_signed sl_is_word sl_is_name sl_is_row sl_is_sequence sl_is_family sl_is_size sl_is_path sl_check_box sl_is_placed_mark sl_is_mark sl_is_glyph_mark sl_is_rule_mark sl_check_signed sl_marks_moved sl_moved sl_together sl_check_placed sl_widened sl__law_mix sl__law_source sl__law_draw sl__law_pick sl__law_number sl__law_mark sl__law_marks sl__law_box sl__law_all sl__law_shifted sl__law_moved_right sl__law_together_right sl__law_widened_right sl__law_right sl_law sl_init sl_eq : Array (Option Value)} {oc_is_integer kV_is_integer dc_is_integer pm_is_integer cd_is_integer ct_is_integer oc_is_between kV_is_between dc_is_between pm_is_between cd_is_between ct_is_between oc_is_signed kV_is_signed dc_is_signed pm_is_signed cd_is_signed ct_is_signed oc_is_word kV_is_word dc_is_word pm_is_word cd_is_word ct_is_word oc_is_name kV_is_name dc_is_name pm_is_name cd_is_name ct_is_name oc_is_row kV_is_row dc_is_row pm_is_row cd_is_row ct_is_row oc_is_sequence kV_is_sequence dc_is_sequence pm_is_sequence cd_is_sequence ct_is_sequence oc_is_family kV_is_family dc_is_family pm_is_family cd_is_family ct_is_family oc_is_size kV_is_size dc_is_size pm_is_size cd_is_size ct_is_size oc_is_path kV_is_path dc_is_path pm_is_path cd_is_path ct_is_path oc_check_box kV_check_box dc_check_box pm_check_box cd_check_box ct_check_box oc_is_placed_mark kV_is_placed_mark dc_is_placed_mark pm_is_placed_mark cd_is_placed_mark ct_is_placed_mark oc_is_mark kV_is_mark dc_is_mark pm_is_mark cd_is_mark ct_is_mark oc_is_glyph_mark kV_is_glyph_mark dc_is_glyph_mark pm_is_glyph_mark cd_is_glyph_mark ct_is_glyph_mark oc_is_rule_mark kV_is_rule_mark dc_is_rule_mark pm_is_rule_mark cd_is_rule_mark ct_is_rule_mark oc_check_signed kV_check_signed dc_check_signed pm_check_signed cd_check_signed ct_check_signed oc_marks_moved kV_marks_moved dc_marks_moved pm_marks_moved cd_marks_moved ct_marks_moved oc_moved kV_moved dc_moved pm_moved cd_moved ct_moved oc_together kV_together dc_together pm_together cd_together ct_together oc_check_placed kV_check_placed dc_check_placed pm_check_placed cd_check_placed ct_check_placed oc_widened kV_widened dc_widened pm_widened cd_widened ct_widened oc__law_mix kV__law_mix dc__law_mix pm__law_mix cd__law_mix ct__law_mix oc__law_source kV__law_source dc__law_source pm__law_source cd__law_source ct__law_source oc__law_draw kV__law_draw dc__law_draw pm__law_draw cd__law_draw ct__law_draw oc__law_pick kV__law_pick dc__law_pick pm__law_pick cd__law_pick ct__law_pick oc__law_number kV__law_number dc__law_number pm__law_number cd__law_number ct__law_number oc__law_mark kV__law_mark dc__law_mark pm__law_mark cd__law_mark ct__law_mark oc__law_marks kV__law_marks dc__law_marks pm__law_marks cd__law_marks ct__law_marks oc__law_box kV__law_box dc__law_box pm__law_box cd__law_box ct__law_box oc__law_all kV__law_all dc__law_all pm__law_all cd__law_all ct__law_all oc__law_shifted kV__law_shifted dc__law_shifted pm__law_shifted cd__law_shifted ct__law_shifted oc__law_moved_right kV__law_moved_right dc__law_moved_right pm__law_moved_right cd__law_moved_right ct__law_moved_right oc__law_together_right kV__law_together_right dc__law_together_right pm__law_together_right cd__law_together_right ct__law_together_right oc__law_widened_right kV__law_widened_right dc__law_widened_right pm__law_widened_right cd__law_widened_right ct__law_widened_right oc__law_right kV__law_right dc__law_right pm__law_right cd__law_right ct__law_right oc_law kV_law dc_law pm_law cd_law ct_law oc_init kV_init dc_init pm_init cd_init ct_init oc_eq kV_eq dc_eq pm_eq cd_eq ct_eq : Value} {oT : Obj} {nT : Nat} {t_LIMIT t_MOST_FAMILIES t_SIZES t_MOST_LETTERS : Tok} (X : K.In h) (G : h.Ns mainGlobals mg) (hfa : mg "law" = some (.ref fa))
    (a_is_integer : PySem.W.nsIn K mainGlobals "is_integer" = some (some (.ref f_is_integer)))
    (l_is_integer : K.lookup f_is_integer = some ⟨oc_is_integer, od_is_integer, .func (PySem.W.fnOf "is_integer" "is_integer" (defArgs s_is_integer) (defBody s_is_integer) (defScope s_is_integer) .none kV_is_integer dc_is_integer pm_is_integer an_is_integer cd_is_integer ct_is_integer), sl_is_integer⟩)
    (c_is_integer : PySem.W.codeIn K cd_is_integer "is_integer" = true)
    (k_is_integer : PySem.W.keepIn K (.ref f_is_integer) = true)
    (a_is_between : PySem.W.nsIn K mainGlobals "is_between" = some (some (.ref f_is_between)))
    (l_is_between : K.lookup f_is_between = some ⟨oc_is_between, od_is_between, .func (PySem.W.fnOf "is_between" "is_between" (defArgs s_is_between) (defBody s_is_between) (defScope s_is_between) .none kV_is_between dc_is_between pm_is_between an_is_between cd_is_between ct_is_between), sl_is_between⟩)
    (c_is_between : PySem.W.codeIn K cd_is_between "is_between" = true)
    (k_is_between : PySem.W.keepIn K (.ref f_is_between) = true)
    (a_is_signed : PySem.W.nsIn K mainGlobals "is_signed" = some (some (.ref f_is_signed)))
    (l_is_signed : K.lookup f_is_signed = some ⟨oc_is_signed, od_is_signed, .func (PySem.W.fnOf "is_signed" "is_signed" (defArgs s_is_signed) (defBody s_is_signed) (defScope s_is_signed) .none kV_is_signed dc_is_signed pm_is_signed an_is_signed cd_is_signed ct_is_signed), sl_is_signed⟩)
    (c_is_signed : PySem.W.codeIn K cd_is_signed "is_signed" = true)
    (k_is_signed : PySem.W.keepIn K (.ref f_is_signed) = true)
    (a_is_word : PySem.W.nsIn K mainGlobals "is_word" = some (some (.ref f_is_word)))
    (l_is_word : K.lookup f_is_word = some ⟨oc_is_word, od_is_word, .func (PySem.W.fnOf "is_word" "is_word" (defArgs s_is_word) (defBody s_is_word) (defScope s_is_word) .none kV_is_word dc_is_word pm_is_word an_is_word cd_is_word ct_is_word), sl_is_word⟩)
    (c_is_word : PySem.W.codeIn K cd_is_word "is_word" = true)
    (k_is_word : PySem.W.keepIn K (.ref f_is_word) = true)
    (a_is_name : PySem.W.nsIn K mainGlobals "is_name" = some (some (.ref f_is_name)))
    (l_is_name : K.lookup f_is_name = some ⟨oc_is_name, od_is_name, .func (PySem.W.fnOf "is_name" "is_name" (defArgs s_is_name) (defBody s_is_name) (defScope s_is_name) .none kV_is_name dc_is_name pm_is_name an_is_name cd_is_name ct_is_name), sl_is_name⟩)
    (c_is_name : PySem.W.codeIn K cd_is_name "is_name" = true)
    (k_is_name : PySem.W.keepIn K (.ref f_is_name) = true)
    (a_is_row : PySem.W.nsIn K mainGlobals "is_row" = some (some (.ref f_is_row)))
    (l_is_row : K.lookup f_is_row = some ⟨oc_is_row, od_is_row, .func (PySem.W.fnOf "is_row" "is_row" (defArgs s_is_row) (defBody s_is_row) (defScope s_is_row) .none kV_is_row dc_is_row pm_is_row an_is_row cd_is_row ct_is_row), sl_is_row⟩)
    (c_is_row : PySem.W.codeIn K cd_is_row "is_row" = true)
    (k_is_row : PySem.W.keepIn K (.ref f_is_row) = true)
    (a_is_sequence : PySem.W.nsIn K mainGlobals "is_sequence" = some (some (.ref f_is_sequence)))
    (l_is_sequence : K.lookup f_is_sequence = some ⟨oc_is_sequence, od_is_sequence, .func (PySem.W.fnOf "is_sequence" "is_sequence" (defArgs s_is_sequence) (defBody s_is_sequence) (defScope s_is_sequence) .none kV_is_sequence dc_is_sequence pm_is_sequence an_is_sequence cd_is_sequence ct_is_sequence), sl_is_sequence⟩)
    (c_is_sequence : PySem.W.codeIn K cd_is_sequence "is_sequence" = true)
    (k_is_sequence : PySem.W.keepIn K (.ref f_is_sequence) = true)
    (a_is_family : PySem.W.nsIn K mainGlobals "is_family" = some (some (.ref f_is_family)))
    (l_is_family : K.lookup f_is_family = some ⟨oc_is_family, od_is_family, .func (PySem.W.fnOf "is_family" "is_family" (defArgs s_is_family) (defBody s_is_family) (defScope s_is_family) .none kV_is_family dc_is_family pm_is_family an_is_family cd_is_family ct_is_family), sl_is_family⟩)
    (c_is_family : PySem.W.codeIn K cd_is_family "is_family" = true)
    (k_is_family : PySem.W.keepIn K (.ref f_is_family) = true)
    (a_is_size : PySem.W.nsIn K mainGlobals "is_size" = some (some (.ref f_is_size)))
    (l_is_size : K.lookup f_is_size = some ⟨oc_is_size, od_is_size, .func (PySem.W.fnOf "is_size" "is_size" (defArgs s_is_size) (defBody s_is_size) (defScope s_is_size) .none kV_is_size dc_is_size pm_is_size an_is_size cd_is_size ct_is_size), sl_is_size⟩)
    (c_is_size : PySem.W.codeIn K cd_is_size "is_size" = true)
    (k_is_size : PySem.W.keepIn K (.ref f_is_size) = true)
    (a_is_path : PySem.W.nsIn K mainGlobals "is_path" = some (some (.ref f_is_path)))
    (l_is_path : K.lookup f_is_path = some ⟨oc_is_path, od_is_path, .func (PySem.W.fnOf "is_path" "is_path" (defArgs s_is_path) (defBody s_is_path) (defScope s_is_path) .none kV_is_path dc_is_path pm_is_path an_is_path cd_is_path ct_is_path), sl_is_path⟩)
    (c_is_path : PySem.W.codeIn K cd_is_path "is_path" = true)
    (k_is_path : PySem.W.keepIn K (.ref f_is_path) = true)
    (a_check_box : PySem.W.nsIn K mainGlobals "check_box" = some (some (.ref f_check_box)))
    (l_check_box : K.lookup f_check_box = some ⟨oc_check_box, od_check_box, .func (PySem.W.fnOf "check_box" "check_box" (defArgs s_check_box) (defBody s_check_box) (defScope s_check_box) .none kV_check_box dc_check_box pm_check_box an_check_box cd_check_box ct_check_box), sl_check_box⟩)
    (c_check_box : PySem.W.codeIn K cd_check_box "check_box" = true)
    (k_check_box : PySem.W.keepIn K (.ref f_check_box) = true)
    (a_is_placed_mark : PySem.W.nsIn K mainGlobals "is_placed_mark" = some (some (.ref f_is_placed_mark)))
    (l_is_placed_mark : K.lookup f_is_placed_mark = some ⟨oc_is_placed_mark, od_is_placed_mark, .func (PySem.W.fnOf "is_placed_mark" "is_placed_mark" (defArgs s_is_placed_mark) (defBody s_is_placed_mark) (defScope s_is_placed_mark) .none kV_is_placed_mark dc_is_placed_mark pm_is_placed_mark an_is_placed_mark cd_is_placed_mark ct_is_placed_mark), sl_is_placed_mark⟩)
    (c_is_placed_mark : PySem.W.codeIn K cd_is_placed_mark "is_placed_mark" = true)
    (k_is_placed_mark : PySem.W.keepIn K (.ref f_is_placed_mark) = true)
    (a_is_mark : PySem.W.nsIn K mainGlobals "is_mark" = some (some (.ref f_is_mark)))
    (l_is_mark : K.lookup f_is_mark = some ⟨oc_is_mark, od_is_mark, .func (PySem.W.fnOf "is_mark" "is_mark" (defArgs s_is_mark) (defBody s_is_mark) (defScope s_is_mark) .none kV_is_mark dc_is_mark pm_is_mark an_is_mark cd_is_mark ct_is_mark), sl_is_mark⟩)
    (c_is_mark : PySem.W.codeIn K cd_is_mark "is_mark" = true)
    (k_is_mark : PySem.W.keepIn K (.ref f_is_mark) = true)
    (a_is_glyph_mark : PySem.W.nsIn K mainGlobals "is_glyph_mark" = some (some (.ref f_is_glyph_mark)))
    (l_is_glyph_mark : K.lookup f_is_glyph_mark = some ⟨oc_is_glyph_mark, od_is_glyph_mark, .func (PySem.W.fnOf "is_glyph_mark" "is_glyph_mark" (defArgs s_is_glyph_mark) (defBody s_is_glyph_mark) (defScope s_is_glyph_mark) .none kV_is_glyph_mark dc_is_glyph_mark pm_is_glyph_mark an_is_glyph_mark cd_is_glyph_mark ct_is_glyph_mark), sl_is_glyph_mark⟩)
    (c_is_glyph_mark : PySem.W.codeIn K cd_is_glyph_mark "is_glyph_mark" = true)
    (k_is_glyph_mark : PySem.W.keepIn K (.ref f_is_glyph_mark) = true)
    (a_is_rule_mark : PySem.W.nsIn K mainGlobals "is_rule_mark" = some (some (.ref f_is_rule_mark)))
    (l_is_rule_mark : K.lookup f_is_rule_mark = some ⟨oc_is_rule_mark, od_is_rule_mark, .func (PySem.W.fnOf "is_rule_mark" "is_rule_mark" (defArgs s_is_rule_mark) (defBody s_is_rule_mark) (defScope s_is_rule_mark) .none kV_is_rule_mark dc_is_rule_mark pm_is_rule_mark an_is_rule_mark cd_is_rule_mark ct_is_rule_mark), sl_is_rule_mark⟩)
    (c_is_rule_mark : PySem.W.codeIn K cd_is_rule_mark "is_rule_mark" = true)
    (k_is_rule_mark : PySem.W.keepIn K (.ref f_is_rule_mark) = true)
    (a_check_signed : PySem.W.nsIn K mainGlobals "check_signed" = some (some (.ref f_check_signed)))
    (l_check_signed : K.lookup f_check_signed = some ⟨oc_check_signed, od_check_signed, .func (PySem.W.fnOf "check_signed" "check_signed" (defArgs s_check_signed) (defBody s_check_signed) (defScope s_check_signed) .none kV_check_signed dc_check_signed pm_check_signed an_check_signed cd_check_signed ct_check_signed), sl_check_signed⟩)
    (c_check_signed : PySem.W.codeIn K cd_check_signed "check_signed" = true)
    (k_check_signed : PySem.W.keepIn K (.ref f_check_signed) = true)
    (a_marks_moved : PySem.W.nsIn K mainGlobals "marks_moved" = some (some (.ref f_marks_moved)))
    (l_marks_moved : K.lookup f_marks_moved = some ⟨oc_marks_moved, od_marks_moved, .func (PySem.W.fnOf "marks_moved" "marks_moved" (defArgs s_marks_moved) (defBody s_marks_moved) (defScope s_marks_moved) .none kV_marks_moved dc_marks_moved pm_marks_moved an_marks_moved cd_marks_moved ct_marks_moved), sl_marks_moved⟩)
    (c_marks_moved : PySem.W.codeIn K cd_marks_moved "marks_moved" = true)
    (k_marks_moved : PySem.W.keepIn K (.ref f_marks_moved) = true)
    (a_moved : PySem.W.nsIn K mainGlobals "moved" = some (some (.ref f_moved)))
    (l_moved : K.lookup f_moved = some ⟨oc_moved, od_moved, .func (PySem.W.fnOf "moved" "moved" (defArgs s_moved) (defBody s_moved) (defScope s_moved) .none kV_moved dc_moved pm_moved an_moved cd_moved ct_moved), sl_moved⟩)
    (c_moved : PySem.W.codeIn K cd_moved "moved" = true)
    (k_moved : PySem.W.keepIn K (.ref f_moved) = true)
    (a_together : PySem.W.nsIn K mainGlobals "together" = some (some (.ref f_together)))
    (l_together : K.lookup f_together = some ⟨oc_together, od_together, .func (PySem.W.fnOf "together" "together" (defArgs s_together) (defBody s_together) (defScope s_together) .none kV_together dc_together pm_together an_together cd_together ct_together), sl_together⟩)
    (c_together : PySem.W.codeIn K cd_together "together" = true)
    (k_together : PySem.W.keepIn K (.ref f_together) = true)
    (a_check_placed : PySem.W.nsIn K mainGlobals "check_placed" = some (some (.ref f_check_placed)))
    (l_check_placed : K.lookup f_check_placed = some ⟨oc_check_placed, od_check_placed, .func (PySem.W.fnOf "check_placed" "check_placed" (defArgs s_check_placed) (defBody s_check_placed) (defScope s_check_placed) .none kV_check_placed dc_check_placed pm_check_placed an_check_placed cd_check_placed ct_check_placed), sl_check_placed⟩)
    (c_check_placed : PySem.W.codeIn K cd_check_placed "check_placed" = true)
    (k_check_placed : PySem.W.keepIn K (.ref f_check_placed) = true)
    (a_widened : PySem.W.nsIn K mainGlobals "widened" = some (some (.ref f_widened)))
    (l_widened : K.lookup f_widened = some ⟨oc_widened, od_widened, .func (PySem.W.fnOf "widened" "widened" (defArgs s_widened) (defBody s_widened) (defScope s_widened) .none kV_widened dc_widened pm_widened an_widened cd_widened ct_widened), sl_widened⟩)
    (c_widened : PySem.W.codeIn K cd_widened "widened" = true)
    (k_widened : PySem.W.keepIn K (.ref f_widened) = true)
    (a__law_mix : PySem.W.nsIn K mainGlobals "_law_mix" = some (some (.ref f__law_mix)))
    (l__law_mix : K.lookup f__law_mix = some ⟨oc__law_mix, od__law_mix, .func (PySem.W.fnOf "_law_mix" "_law_mix" (defArgs s__law_mix) (defBody s__law_mix) (defScope s__law_mix) .none kV__law_mix dc__law_mix pm__law_mix an__law_mix cd__law_mix ct__law_mix), sl__law_mix⟩)
    (c__law_mix : PySem.W.codeIn K cd__law_mix "_law_mix" = true)
    (k__law_mix : PySem.W.keepIn K (.ref f__law_mix) = true)
    (a__law_source : PySem.W.nsIn K mainGlobals "_law_source" = some (some (.ref f__law_source)))
    (l__law_source : K.lookup f__law_source = some ⟨oc__law_source, od__law_source, .func (PySem.W.fnOf "_law_source" "_law_source" (defArgs s__law_source) (defBody s__law_source) (defScope s__law_source) .none kV__law_source dc__law_source pm__law_source an__law_source cd__law_source ct__law_source), sl__law_source⟩)
    (c__law_source : PySem.W.codeIn K cd__law_source "_law_source" = true)
    (k__law_source : PySem.W.keepIn K (.ref f__law_source) = true)
    (a__law_draw : PySem.W.nsIn K mainGlobals "_law_draw" = some (some (.ref f__law_draw)))
    (l__law_draw : K.lookup f__law_draw = some ⟨oc__law_draw, od__law_draw, .func (PySem.W.fnOf "_law_draw" "_law_draw" (defArgs s__law_draw) (defBody s__law_draw) (defScope s__law_draw) .none kV__law_draw dc__law_draw pm__law_draw an__law_draw cd__law_draw ct__law_draw), sl__law_draw⟩)
    (c__law_draw : PySem.W.codeIn K cd__law_draw "_law_draw" = true)
    (k__law_draw : PySem.W.keepIn K (.ref f__law_draw) = true)
    (a__law_pick : PySem.W.nsIn K mainGlobals "_law_pick" = some (some (.ref f__law_pick)))
    (l__law_pick : K.lookup f__law_pick = some ⟨oc__law_pick, od__law_pick, .func (PySem.W.fnOf "_law_pick" "_law_pick" (defArgs s__law_pick) (defBody s__law_pick) (defScope s__law_pick) .none kV__law_pick dc__law_pick pm__law_pick an__law_pick cd__law_pick ct__law_pick), sl__law_pick⟩)
    (c__law_pick : PySem.W.codeIn K cd__law_pick "_law_pick" = true)
    (k__law_pick : PySem.W.keepIn K (.ref f__law_pick) = true)
    (a__law_number : PySem.W.nsIn K mainGlobals "_law_number" = some (some (.ref f__law_number)))
    (l__law_number : K.lookup f__law_number = some ⟨oc__law_number, od__law_number, .func (PySem.W.fnOf "_law_number" "_law_number" (defArgs s__law_number) (defBody s__law_number) (defScope s__law_number) .none kV__law_number dc__law_number pm__law_number an__law_number cd__law_number ct__law_number), sl__law_number⟩)
    (c__law_number : PySem.W.codeIn K cd__law_number "_law_number" = true)
    (k__law_number : PySem.W.keepIn K (.ref f__law_number) = true)
    (a__law_mark : PySem.W.nsIn K mainGlobals "_law_mark" = some (some (.ref f__law_mark)))
    (l__law_mark : K.lookup f__law_mark = some ⟨oc__law_mark, od__law_mark, .func (PySem.W.fnOf "_law_mark" "_law_mark" (defArgs s__law_mark) (defBody s__law_mark) (defScope s__law_mark) .none kV__law_mark dc__law_mark pm__law_mark an__law_mark cd__law_mark ct__law_mark), sl__law_mark⟩)
    (c__law_mark : PySem.W.codeIn K cd__law_mark "_law_mark" = true)
    (k__law_mark : PySem.W.keepIn K (.ref f__law_mark) = true)
    (a__law_marks : PySem.W.nsIn K mainGlobals "_law_marks" = some (some (.ref f__law_marks)))
    (l__law_marks : K.lookup f__law_marks = some ⟨oc__law_marks, od__law_marks, .func (PySem.W.fnOf "_law_marks" "_law_marks" (defArgs s__law_marks) (defBody s__law_marks) (defScope s__law_marks) .none kV__law_marks dc__law_marks pm__law_marks an__law_marks cd__law_marks ct__law_marks), sl__law_marks⟩)
    (c__law_marks : PySem.W.codeIn K cd__law_marks "_law_marks" = true)
    (k__law_marks : PySem.W.keepIn K (.ref f__law_marks) = true)
    (a__law_box : PySem.W.nsIn K mainGlobals "_law_box" = some (some (.ref f__law_box)))
    (l__law_box : K.lookup f__law_box = some ⟨oc__law_box, od__law_box, .func (PySem.W.fnOf "_law_box" "_law_box" (defArgs s__law_box) (defBody s__law_box) (defScope s__law_box) .none kV__law_box dc__law_box pm__law_box an__law_box cd__law_box ct__law_box), sl__law_box⟩)
    (c__law_box : PySem.W.codeIn K cd__law_box "_law_box" = true)
    (k__law_box : PySem.W.keepIn K (.ref f__law_box) = true)
    (a__law_all : PySem.W.nsIn K mainGlobals "_law_all" = some (some (.ref f__law_all)))
    (l__law_all : K.lookup f__law_all = some ⟨oc__law_all, od__law_all, .func (PySem.W.fnOf "_law_all" "_law_all" (defArgs s__law_all) (defBody s__law_all) (defScope s__law_all) .none kV__law_all dc__law_all pm__law_all an__law_all cd__law_all ct__law_all), sl__law_all⟩)
    (c__law_all : PySem.W.codeIn K cd__law_all "_law_all" = true)
    (k__law_all : PySem.W.keepIn K (.ref f__law_all) = true)
    (a__law_shifted : PySem.W.nsIn K mainGlobals "_law_shifted" = some (some (.ref f__law_shifted)))
    (l__law_shifted : K.lookup f__law_shifted = some ⟨oc__law_shifted, od__law_shifted, .func (PySem.W.fnOf "_law_shifted" "_law_shifted" (defArgs s__law_shifted) (defBody s__law_shifted) (defScope s__law_shifted) .none kV__law_shifted dc__law_shifted pm__law_shifted an__law_shifted cd__law_shifted ct__law_shifted), sl__law_shifted⟩)
    (c__law_shifted : PySem.W.codeIn K cd__law_shifted "_law_shifted" = true)
    (k__law_shifted : PySem.W.keepIn K (.ref f__law_shifted) = true)
    (a__law_moved_right : PySem.W.nsIn K mainGlobals "_law_moved_right" = some (some (.ref f__law_moved_right)))
    (l__law_moved_right : K.lookup f__law_moved_right = some ⟨oc__law_moved_right, od__law_moved_right, .func (PySem.W.fnOf "_law_moved_right" "_law_moved_right" (defArgs s__law_moved_right) (defBody s__law_moved_right) (defScope s__law_moved_right) .none kV__law_moved_right dc__law_moved_right pm__law_moved_right an__law_moved_right cd__law_moved_right ct__law_moved_right), sl__law_moved_right⟩)
    (c__law_moved_right : PySem.W.codeIn K cd__law_moved_right "_law_moved_right" = true)
    (k__law_moved_right : PySem.W.keepIn K (.ref f__law_moved_right) = true)
    (a__law_together_right : PySem.W.nsIn K mainGlobals "_law_together_right" = some (some (.ref f__law_together_right)))
    (l__law_together_right : K.lookup f__law_together_right = some ⟨oc__law_together_right, od__law_together_right, .func (PySem.W.fnOf "_law_together_right" "_law_together_right" (defArgs s__law_together_right) (defBody s__law_together_right) (defScope s__law_together_right) .none kV__law_together_right dc__law_together_right pm__law_together_right an__law_together_right cd__law_together_right ct__law_together_right), sl__law_together_right⟩)
    (c__law_together_right : PySem.W.codeIn K cd__law_together_right "_law_together_right" = true)
    (k__law_together_right : PySem.W.keepIn K (.ref f__law_together_right) = true)
    (a__law_widened_right : PySem.W.nsIn K mainGlobals "_law_widened_right" = some (some (.ref f__law_widened_right)))
    (l__law_widened_right : K.lookup f__law_widened_right = some ⟨oc__law_widened_right, od__law_widened_right, .func (PySem.W.fnOf "_law_widened_right" "_law_widened_right" (defArgs s__law_widened_right) (defBody s__law_widened_right) (defScope s__law_widened_right) .none kV__law_widened_right dc__law_widened_right pm__law_widened_right an__law_widened_right cd__law_widened_right ct__law_widened_right), sl__law_widened_right⟩)
    (c__law_widened_right : PySem.W.codeIn K cd__law_widened_right "_law_widened_right" = true)
    (k__law_widened_right : PySem.W.keepIn K (.ref f__law_widened_right) = true)
    (a__law_right : PySem.W.nsIn K mainGlobals "_law_right" = some (some (.ref f__law_right)))
    (l__law_right : K.lookup f__law_right = some ⟨oc__law_right, od__law_right, .func (PySem.W.fnOf "_law_right" "_law_right" (defArgs s__law_right) (defBody s__law_right) (defScope s__law_right) .none kV__law_right dc__law_right pm__law_right an__law_right cd__law_right ct__law_right), sl__law_right⟩)
    (c__law_right : PySem.W.codeIn K cd__law_right "_law_right" = true)
    (k__law_right : PySem.W.keepIn K (.ref f__law_right) = true)
    (a_law : PySem.W.nsIn K mainGlobals "law" = some (some (.ref f_law)))
    (l_law : K.lookup f_law = some ⟨oc_law, od_law, .func (PySem.W.fnOf "law" "law" (defArgs s_law) (defBody s_law) (defScope s_law) .none kV_law dc_law pm_law an_law cd_law ct_law), sl_law⟩)
    (c_law : PySem.W.codeIn K cd_law "law" = true)
    (k_law : PySem.W.keepIn K (.ref f_law) = true)
    (aC : PySem.W.nsIn K mainGlobals "Box" = some (some (.ref C)))
    (a_init : PySem.W.findIn K (.ref C) "__init__" = some (some (.ref f_init)))
    (i_init : PySem.W.isFn K (.ref f_init) = true)
    (l_init : K.lookup f_init = some ⟨oc_init, od_init, .func (PySem.W.fnOf "__init__" "Box.__init__" (defArgs s_Box___init__) (defBody s_Box___init__) (defScope s_Box___init__) (.ref Td) kV_init dc_init pm_init an_init cd_init ct_init), sl_init⟩)
    (c_init : PySem.W.codeIn K cd_init "Box.__init__" = true)
    (k_init : PySem.W.keepIn K (.ref f_init) = true)
    (l_T : K.lookup Td = some oT)
    (d_T : oT.data = .seq #[.ref e0] nT)
    (a_eq : PySem.W.findIn K (.ref C) "__eq__" = some (some (.ref f_eq)))
    (i_eq : PySem.W.isFn K (.ref f_eq) = true)
    (l_eq : K.lookup f_eq = some ⟨oc_eq, od_eq, .func (PySem.W.fnOf "__eq__" "Box.__eq__" (defArgs s_Box___eq__) (defBody s_Box___eq__) (defScope s_Box___eq__) .none kV_eq dc_eq pm_eq an_eq cd_eq ct_eq), sl_eq⟩)
    (c_eq : PySem.W.codeIn K cd_eq "Box.__eq__" = true)
    (k_eq : PySem.W.keepIn K (.ref f_eq) = true)
    (pg : PySem.W.plainGet K C Str.empty = true)
    (hd : PySem.W.hasDictIn K C = true)
    (po : PySem.W.plainOver K C = true)
    (sa : PySem.W.findIn K (.ref C) "__setattr__" = some (some (.builtin "object.__setattr__")))
    (mk : PySem.W.makesIn K C = true)
    (kc : PySem.W.keepIn K (.ref C) = true)
    (n_width : PySem.W.findIn K (.ref C) "width" = some none)
    (n_height : PySem.W.findIn K (.ref C) "height" = some none)
    (n_depth : PySem.W.findIn K (.ref C) "depth" = some none)
    (n_marks : PySem.W.findIn K (.ref C) "marks" = some none)
    (ha : PySem.W.findIn K (.ref C) "__class__" = some (some (.builtin "object.__class__")))
    (hn : PySem.W.specialIn K (.builtin "object.__class__") "__get__" = some (some (.builtin "getset_descriptor.__get__")))
    (htk : PySem.W.takesIn K (.builtin "object.__class__") = some true)
    (hm : PySem.W.mroIn K C (.type "object") = some true)
    (ne : PySem.W.findIn K (.ref C) "__ne__" = some (some (.builtin "object.__ne__")))
    (v_LIMIT : PySem.W.nsIn K mainGlobals "LIMIT" = some (some (.int 1000000000000000000000000000000000000000000000000000000000000 t_LIMIT)))
    (v_MOST_FAMILIES : PySem.W.nsIn K mainGlobals "MOST_FAMILIES" = some (some (.int 4 t_MOST_FAMILIES)))
    (v_SIZES : PySem.W.nsIn K mainGlobals "SIZES" = some (some (.int 3 t_SIZES)))
    (v_MOST_LETTERS : PySem.W.nsIn K mainGlobals "MOST_LETTERS" = some (some (.int 8 t_MOST_LETTERS)))
    (z_isinstance : PySem.W.nsIn K mainGlobals "isinstance" = some none)
    (z_int : PySem.W.nsIn K mainGlobals "int" = some none)
    (z_bool : PySem.W.nsIn K mainGlobals "bool" = some none)
    (z_str : PySem.W.nsIn K mainGlobals "str" = some none)
    (z_tuple : PySem.W.nsIn K mainGlobals "tuple" = some none)
    (z_list : PySem.W.nsIn K mainGlobals "list" = some none)
    (z_len : PySem.W.nsIn K mainGlobals "len" = some none)
    (z_max : PySem.W.nsIn K mainGlobals "max" = some none)
    (z_min : PySem.W.nsIn K mainGlobals "min" = some none)
    (z_all : PySem.W.nsIn K mainGlobals "all" = some none)
    (z_repr : PySem.W.nsIn K mainGlobals "repr" = some none)
    (z_range : PySem.W.nsIn K mainGlobals "range" = some none) :
    ∃ fd : FuncData, (∀ (s : Shared) (v : Value), BindsTo s fd ⟨[v], []⟩ [("script", v)]) ∧ ∀ base : Heap, K.In base → base.Ns mainGlobals mg → FnG l.prog w K mg base 12 fa fd ["script"] (spLaw K) := by
  have e := hfa.symm.trans (PySem.W.mg_of X G a_law)
  cases e
  have cl : Cls K C := ⟨pg, hd, po, sa⟩
  have F_is_integer := fun_mk (st := s_is_integer) l_is_integer c_is_integer k_is_integer
  have b_is_integer := F_is_integer.binds (ps := ["value"]) fun _ _ _ _ _ _ us hl => match us, hl with | [_], _ => rfl
  have F_is_between := fun_mk (st := s_is_between) l_is_between c_is_between k_is_between
  have b_is_between := F_is_between.binds (ps := ["value", "least", "greatest"]) fun _ _ _ _ _ _ us hl => match us, hl with | [_, _, _], _ => rfl
  have F_is_signed := fun_mk (st := s_is_signed) l_is_signed c_is_signed k_is_signed
  have b_is_signed := F_is_signed.binds (ps := ["value"]) fun _ _ _ _ _ _ us hl => match us, hl with | [_], _ => rfl
  have F_is_word := fun_mk (st := s_is_word) l_is_word c_is_word k_is_word
  have b_is_word := F_is_word.binds (ps := ["value", "words"]) fun _ _ _ _ _ _ us hl => match us, hl with | [_, _], _ => rfl
  have F_is_name := fun_mk (st := s_is_name) l_is_name c_is_name k_is_name
  have b_is_name := F_is_name.binds (ps := ["value"]) fun _ _ _ _ _ _ us hl => match us, hl with | [_], _ => rfl
  have F_is_row := fun_mk (st := s_is_row) l_is_row c_is_row k_is_row
  have b_is_row := F_is_row.binds (ps := ["value", "many"]) fun _ _ _ _ _ _ us hl => match us, hl with | [_, _], _ => rfl
  have F_is_sequence := fun_mk (st := s_is_sequence) l_is_sequence c_is_sequence k_is_sequence
  have b_is_sequence := F_is_sequence.binds (ps := ["value"]) fun _ _ _ _ _ _ us hl => match us, hl with | [_], _ => rfl
  have F_is_family := fun_mk (st := s_is_family) l_is_family c_is_family k_is_family
  have b_is_family := F_is_family.binds (ps := ["value"]) fun _ _ _ _ _ _ us hl => match us, hl with | [_], _ => rfl
  have F_is_size := fun_mk (st := s_is_size) l_is_size c_is_size k_is_size
  have b_is_size := F_is_size.binds (ps := ["value"]) fun _ _ _ _ _ _ us hl => match us, hl with | [_], _ => rfl
  have F_is_path := fun_mk (st := s_is_path) l_is_path c_is_path k_is_path
  have b_is_path := F_is_path.binds (ps := ["value"]) fun _ _ _ _ _ _ us hl => match us, hl with | [_], _ => rfl
  have F_check_box := fun_mk (st := s_check_box) l_check_box c_check_box k_check_box
  have b_check_box := F_check_box.binds (ps := ["box"]) fun _ _ _ _ _ _ us hl => match us, hl with | [_], _ => rfl
  have F_is_placed_mark := fun_mk (st := s_is_placed_mark) l_is_placed_mark c_is_placed_mark k_is_placed_mark
  have b_is_placed_mark := F_is_placed_mark.binds (ps := ["value"]) fun _ _ _ _ _ _ us hl => match us, hl with | [_], _ => rfl
  have F_is_mark := fun_mk (st := s_is_mark) l_is_mark c_is_mark k_is_mark
  have b_is_mark := F_is_mark.binds (ps := ["value"]) fun _ _ _ _ _ _ us hl => match us, hl with | [_], _ => rfl
  have F_is_glyph_mark := fun_mk (st := s_is_glyph_mark) l_is_glyph_mark c_is_glyph_mark k_is_glyph_mark
  have b_is_glyph_mark := F_is_glyph_mark.binds (ps := ["value"]) fun _ _ _ _ _ _ us hl => match us, hl with | [_], _ => rfl
  have F_is_rule_mark := fun_mk (st := s_is_rule_mark) l_is_rule_mark c_is_rule_mark k_is_rule_mark
  have b_is_rule_mark := F_is_rule_mark.binds (ps := ["value"]) fun _ _ _ _ _ _ us hl => match us, hl with | [_], _ => rfl
  have F_check_signed := fun_mk (st := s_check_signed) l_check_signed c_check_signed k_check_signed
  have b_check_signed := F_check_signed.binds (ps := ["value", "part"]) fun _ _ _ _ _ _ us hl => match us, hl with | [_, _], _ => rfl
  have F_marks_moved := fun_mk (st := s_marks_moved) l_marks_moved c_marks_moved k_marks_moved
  have b_marks_moved := F_marks_moved.binds (ps := ["box", "dx", "dy"]) fun _ _ _ _ _ _ us hl => match us, hl with | [_, _, _], _ => rfl
  have F_moved := fun_mk (st := s_moved) l_moved c_moved k_moved
  have b_moved := F_moved.binds (ps := ["box", "dx", "dy"]) fun _ _ _ _ _ _ us hl => match us, hl with | [_, _, _], _ => rfl
  have F_together := fun_mk (st := s_together) l_together c_together k_together
  have b_together := F_together.binds (ps := ["width", "height", "depth", "placed"]) fun _ _ _ _ _ _ us hl => match us, hl with | [_, _, _, _], _ => rfl
  have F_check_placed := fun_mk (st := s_check_placed) l_check_placed c_check_placed k_check_placed
  have b_check_placed := F_check_placed.binds (ps := ["placed"]) fun _ _ _ _ _ _ us hl => match us, hl with | [_], _ => rfl
  have F_widened := fun_mk (st := s_widened) l_widened c_widened k_widened
  have b_widened := F_widened.binds (ps := ["box", "width"]) fun _ _ _ _ _ _ us hl => match us, hl with | [_, _], _ => rfl
  have F__law_mix := fun_mk (st := s__law_mix) l__law_mix c__law_mix k__law_mix
  have b__law_mix := F__law_mix.binds (ps := ["cell", "lap"]) fun _ _ _ _ _ _ us hl => match us, hl with | [_, _], _ => rfl
  have F__law_source := fun_mk (st := s__law_source) l__law_source c__law_source k__law_source
  have b__law_source := F__law_source.binds (ps := ["script", "k"]) fun _ _ _ _ _ _ us hl => match us, hl with | [_, _], _ => rfl
  have F__law_draw := fun_mk (st := s__law_draw) l__law_draw c__law_draw k__law_draw
  have b__law_draw := F__law_draw.binds (ps := ["well", "many"]) fun _ _ _ _ _ _ us hl => match us, hl with | [_, _], _ => rfl
  have F__law_pick := fun_mk (st := s__law_pick) l__law_pick c__law_pick k__law_pick
  have b__law_pick := F__law_pick.binds (ps := ["well", "some"]) fun _ _ _ _ _ _ us hl => match us, hl with | [_, _], _ => rfl
  have F__law_number := fun_mk (st := s__law_number) l__law_number c__law_number k__law_number
  have b__law_number := F__law_number.binds (ps := ["well"]) fun _ _ _ _ _ _ us hl => match us, hl with | [_], _ => rfl
  have F__law_mark := fun_mk (st := s__law_mark) l__law_mark c__law_mark k__law_mark
  have b__law_mark := F__law_mark.binds (ps := ["well"]) fun _ _ _ _ _ _ us hl => match us, hl with | [_], _ => rfl
  have F__law_marks := fun_mk (st := s__law_marks) l__law_marks c__law_marks k__law_marks
  have b__law_marks := F__law_marks.binds (ps := ["well"]) fun _ _ _ _ _ _ us hl => match us, hl with | [_], _ => rfl
  have F__law_box := fun_mk (st := s__law_box) l__law_box c__law_box k__law_box
  have b__law_box := F__law_box.binds (ps := ["well"]) fun _ _ _ _ _ _ us hl => match us, hl with | [_], _ => rfl
  have F__law_all := fun_mk (st := s__law_all) l__law_all c__law_all k__law_all
  have b__law_all := F__law_all.binds (ps := ["one"]) fun _ _ _ _ _ _ us hl => match us, hl with | [_], _ => rfl
  have F__law_shifted := fun_mk (st := s__law_shifted) l__law_shifted c__law_shifted k__law_shifted
  have b__law_shifted := F__law_shifted.binds (ps := ["marks", "across", "up"]) fun _ _ _ _ _ _ us hl => match us, hl with | [_, _, _], _ => rfl
  have F__law_moved_right := fun_mk (st := s__law_moved_right) l__law_moved_right c__law_moved_right k__law_moved_right
  have b__law_moved_right := F__law_moved_right.binds (ps := ["well"]) fun _ _ _ _ _ _ us hl => match us, hl with | [_], _ => rfl
  have F__law_together_right := fun_mk (st := s__law_together_right) l__law_together_right c__law_together_right k__law_together_right
  have b__law_together_right := F__law_together_right.binds (ps := ["well"]) fun _ _ _ _ _ _ us hl => match us, hl with | [_], _ => rfl
  have F__law_widened_right := fun_mk (st := s__law_widened_right) l__law_widened_right c__law_widened_right k__law_widened_right
  have b__law_widened_right := F__law_widened_right.binds (ps := ["well"]) fun _ _ _ _ _ _ us hl => match us, hl with | [_], _ => rfl
  have F__law_right := fun_mk (st := s__law_right) l__law_right c__law_right k__law_right
  have b__law_right := F__law_right.binds (ps := ["well"]) fun _ _ _ _ _ _ us hl => match us, hl with | [_], _ => rfl
  have F_law := fun_mk (st := s_law) l_law c_law k_law
  have b_law := F_law.binds (ps := ["script"]) fun _ _ _ _ _ _ us hl => match us, hl with | [_], _ => rfl
  have F_eq := fun_mk (st := s_Box___eq__) l_eq c_eq k_eq
  have b_eq := F_eq.binds (ps := ["self", "other"]) fun _ _ _ _ _ _ us hl => match us, hl with | [_, _], _ => rfl
  have FI : FunD K "__init__" "Box.__init__" (defArgs s_Box___init__) (defBody s_Box___init__) (defScope s_Box___init__) [.ref e0] [] f_init (PySem.W.fnOf "__init__" "Box.__init__" (defArgs s_Box___init__) (defBody s_Box___init__) (defScope s_Box___init__) (.ref Td) kV_init dc_init pm_init an_init cd_init ct_init) :=
    ⟨⟨_, _, _, _, _, _, _, _, _, _, rfl, l_init, c_init, .inr ⟨by simp, Td, oT, [.ref e0], nT, rfl, l_T, d_T, .cons rfl .nil⟩, .inl rfl⟩, k_init⟩
  have bI : Binds K (PySem.W.fnOf "__init__" "Box.__init__" (defArgs s_Box___init__) (defBody s_Box___init__) (defScope s_Box___init__) (.ref Td) kV_init dc_init pm_init an_init cd_init ct_init) ["self", "width", "height", "depth", "marks"] [] := by
    obtain ⟨ds, hv, hb⟩ := FI.binds1 (ps := ["self", "width", "height", "depth", "marks"]) 5 1 (by simp) rfl fun T kV doc pm an cdv ct us its hl hi => match us, hl, its, hi with | [_, _, _, _, _], _, [_], _ => ⟨_, rfl, rfl⟩
    cases hv
    exact hb
  have kb_moved : KBinds K (PySem.W.fnOf "moved" "moved" (defArgs s_moved) (defBody s_moved) (defScope s_moved) .none kV_moved dc_moved pm_moved an_moved cd_moved ct_moved) ["box", "dx", "dy"] ["dx", "dy", "box"] (noPos permM) (noPos permM) :=
    ⟨fun s us ws _ hl => match us, ws, hl with
      | [], [], h => (nomatch h)
      | [], [_], h => (nomatch h)
      | [], [_, _], h => (nomatch h)
      | [], [_, _, _], h => .of_eq rfl
      | [], _ :: _ :: _ :: _ :: _, h => (nomatch h)
      | _ :: _, _, h => (nomatch h), fun r1 r2 => by
      cases r1 with
      | nil => exact permM_rel r2
      | cons _ _ => exact .nil⟩
  have kb_together : KBinds K (PySem.W.fnOf "together" "together" (defArgs s_together) (defBody s_together) (defScope s_together) .none kV_together dc_together pm_together an_together cd_together ct_together) ["width", "height", "depth", "placed"] ["depth", "height", "placed", "width"] (noPos permT) (noPos permT) :=
    ⟨fun s us ws _ hl => match us, ws, hl with
      | [], [], h => (nomatch h)
      | [], [_], h => (nomatch h)
      | [], [_, _], h => (nomatch h)
      | [], [_, _, _], h => (nomatch h)
      | [], [_, _, _, _], h => .of_eq rfl
      | [], _ :: _ :: _ :: _ :: _ :: _, h => (nomatch h)
      | _ :: _, _, h => (nomatch h), fun r1 r2 => by
      cases r1 with
      | nil => exact permT_rel r2
      | cons _ _ => exact .nil⟩
  have kb_widened : KBinds K (PySem.W.fnOf "widened" "widened" (defArgs s_widened) (defBody s_widened) (defScope s_widened) .none kV_widened dc_widened pm_widened an_widened cd_widened ct_widened) ["box", "width"] ["width", "box"] (noPos permW) (noPos permW) :=
    ⟨fun s us ws _ hl => match us, ws, hl with
      | [], [], h => (nomatch h)
      | [], [_], h => (nomatch h)
      | [], [_, _], h => .of_eq rfl
      | [], _ :: _ :: _ :: _, h => (nomatch h)
      | _ :: _, _, h => (nomatch h), fun r1 r2 => by
      cases r1 with
      | nil => exact permW_rel r2
      | cons _ _ => exact .nil⟩
  let T : Txt K mg := { z_isinstance := PySem.W.mg_none_of X G z_isinstance, z_int := PySem.W.mg_none_of X G z_int, z_bool := PySem.W.mg_none_of X G z_bool, z_str := PySem.W.mg_none_of X G z_str, z_tuple := PySem.W.mg_none_of X G z_tuple, z_list := PySem.W.mg_none_of X G z_list, z_len := PySem.W.mg_none_of X G z_len, z_max := PySem.W.mg_none_of X G z_max, z_min := PySem.W.mg_none_of X G z_min, z_all := PySem.W.mg_none_of X G z_all, z_repr := PySem.W.mg_none_of X G z_repr, z_range := PySem.W.mg_none_of X G z_range, t_LIMIT := t_LIMIT, m_LIMIT := (PySem.W.mg_of X G v_LIMIT).trans (by rw [show (10 ^ 60 : Int) = 1000000000000000000000000000000000000000000000000000000000000 by decide]), t_MOST_FAMILIES := t_MOST_FAMILIES, m_MOST_FAMILIES := PySem.W.mg_of X G v_MOST_FAMILIES, t_SIZES := t_SIZES, m_SIZES := PySem.W.mg_of X G v_SIZES, t_MOST_LETTERS := t_MOST_LETTERS, m_MOST_LETTERS := PySem.W.mg_of X G v_MOST_LETTERS, C := C, m_Box := PySem.W.mg_of X G aC, cl_Box := cl, is_Box := ⟨cl, ha, hn, htk, hm, if_pos (beq_self_eq_true _)⟩, n_Box_width := n_width, n_Box_height := n_height, n_Box_depth := n_depth, n_Box_marks := n_marks, dv0 := _, a_Box___init__ := f_init, fd_Box___init__ := _, F_Box___init__ := FI, mk_Box := ⟨mk, a_init, i_init, kc⟩, b_Box___init__ := bI, a_Box___eq__ := f_eq, fd_Box___eq__ := _, F_Box___eq__ := F_eq, b_Box___eq__ := b_eq, eq_Box := ⟨a_eq, i_eq, ne, hm⟩, a_is_integer := f_is_integer, fd_is_integer := _, F_is_integer := F_is_integer, b_is_integer := b_is_integer, m_is_integer := PySem.W.mg_of X G a_is_integer, a_is_between := f_is_between, fd_is_between := _, F_is_between := F_is_between, b_is_between := b_is_between, m_is_between := PySem.W.mg_of X G a_is_between, a_is_signed := f_is_signed, fd_is_signed := _, F_is_signed := F_is_signed, b_is_signed := b_is_signed, m_is_signed := PySem.W.mg_of X G a_is_signed, a_is_word := f_is_word, fd_is_word := _, F_is_word := F_is_word, b_is_word := b_is_word, m_is_word := PySem.W.mg_of X G a_is_word, a_is_name := f_is_name, fd_is_name := _, F_is_name := F_is_name, b_is_name := b_is_name, m_is_name := PySem.W.mg_of X G a_is_name, a_is_row := f_is_row, fd_is_row := _, F_is_row := F_is_row, b_is_row := b_is_row, m_is_row := PySem.W.mg_of X G a_is_row, a_is_sequence := f_is_sequence, fd_is_sequence := _, F_is_sequence := F_is_sequence, b_is_sequence := b_is_sequence, m_is_sequence := PySem.W.mg_of X G a_is_sequence, a_is_family := f_is_family, fd_is_family := _, F_is_family := F_is_family, b_is_family := b_is_family, m_is_family := PySem.W.mg_of X G a_is_family, a_is_size := f_is_size, fd_is_size := _, F_is_size := F_is_size, b_is_size := b_is_size, m_is_size := PySem.W.mg_of X G a_is_size, a_is_path := f_is_path, fd_is_path := _, F_is_path := F_is_path, b_is_path := b_is_path, m_is_path := PySem.W.mg_of X G a_is_path, a_check_box := f_check_box, fd_check_box := _, F_check_box := F_check_box, b_check_box := b_check_box, m_check_box := PySem.W.mg_of X G a_check_box, a_is_placed_mark := f_is_placed_mark, fd_is_placed_mark := _, F_is_placed_mark := F_is_placed_mark, b_is_placed_mark := b_is_placed_mark, m_is_placed_mark := PySem.W.mg_of X G a_is_placed_mark, a_is_mark := f_is_mark, fd_is_mark := _, F_is_mark := F_is_mark, b_is_mark := b_is_mark, m_is_mark := PySem.W.mg_of X G a_is_mark, a_is_glyph_mark := f_is_glyph_mark, fd_is_glyph_mark := _, F_is_glyph_mark := F_is_glyph_mark, b_is_glyph_mark := b_is_glyph_mark, m_is_glyph_mark := PySem.W.mg_of X G a_is_glyph_mark, a_is_rule_mark := f_is_rule_mark, fd_is_rule_mark := _, F_is_rule_mark := F_is_rule_mark, b_is_rule_mark := b_is_rule_mark, m_is_rule_mark := PySem.W.mg_of X G a_is_rule_mark, a_check_signed := f_check_signed, fd_check_signed := _, F_check_signed := F_check_signed, b_check_signed := b_check_signed, m_check_signed := PySem.W.mg_of X G a_check_signed, a_marks_moved := f_marks_moved, fd_marks_moved := _, F_marks_moved := F_marks_moved, b_marks_moved := b_marks_moved, m_marks_moved := PySem.W.mg_of X G a_marks_moved, a_moved := f_moved, fd_moved := _, F_moved := F_moved, b_moved := b_moved, m_moved := PySem.W.mg_of X G a_moved, a_together := f_together, fd_together := _, F_together := F_together, b_together := b_together, m_together := PySem.W.mg_of X G a_together, a_check_placed := f_check_placed, fd_check_placed := _, F_check_placed := F_check_placed, b_check_placed := b_check_placed, m_check_placed := PySem.W.mg_of X G a_check_placed, a_widened := f_widened, fd_widened := _, F_widened := F_widened, b_widened := b_widened, m_widened := PySem.W.mg_of X G a_widened, a__law_mix := f__law_mix, fd__law_mix := _, F__law_mix := F__law_mix, b__law_mix := b__law_mix, m__law_mix := PySem.W.mg_of X G a__law_mix, a__law_source := f__law_source, fd__law_source := _, F__law_source := F__law_source, b__law_source := b__law_source, m__law_source := PySem.W.mg_of X G a__law_source, a__law_draw := f__law_draw, fd__law_draw := _, F__law_draw := F__law_draw, b__law_draw := b__law_draw, m__law_draw := PySem.W.mg_of X G a__law_draw, a__law_pick := f__law_pick, fd__law_pick := _, F__law_pick := F__law_pick, b__law_pick := b__law_pick, m__law_pick := PySem.W.mg_of X G a__law_pick, a__law_number := f__law_number, fd__law_number := _, F__law_number := F__law_number, b__law_number := b__law_number, m__law_number := PySem.W.mg_of X G a__law_number, a__law_mark := f__law_mark, fd__law_mark := _, F__law_mark := F__law_mark, b__law_mark := b__law_mark, m__law_mark := PySem.W.mg_of X G a__law_mark, a__law_marks := f__law_marks, fd__law_marks := _, F__law_marks := F__law_marks, b__law_marks := b__law_marks, m__law_marks := PySem.W.mg_of X G a__law_marks, a__law_box := f__law_box, fd__law_box := _, F__law_box := F__law_box, b__law_box := b__law_box, m__law_box := PySem.W.mg_of X G a__law_box, a__law_all := f__law_all, fd__law_all := _, F__law_all := F__law_all, b__law_all := b__law_all, m__law_all := PySem.W.mg_of X G a__law_all, a__law_shifted := f__law_shifted, fd__law_shifted := _, F__law_shifted := F__law_shifted, b__law_shifted := b__law_shifted, m__law_shifted := PySem.W.mg_of X G a__law_shifted, a__law_moved_right := f__law_moved_right, fd__law_moved_right := _, F__law_moved_right := F__law_moved_right, b__law_moved_right := b__law_moved_right, m__law_moved_right := PySem.W.mg_of X G a__law_moved_right, a__law_together_right := f__law_together_right, fd__law_together_right := _, F__law_together_right := F__law_together_right, b__law_together_right := b__law_together_right, m__law_together_right := PySem.W.mg_of X G a__law_together_right, a__law_widened_right := f__law_widened_right, fd__law_widened_right := _, F__law_widened_right := F__law_widened_right, b__law_widened_right := b__law_widened_right, m__law_widened_right := PySem.W.mg_of X G a__law_widened_right, a__law_right := f__law_right, fd__law_right := _, F__law_right := F__law_right, b__law_right := b__law_right, m__law_right := PySem.W.mg_of X G a__law_right, a_law := fa, fd_law := _, F_law := F_law, b_law := b_law, m_law := PySem.W.mg_of X G a_law }
  exact ⟨T.fd_law, fun s v => .of_eq rfl, fun base _ _ => ok_law T kb_moved kb_together kb_widened⟩
end K8
set_option Elab.async false
set_option linter.all false
set_option maxRecDepth 100000
set_option maxHeartbeats 4000000
set_option autoImplicit false

open PySem PySem.W PyProof.Rows in
set_option maxRecDepth 100000 in
set_option maxHeartbeats 0 in
theorem PySem.Challenge.cw_mathboxes_k08_whole_boxes_moved_and_toge_holds : PySem.Challenge.rw_mathboxes_k08_whole_boxes_moved_and_toge.Holds := by
  w_on; o_law; k_head; (case hw => w_witness2)
  k_fill
  refine DL.walkG (l := PySem.Challenge.rw_mathboxes_k08_whole_boxes_moved_and_toge) (n := 63) (k := 12) (x := "script") (sp := K8.spLaw) rfl (by decide) rfl ⟨rfl, by decide, by decide⟩ (fun w h Y => PySem.W.kIn_of Y) ?F (fun _ _ a ns hl _ _ hS => ⟨a, ns, rfl, hS, hl, fun _ => rfl⟩)
  case F =>
    intro w mg fa h KX G hmg
    refine' K8.all_mk KX G hmg ?a_is_integer ?l_is_integer ?c_is_integer ?k_is_integer ?a_is_between ?l_is_between ?c_is_between ?k_is_between ?a_is_signed ?l_is_signed ?c_is_signed ?k_is_signed ?a_is_word ?l_is_word ?c_is_word ?k_is_word ?a_is_name ?l_is_name ?c_is_name ?k_is_name ?a_is_row ?l_is_row ?c_is_row ?k_is_row ?a_is_sequence ?l_is_sequence ?c_is_sequence ?k_is_sequence ?a_is_family ?l_is_family ?c_is_family ?k_is_family ?a_is_size ?l_is_size ?c_is_size ?k_is_size ?a_is_path ?l_is_path ?c_is_path ?k_is_path ?a_check_box ?l_check_box ?c_check_box ?k_check_box ?a_is_placed_mark ?l_is_placed_mark ?c_is_placed_mark ?k_is_placed_mark ?a_is_mark ?l_is_mark ?c_is_mark ?k_is_mark ?a_is_glyph_mark ?l_is_glyph_mark ?c_is_glyph_mark ?k_is_glyph_mark ?a_is_rule_mark ?l_is_rule_mark ?c_is_rule_mark ?k_is_rule_mark ?a_check_signed ?l_check_signed ?c_check_signed ?k_check_signed ?a_marks_moved ?l_marks_moved ?c_marks_moved ?k_marks_moved ?a_moved ?l_moved ?c_moved ?k_moved ?a_together ?l_together ?c_together ?k_together ?a_check_placed ?l_check_placed ?c_check_placed ?k_check_placed ?a_widened ?l_widened ?c_widened ?k_widened ?a__law_mix ?l__law_mix ?c__law_mix ?k__law_mix ?a__law_source ?l__law_source ?c__law_source ?k__law_source ?a__law_draw ?l__law_draw ?c__law_draw ?k__law_draw ?a__law_pick ?l__law_pick ?c__law_pick ?k__law_pick ?a__law_number ?l__law_number ?c__law_number ?k__law_number ?a__law_mark ?l__law_mark ?c__law_mark ?k__law_mark ?a__law_marks ?l__law_marks ?c__law_marks ?k__law_marks ?a__law_box ?l__law_box ?c__law_box ?k__law_box ?a__law_all ?l__law_all ?c__law_all ?k__law_all ?a__law_shifted ?l__law_shifted ?c__law_shifted ?k__law_shifted ?a__law_moved_right ?l__law_moved_right ?c__law_moved_right ?k__law_moved_right ?a__law_together_right ?l__law_together_right ?c__law_together_right ?k__law_together_right ?a__law_widened_right ?l__law_widened_right ?c__law_widened_right ?k__law_widened_right ?a__law_right ?l__law_right ?c__law_right ?k__law_right ?a_law ?l_law ?c_law ?k_law ?aC ?a_init ?i_init ?l_init ?c_init ?k_init ?l_T ?d_T ?a_eq ?i_eq ?l_eq ?c_eq ?k_eq ?pg ?hd ?po ?sa ?mk ?kc ?n_width ?n_height ?n_depth ?n_marks ?ha ?hn ?htk ?hm ?ne ?v_LIMIT ?v_MOST_FAMILIES ?v_SIZES ?v_MOST_LETTERS ?z_isinstance ?z_int ?z_bool ?z_str ?z_tuple ?z_list ?z_len ?z_max ?z_min ?z_all ?z_repr ?z_range
    (case a_is_integer => k_is)
    (case l_is_integer => k_is)
    (case c_is_integer => k_is)
    (case k_is_integer => k_is)
    (case a_is_between => k_is)
    (case l_is_between => k_is)
    (case c_is_between => k_is)
    (case k_is_between => k_is)
    (case a_is_signed => k_is)
    (case l_is_signed => k_is)
    (case c_is_signed => k_is)
    (case k_is_signed => k_is)
    (case a_is_word => k_is)
    (case l_is_word => k_is)
    (case c_is_word => k_is)
    (case k_is_word => k_is)
    (case a_is_name => k_is)
    (case l_is_name => k_is)
    (case c_is_name => k_is)
    (case k_is_name => k_is)
    (case a_is_row => k_is)
    (case l_is_row => k_is)
    (case c_is_row => k_is)
    (case k_is_row => k_is)
    (case a_is_sequence => k_is)
    (case l_is_sequence => k_is)
    (case c_is_sequence => k_is)
    (case k_is_sequence => k_is)
    (case a_is_family => k_is)
    (case l_is_family => k_is)
    (case c_is_family => k_is)
    (case k_is_family => k_is)
    (case a_is_size => k_is)
    (case l_is_size => k_is)
    (case c_is_size => k_is)
    (case k_is_size => k_is)
    (case a_is_path => k_is)
    (case l_is_path => k_is)
    (case c_is_path => k_is)
    (case k_is_path => k_is)
    (case a_check_box => k_is)
    (case l_check_box => k_is)
    (case c_check_box => k_is)
    (case k_check_box => k_is)
    (case a_is_placed_mark => k_is)
    (case l_is_placed_mark => k_is)
    (case c_is_placed_mark => k_is)
    (case k_is_placed_mark => k_is)
    (case a_is_mark => k_is)
    (case l_is_mark => k_is)
    (case c_is_mark => k_is)
    (case k_is_mark => k_is)
    (case a_is_glyph_mark => k_is)
    (case l_is_glyph_mark => k_is)
    (case c_is_glyph_mark => k_is)
    (case k_is_glyph_mark => k_is)
    (case a_is_rule_mark => k_is)
    (case l_is_rule_mark => k_is)
    (case c_is_rule_mark => k_is)
    (case k_is_rule_mark => k_is)
    (case a_check_signed => k_is)
    (case l_check_signed => k_is)
    (case c_check_signed => k_is)
    (case k_check_signed => k_is)
    (case a_marks_moved => k_is)
    (case l_marks_moved => k_is)
    (case c_marks_moved => k_is)
    (case k_marks_moved => k_is)
    (case a_moved => k_is)
    (case l_moved => k_is)
    (case c_moved => k_is)
    (case k_moved => k_is)
    (case a_together => k_is)
    (case l_together => k_is)
    (case c_together => k_is)
    (case k_together => k_is)
    (case a_check_placed => k_is)
    (case l_check_placed => k_is)
    (case c_check_placed => k_is)
    (case k_check_placed => k_is)
    (case a_widened => k_is)
    (case l_widened => k_is)
    (case c_widened => k_is)
    (case k_widened => k_is)
    (case a__law_mix => k_is)
    (case l__law_mix => k_is)
    (case c__law_mix => k_is)
    (case k__law_mix => k_is)
    (case a__law_source => k_is)
    (case l__law_source => k_is)
    (case c__law_source => k_is)
    (case k__law_source => k_is)
    (case a__law_draw => k_is)
    (case l__law_draw => k_is)
    (case c__law_draw => k_is)
    (case k__law_draw => k_is)
    (case a__law_pick => k_is)
    (case l__law_pick => k_is)
    (case c__law_pick => k_is)
    (case k__law_pick => k_is)
    (case a__law_number => k_is)
    (case l__law_number => k_is)
    (case c__law_number => k_is)
    (case k__law_number => k_is)
    (case a__law_mark => k_is)
    (case l__law_mark => k_is)
    (case c__law_mark => k_is)
    (case k__law_mark => k_is)
    (case a__law_marks => k_is)
    (case l__law_marks => k_is)
    (case c__law_marks => k_is)
    (case k__law_marks => k_is)
    (case a__law_box => k_is)
    (case l__law_box => k_is)
    (case c__law_box => k_is)
    (case k__law_box => k_is)
    (case a__law_all => k_is)
    (case l__law_all => k_is)
    (case c__law_all => k_is)
    (case k__law_all => k_is)
    (case a__law_shifted => k_is)
    (case l__law_shifted => k_is)
    (case c__law_shifted => k_is)
    (case k__law_shifted => k_is)
    (case a__law_moved_right => k_is)
    (case l__law_moved_right => k_is)
    (case c__law_moved_right => k_is)
    (case k__law_moved_right => k_is)
    (case a__law_together_right => k_is)
    (case l__law_together_right => k_is)
    (case c__law_together_right => k_is)
    (case k__law_together_right => k_is)
    (case a__law_widened_right => k_is)
    (case l__law_widened_right => k_is)
    (case c__law_widened_right => k_is)
    (case k__law_widened_right => k_is)
    (case a__law_right => k_is)
    (case l__law_right => k_is)
    (case c__law_right => k_is)
    (case k__law_right => k_is)
    (case a_law => k_is)
    (case l_law => k_is)
    (case c_law => k_is)
    (case k_law => k_is)
    (case aC => k_is)
    (case a_init => k_is)
    (case i_init => k_is)
    (case l_init => k_is)
    (case c_init => k_is)
    (case k_init => k_is)
    (case l_T => k_is)
    (case d_T => rfl)
    (case a_eq => k_is)
    (case i_eq => k_is)
    (case l_eq => k_is)
    (case c_eq => k_is)
    (case k_eq => k_is)
    (case pg => k_is)
    (case hd => k_is)
    (case po => k_is)
    (case sa => k_is)
    (case mk => k_is)
    (case kc => k_is)
    (case n_width => k_is)
    (case n_height => k_is)
    (case n_depth => k_is)
    (case n_marks => k_is)
    (case ha => k_is)
    (case hn => k_is)
    (case htk => k_is)
    (case hm => k_is)
    (case ne => k_is)
    (case v_LIMIT => k_is)
    (case v_MOST_FAMILIES => k_is)
    (case v_SIZES => k_is)
    (case v_MOST_LETTERS => k_is)
    (case z_isinstance => k_is)
    (case z_int => k_is)
    (case z_bool => k_is)
    (case z_str => k_is)
    (case z_tuple => k_is)
    (case z_list => k_is)
    (case z_len => k_is)
    (case z_max => k_is)
    (case z_min => k_is)
    (case z_all => k_is)
    (case z_repr => k_is)
    (case z_range => k_is)
#print axioms PySem.Challenge.cw_mathboxes_k08_whole_boxes_moved_and_toge_holds
