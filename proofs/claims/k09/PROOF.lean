import PyProof.Rows.All
import Wide.All
import OpenK.AllK
import Wide.FinOn
import HandS.ForMost
import HandS.ForExc
import HandS.IsInst
import HandS.TupAny
import HandS.Wide
import HandS.Conv
import HandS.Defaults
import HandS.MakeKw
import HandS.Flow
import HandS.Codes
import HandS.OwnEq
import HandS.EndBits
import PyProof.ReprRoads
import KE.GoesEnum
import HandS.DictComp
import HandS.More
import HandS.MakeKwOnly
import HandS.StrMore
import HandS.Text
import HandS.TryOnly
import HandS.TupLe
import PyProof.TypeEq
import HandS.Style
import HandS.List
import PyProof.DictUpdate
import PyProof.DictDisplay
import PyProof.DictCopy
import HandS.Dict
import KE.KEqNest
import PyProof.StrOps2
import KE.KDictSum
import KE.DataMinMax
import KE.KRevSl
import KE.SortCalls
import HandS.Iter
import HandS.NoneIn
import HandS.Zip
import PyProof.ListMulAny
import HandS.Flt
import KE.OsRunLaw
import PySem.Challenge.RW_mathboxes_k09_whole_ink_and_what_differs
set_option Elab.async false
set_option linter.all false
set_option maxRecDepth 100000
set_option maxHeartbeats 1000000
set_option autoImplicit false
/-! Values by what they hold: a layer over the heap rules. -/
namespace DL
open PySem L2
/-- a value by what it holds -/
inductive D where
  | non | bl (b : Bool) | int (i : Int) | str (x : Str) | ty (n : String) | adr (a : Addr)
  | tup (xs : List D) | lst (xs : List D) | ins (C : Addr) (fs : List (Str × D))
  | dct (kvs : List (Key × D)) | scr (ns : List Int)
mutual
inductive Dat (K : PySem.W.Frag) (F : Hp) : V → D → Prop
  | non : Dat K F .non .non
  | bl (b : Bool) : Dat K F (.bl b) (.bl b)
  | int (i : Int) : Dat K F (.int i) (.int i)
  | str (x : Str) : Dat K F (.str x) (.str x)
  | ty (n : String) : Dat K F (.ty n) (.ty n)
  | adr (a : Addr) : Dat K F (.ref a) (.adr a)
  | tup {a : Addr} {vs : List V} {ds : List D} : SqT K F a vs → DatL K F vs ds → Dat K F (.ref a) (.tup ds)
  | lst {a : Addr} {vs : List V} {ds : List D} : F a = some (.lst vs) → DatL K F vs ds → Dat K F (.ref a) (.lst ds)
  | ins {a C dx : Addr} {fs : List (Str × V)} {gs : List (Str × D)} : F a = some (.ins C dx fs) → DatF K F fs gs → Dat K F (.ref a) (.ins C gs)
  | dct {a : Addr} {o : Obj} {vs : List (Key × V)} {ds : List (Key × D)} : F a = some (.frz o (.dK vs)) → DatK K F vs ds → Dat K F (.ref a) (.dct ds)
  | scr {a : Addr} {ns : List Int} : SqL K F a (ns.map V.int) → Dat K F (.ref a) (.scr ns)
inductive DatL (K : PySem.W.Frag) (F : Hp) : List V → List D → Prop
  | nil : DatL K F [] []
  | cons {v : V} {vs : List V} {d : D} {ds : List D} : Dat K F v d → DatL K F vs ds → DatL K F (v :: vs) (d :: ds)
inductive DatF (K : PySem.W.Frag) (F : Hp) : List (Str × V) → List (Str × D) → Prop
  | nil : DatF K F [] []
  | cons {x : Str} {v : V} {vs : List (Str × V)} {d : D} {ds : List (Str × D)} : Dat K F v d → DatF K F vs ds → DatF K F ((x, v) :: vs) ((x, d) :: ds)
inductive DatK (K : PySem.W.Frag) (F : Hp) : List (Key × V) → List (Key × D) → Prop
  | nil : DatK K F [] []
  | cons {x : Key} {v : V} {vs : List (Key × V)} {d : D} {ds : List (Key × D)} : Dat K F v d → DatK K F vs ds → DatK K F ((x, v) :: vs) ((x, d) :: ds)
end
theorem sqT_mono {K : PySem.W.Frag} {F F' : Hp} (e : Same F F') {a : Addr} {xs : List V} (h : SqT K F a xs) : SqT K F' a xs := by
  rcases h with (h | ⟨o, h⟩) | h
  · exact .inl (.inl (e _ _ h))
  · exact .inl (.inr ⟨o, e _ _ h⟩)
  · exact .inr h
section
variable {K : PySem.W.Frag} {F F' : Hp}
mutual
theorem Dat.mono (e : Same F F') : ∀ {v : V} {d : D}, Dat K F v d → Dat K F' v d
  | _, _, .non => .non
  | _, _, .bl b => .bl b
  | _, _, .int i => .int i
  | _, _, .str x => .str x
  | _, _, .ty n => .ty n
  | _, _, .adr a => .adr a
  | _, _, .tup h k => .tup (sqT_mono e h) (DatL.mono e k)
  | _, _, .lst h k => .lst (e _ _ h) (DatL.mono e k)
  | _, _, .ins h k => .ins (e _ _ h) (DatF.mono e k)
  | _, _, .dct h k => .dct (e _ _ h) (DatK.mono e k)
  | _, _, .scr h => .scr (e.seq h)
theorem DatL.mono (e : Same F F') : ∀ {v : List V} {d : List D}, DatL K F v d → DatL K F' v d
  | _, _, .nil => .nil
  | _, _, .cons h k => .cons (Dat.mono e h) (DatL.mono e k)
theorem DatF.mono (e : Same F F') : ∀ {v : List (Str × V)} {d : List (Str × D)}, DatF K F v d → DatF K F' v d
  | _, _, .nil => .nil
  | _, _, .cons h k => .cons (Dat.mono e h) (DatF.mono e k)
theorem DatK.mono (e : Same F F') : ∀ {v : List (Key × V)} {d : List (Key × D)}, DatK K F v d → DatK K F' v d
  | _, _, .nil => .nil
  | _, _, .cons h k => .cons (Dat.mono e h) (DatK.mono e k)
end
theorem DatK.length : ∀ {v : List (Key × V)} {d : List (Key × D)}, DatK K F v d → v.length = d.length
  | _, _, .nil => rfl
  | _, _, .cons _ k => by rw [List.length_cons, List.length_cons, DatK.length k]
theorem DatK.keys : ∀ {v : List (Key × V)} {d : List (Key × D)}, DatK K F v d → v.map (·.1) = d.map (·.1)
  | _, _, .nil => rfl
  | _, _, .cons _ k => by rw [List.map_cons, List.map_cons, DatK.keys k]
/-- the value at a key -/
def getK (k : Key) : List (Key × D) → Option D
  | [] => none
  | p :: r => if p.1 = k then some p.2 else getK k r
/-- d[k] = v -/
def setK (k : Key) (y : D) : List (Key × D) → List (Key × D)
  | [] => [(k, y)]
  | p :: r => if p.1 = k then (k, y) :: r else p :: setK k y r
theorem DatK.get {k : Key} : ∀ {v : List (Key × V)} {d : List (Key × D)}, DatK K F v d → (∀ y, getK k d = some y → ∃ u, valV v k = some u ∧ Dat K F u y) ∧ (getK k d = none → valV v k = none)
  | _, _, .nil => ⟨fun _ e => (by cases e), fun _ => rfl⟩
  | (x, v) :: vs, (_, d) :: ds, .cons h t => by
    have ih := DatK.get (k := k) t
    by_cases e : x = k
    · subst e
      refine ⟨fun y q => ?_, fun q => ?_⟩
      · simp only [getK, if_true] at q
        cases q
        exact ⟨v, valV_pos rfl, h⟩
      · simp [getK] at q
    · refine ⟨fun y q => ?_, fun q => ?_⟩
      · simp only [getK, if_neg e] at q
        obtain ⟨u, h1, h2⟩ := ih.1 y q
        exact ⟨u, by rw [valV_neg (p := (x, v)) e]; exact h1, h2⟩
      · simp only [getK, if_neg e] at q
        rw [valV_neg (p := (x, v)) e]
        exact ih.2 q
theorem putK_cons_ne {p : Key × V} {r : List (Key × V)} {k : Key} {v : V} (e : ¬ p.1 = k) : putK (p :: r) k v = p :: putK r k v := by
  unfold putK
  simp only [List.any_cons, decide_eq_false e, Bool.false_or, List.map_cons, if_neg e, List.cons_append]
  split <;> rfl
theorem map_id_of {k : Key} {v : V} : ∀ {r : List (Key × V)}, ¬ k ∈ r.map (·.1) → r.map (fun kv => if kv.1 = k then (kv.1, v) else kv) = r
  | [], _ => rfl
  | p :: r, h => by
    have h1 : ¬ p.1 = k := fun e => h (by simp [e])
    have h2 : ¬ k ∈ r.map (·.1) := fun e => h (by simp only [List.map_cons]; exact List.mem_cons_of_mem _ e)
    rw [List.map_cons, if_neg h1, map_id_of h2]
theorem putK_cons_eq {p : Key × V} {r : List (Key × V)} {k : Key} {v : V} (e : p.1 = k) (h : ¬ k ∈ r.map (·.1)) : putK (p :: r) k v = (k, v) :: r := by
  have q : (List.any (p :: r) fun kv => decide (kv.1 = k)) = true := by rw [List.any_cons, decide_eq_true e, Bool.true_or]
  unfold putK
  rw [if_pos q, List.map_cons, if_pos e, map_id_of h, e]
theorem DatK.put {k : Key} {u : V} {y : D} (hu : Dat K F u y) : ∀ {v : List (Key × V)} {d : List (Key × D)}, DatK K F v d → (d.map (·.1)).Nodup → DatK K F (putK v k u) (setK k y d)
  | _, _, .nil, _ => .cons hu .nil
  | (x, v) :: vs, (_, d) :: ds, .cons h t, nd => by
    rw [List.map_cons, List.nodup_cons] at nd
    by_cases e : x = k
    · subst e
      rw [putK_cons_eq (p := (x, v)) rfl (by rw [t.keys]; exact nd.1)]
      simp only [setK, if_true]
      exact .cons hu t
    · rw [putK_cons_ne (p := (x, v)) e]
      simp only [setK, if_neg e]
      exact .cons h (DatK.put hu t nd.2)
/-- merged, one after another -/
def mergeD (kvs : List (Key × D)) : List (Key × D) → List (Key × D)
  | [] => kvs
  | p :: r => mergeD (setK p.1 p.2 kvs) r
theorem DatL.length : ∀ {v : List V} {d : List D}, DatL K F v d → v.length = d.length
  | _, _, .nil => rfl
  | _, _, .cons _ k => by rw [List.length_cons, List.length_cons, DatL.length k]
theorem DatL.append : ∀ {v v' : List V} {d d' : List D}, DatL K F v d → DatL K F v' d' → DatL K F (v ++ v') (d ++ d')
  | _, _, _, _, .nil, k => k
  | _, _, _, _, .cons h t, k => .cons h (DatL.append t k)
theorem DatL.get : ∀ {v : List V} {d : List D} {i : Nat} {x : D}, DatL K F v d → d[i]? = some x → ∃ u, v[i]? = some u ∧ Dat K F u x
  | _, _, _, _, .nil, e => by simp at e
  | _, _, 0, x, .cons h _, e => by
    simp at e
    subst e
    exact ⟨_, rfl, h⟩
  | _, _, i + 1, x, .cons _ k, e => by
    obtain ⟨u, h1, h2⟩ := DatL.get (i := i) (x := x) k (by simpa using e)
    exact ⟨u, by simpa using h1, h2⟩
theorem DatL.take : ∀ {v : List V} {d : List D} (n : Nat), DatL K F v d → DatL K F (v.take n) (d.take n)
  | _, _, 0, _ => .nil
  | _, _, _ + 1, .nil => .nil
  | _, _, n + 1, .cons h k => .cons h (DatL.take n k)
theorem DatL.drop : ∀ {v : List V} {d : List D} (n : Nat), DatL K F v d → DatL K F (v.drop n) (d.drop n)
  | _, _, 0, h => h
  | _, _, _ + 1, .nil => .nil
  | _, _, n + 1, .cons _ k => DatL.drop n k
theorem DatL.reverse : ∀ {v : List V} {d : List D}, DatL K F v d → DatL K F v.reverse d.reverse
  | _, _, .nil => .nil
  | _, _, .cons h k => by
    rw [List.reverse_cons, List.reverse_cons]
    exact (DatL.reverse k).append (.cons h .nil)
theorem DatL.snoc {v : List V} {d : List D} {u : V} {x : D} (h : DatL K F v d) (k : Dat K F u x) : DatL K F (v ++ [u]) (d ++ [x]) := h.append (.cons k .nil)
theorem DatL.nil_of {d : List D} (h : DatL K F [] d) : d = [] := by cases h; rfl
theorem DatF.lookup : ∀ {v : List (Str × V)} {d : List (Str × D)} {x : Str} {y : D}, DatF K F v d → d.lookup x = some y → ∃ u, v.lookup x = some u ∧ Dat K F u y
  | _, _, _, _, .nil, e => by simp at e
  | (x, v) :: vs, (_, d) :: ds, z, y, .cons h k, e => by
    rw [List.lookup_cons] at e ⊢
    by_cases q : z = x
    · subst q
      simp at e ⊢
      subst e
      exact h
    · have q' : (z == x) = false := by simp [q]
      rw [q'] at e ⊢
      exact DatF.lookup k e
theorem DatF.length : ∀ {v : List (Str × V)} {d : List (Str × D)}, DatF K F v d → v.length = d.length
  | _, _, .nil => rfl
  | _, _, .cons _ k => by rw [List.length_cons, List.length_cons, DatF.length k]
theorem DatF.none : ∀ {v : List (Str × V)} {d : List (Str × D)} {x : Str}, DatF K F v d → d.lookup x = Option.none → v.lookup x = Option.none
  | _, _, _, .nil, _ => rfl
  | (x, v) :: vs, (_, d) :: ds, z, .cons h k, e => by
    rw [List.lookup_cons] at e ⊢
    by_cases q : z = x
    · subst q
      simp at e
    · have q' : (z == x) = false := by simp [q]
      rw [q'] at e ⊢
      exact DatF.none k e
end
/-- a field is set -/
def setF (f : Str) (y : D) : List (Str × D) → List (Str × D)
  | [] => [(f, y)]
  | p :: r => if p.1 = f then (f, y) :: r else p :: setF f y r
theorem DatF.put {K : PySem.W.Frag} {F : Hp} {f : Str} {u : V} {y : D} (hu : Dat K F u y) : ∀ {v : List (Str × V)} {d : List (Str × D)}, DatF K F v d → DatF K F (putF f u v) (setF f y d)
  | _, _, .nil => .cons hu .nil
  | (x, v) :: vs, (_, d) :: ds, .cons h t => by
    by_cases e : x = f
    · subst e
      simp only [putF, setF, if_true]
      exact .cons hu t
    · simp only [putF, setF, if_neg e]
      exact .cons h (DatF.put hu t)
/-! ### the state: F is what is kept for good, W a well (a list of three ints that draws change) -/
def WellAt (H : Hp) (a : Addr) : Prop := ∃ i j k : Int, H a = some (.lst [.int i, .int j, .int k])
structure Good (W : Option Addr) (F H : Hp) : Prop where
  sub : Same F H
  well : ∀ a, W = some a → F a = none ∧ WellAt H a
structure Fr (W : Option Addr) (F H F' H' : Hp) : Prop where
  sub : Same F' H'
  grow : Same F F'
  keep : ∀ a o, H a = some o → W ≠ some a → H' a = some o
  new : ∀ a o, F' a = some o → F a = some o ∨ H a = none
  well : ∀ a, W = some a → F' a = none ∧ WellAt H' a
section
variable {W : Option Addr} {F H F1 H1 F2 H2 : Hp}
theorem Fr.good (f : Fr W F H F1 H1) : Good W F1 H1 := ⟨f.sub, f.well⟩
theorem Good.rfl (g : Good W F H) : Fr W F H F H := ⟨g.sub, Same.refl F, fun _ _ h _ => h, fun _ _ h => .inl h, g.well⟩
theorem Fr.trans (f : Fr W F H F1 H1) (g : Fr W F1 H1 F2 H2) : Fr W F H F2 H2 where
  sub := g.sub
  grow := f.grow.trans g.grow
  keep := fun a o h n => g.keep a o (f.keep a o h n) n
  new := fun a o h => by
    rcases g.new a o h with h | h
    · exact f.new a o h
    · right
      cases q : H a with
      | none => rfl
      | some u =>
        by_cases hw : W = some a
        · obtain ⟨_, i, j, k, e⟩ := f.well a hw
          rw [h] at e
          cases e
        · have := f.keep a u q hw
          rw [h] at this
          cases this
  well := g.well
/-- a new object, kept for good -/
theorem Good.laid (g : Good W F H) {p : Addr} {o : HO} (hp : H p = none) : Fr W F H (upd F p o) (upd H p o) where
  sub := fun a u h => by
    by_cases e : a = p
    · subst e
      rw [upd_same] at h ⊢
      exact h
    · rw [upd_ne e] at h ⊢
      exact g.sub a u h
  grow := fun a u h => by
    have e : a ≠ p := fun z => by
      subst z
      rw [g.sub a u h] at hp
      cases hp
    rw [upd_ne e]
    exact h
  keep := fun a u h _ => by
    rw [upd_ne (ne_of_none h hp)]
    exact h
  new := fun a u h => by
    by_cases e : a = p
    · subst e
      exact .inr hp
    · rw [upd_ne e] at h
      exact .inl h
  well := fun a h => by
    obtain ⟨n, i, j, k, e⟩ := g.well a h
    have ne : a ≠ p := ne_of_none e hp
    exact ⟨by rw [upd_ne ne]; exact n, i, j, k, by rw [upd_ne ne]; exact e⟩
/-- a new object, not kept -/
theorem Good.hid (g : Good W F H) {p : Addr} {o : HO} (hp : H p = none) : Fr W F H F (upd H p o) where
  sub := fun a u h => by
    have h' := g.sub a u h
    rw [upd_ne (ne_of_none h' hp)]
    exact h'
  grow := Same.refl F
  keep := fun a u h _ => by
    rw [upd_ne (ne_of_none h hp)]
    exact h
  new := fun a u h => .inl h
  well := fun a h => by
    obtain ⟨n, i, j, k, e⟩ := g.well a h
    have ne : a ≠ p := ne_of_none e hp
    exact ⟨n, i, j, k, by rw [upd_ne ne]; exact e⟩
theorem Good.free (g : Good W F H) {p : Addr} (hp : H p = none) : F p = none := g.sub.free hp
end
/-! ### slots -/
/-- what a def holds for itself: a list, a dict, an instance with a list of its own -/
inductive NK where
  | lst | dct (ks : List Key) | tup | ins (C : Addr) (fs : List Str)
inductive OT where
  | fz (d : D) | node (k : NK) (ts : List OT)
def NK.at (k : NK) (H : Hp) (a : Addr) (vs : List V) : Prop := match k with
  | .lst => H a = some (.lst vs)
  | .dct ks => H a = some (.dK (ks.zip vs)) ∧ ks.length = vs.length ∧ ks.Nodup
  | .tup => H a = some (.tup vs)
  | .ins C fs => ∃ dx, H a = some (.ins C dx (fs.zip vs)) ∧ fs.length = vs.length
mutual
inductive TreeAt (K : PySem.W.Frag) (F H : Hp) : V → OT → List Addr → Prop
  | fz {v : V} {d : D} : Dat K F v d → TreeAt K F H v (.fz d) []
  | node {a : Addr} {k : NK} {vs : List V} {ts : List OT} {as : List Addr} : k.at H a vs → TreesAt K F H vs ts as → ¬ a ∈ as → TreeAt K F H (.ref a) (.node k ts) (a :: as)
inductive TreesAt (K : PySem.W.Frag) (F H : Hp) : List V → List OT → List Addr → Prop
  | nil : TreesAt K F H [] [] []
  | cons {v : V} {t : OT} {as : List Addr} {vs : List V} {ts : List OT} {bs : List Addr} : TreeAt K F H v t as → TreesAt K F H vs ts bs → (∀ q ∈ as, ¬ q ∈ bs) → TreesAt K F H (v :: vs) (t :: ts) (as ++ bs)
end
theorem NK.at.live {k : NK} {H : Hp} {a : Addr} {vs : List V} (h : k.at H a vs) : ∃ u, H a = some u := by
  cases k with
  | lst => exact ⟨_, h⟩
  | dct ks => exact ⟨_, h.1⟩
  | tup => exact ⟨_, h⟩
  | ins C fs => obtain ⟨dx, e, _⟩ := h; exact ⟨_, e⟩
theorem NK.at.move {k : NK} {H H1 : Hp} {a : Addr} {vs : List V} (h : k.at H a vs) (e : H1 a = H a) : k.at H1 a vs := by
  cases k with
  | lst => exact e.trans h
  | dct ks => exact ⟨e.trans h.1, h.2⟩
  | tup => exact e.trans h
  | ins C fs => obtain ⟨dx, q, l⟩ := h; exact ⟨dx, e.trans q, l⟩
section
variable {K : PySem.W.Frag} {F H F1 H1 : Hp}
mutual
theorem TreeAt.live : ∀ {v : V} {t : OT} {as : List Addr}, TreeAt K F H v t as → ∀ q ∈ as, ∃ u, H q = some u
  | _, _, _, .fz _, q, hq => by cases hq
  | _, _, _, .node h t _, q, hq => by
    rcases List.mem_cons.mp hq with rfl | hq
    · exact h.live
    · exact TreesAt.live t q hq
theorem TreesAt.live : ∀ {vs : List V} {ts : List OT} {as : List Addr}, TreesAt K F H vs ts as → ∀ q ∈ as, ∃ u, H q = some u
  | _, _, _, .nil, q, hq => by cases hq
  | _, _, _, .cons a b _, q, hq => by
    rcases List.mem_append.mp hq with hq | hq
    · exact TreeAt.live a q hq
    · exact TreesAt.live b q hq
end
mutual
theorem TreeAt.move (s : Same F F1) : ∀ {v : V} {t : OT} {as : List Addr}, TreeAt K F H v t as → (∀ q ∈ as, H1 q = H q) → TreeAt K F1 H1 v t as
  | _, _, _, .fz d, _ => .fz (d.mono s)
  | _, _, _, .node h t n, k => .node (h.move (k _ (List.mem_cons_self ..))) (TreesAt.move s t fun q hq => k q (List.mem_cons_of_mem _ hq)) n
theorem TreesAt.move (s : Same F F1) : ∀ {vs : List V} {ts : List OT} {as : List Addr}, TreesAt K F H vs ts as → (∀ q ∈ as, H1 q = H q) → TreesAt K F1 H1 vs ts as
  | _, _, _, .nil, _ => .nil
  | _, _, _, .cons a b d, k => .cons (TreeAt.move s a fun q hq => k q (List.mem_append_left _ hq)) (TreesAt.move s b fun q hq => k q (List.mem_append_right _ hq)) d
end
end
inductive OD where
  | lst (ds : List D) | dct (kvs : List (Key × D)) | box (x C : Addr) (fs : List (Str × D)) (f : Str) (ds : List D) | obj (x C : Addr) (fs : List (Str × D)) | nest (as : List Addr) (k : NK) (ts : List OT)
inductive OwnAt (K : PySem.W.Frag) (F H : Hp) : OD → Addr → List Addr → Prop
  | lst {a : Addr} {vs : List V} {ds : List D} : H a = some (.lst vs) → DatL K F vs ds → OwnAt K F H (.lst ds) a [a]
  | dct {a : Addr} {vs : List (Key × V)} {ds : List (Key × D)} : H a = some (.dK vs) → DatK K F vs ds → (ds.map (·.1)).Nodup → OwnAt K F H (.dct ds) a [a]
  | box {x a C dx : Addr} {vs : List (Str × V)} {fs : List (Str × D)} {f : Str} {us : List V} {ds : List D} : H x = some (.ins C dx (vs ++ [(f, .ref a)])) → DatF K F vs fs → H a = some (.lst us) → DatL K F us ds → OwnAt K F H (.box x C fs f ds) x [x, a]
  | obj {x C dx : Addr} {vs : List (Str × V)} {fs : List (Str × D)} : H x = some (.ins C dx vs) → DatF K F vs fs → OwnAt K F H (.obj x C fs) x [x]
  | nest {a : Addr} {as bs : List Addr} {k : NK} {ts : List OT} : TreeAt K F H (.ref a) (.node k ts) bs → (∀ q ∈ bs, q ∈ a :: as) → (∀ q ∈ a :: as, ∃ u, H q = some u) → OwnAt K F H (.nest (a :: as) k ts) a (a :: as)
inductive Sl where
  | un | fz (d : D) | own (o : OD)
abbrev Sl.ow (ds : List D) : Sl := .own (.lst ds)
abbrev Sl.od (ds : List (Key × D)) : Sl := .own (.dct ds)
def Free (W : Option Addr) (H0 F : Hp) (as : List Addr) : Prop := ∀ q ∈ as, F q = none ∧ W ≠ some q ∧ H0 q = none
inductive SlAt (K : PySem.W.Frag) (W : Option Addr) (H0 F H : Hp) : Option V → Sl → Prop
  | un (o : Option V) : SlAt K W H0 F H o .un
  | fz {v : V} {d : D} : Dat K F v d → SlAt K W H0 F H (some v) (.fz d)
  | own {a : Addr} {o : OD} {as : List Addr} : Free W H0 F as → OwnAt K F H o a as → SlAt K W H0 F H (some (.ref a)) (.own o)
structure Slots (K : PySem.W.Frag) (W : Option Addr) (H0 F H : Hp) (σ : St) (ρ : List Sl) : Prop where
  at_ : Paired (SlAt K W H0 F H) σ ρ
  apart : ∀ (i j : Nat) (o1 o2 : OD) (a1 a2 : Addr) (as1 as2 : List Addr), i ≠ j → ρ[i]? = some (.own o1) → ρ[j]? = some (.own o2) → σ[i]? = some (some (.ref a1)) → σ[j]? = some (some (.ref a2)) → OwnAt K F H o1 a1 as1 → OwnAt K F H o2 a2 as2 → ∀ q ∈ as1, ¬ q ∈ as2
section
variable {K : PySem.W.Frag} {W : Option Addr} {H0 F H F1 H1 : Hp}
theorem OwnAt.live {o : OD} {a : Addr} {as : List Addr} (h : OwnAt K F H o a as) : ∀ q ∈ as, ∃ u, H q = some u := by
  intro q hq
  cases h with
  | lst e _ => exact ⟨_, by rw [List.mem_singleton.mp hq]; exact e⟩
  | dct e _ _ => exact ⟨_, by rw [List.mem_singleton.mp hq]; exact e⟩
  | obj e _ => exact ⟨_, by rw [List.mem_singleton.mp hq]; exact e⟩
  | box e _ k _ =>
    rcases List.mem_cons.mp hq with z | z
    · rw [z]; exact ⟨_, e⟩
    · rw [List.mem_singleton.mp z]; exact ⟨_, k⟩
  | nest _ _ l => exact l q hq
theorem OwnAt.move {o : OD} {a : Addr} {as : List Addr} (h : OwnAt K F H o a as) (s : Same F F1) (k : ∀ q ∈ as, H1 q = H q) : OwnAt K F1 H1 o a as := by
  cases h with
  | lst e d => exact .lst (by rw [k a (by simp)]; exact e) (d.mono s)
  | dct e d n => exact .dct (by rw [k a (by simp)]; exact e) (d.mono s) n
  | obj e d => exact .obj (by rw [k a (by simp)]; exact e) (d.mono s)
  | @box x b _ _ _ _ _ _ _ e d l m => exact .box (by rw [k a (by simp)]; exact e) (d.mono s) (by rw [k b (by simp)]; exact l) (m.mono s)
  | nest t b l => exact .nest (t.move s fun q hq => k q (b q hq)) b fun q hq => by rw [k q hq]; exact l q hq
theorem OwnAt.det {o o' : OD} {a : Addr} {as as1 : List Addr} (h : OwnAt K F H o a as) (h1 : OwnAt K F1 H1 o a as1) (k : ∀ u, H a = some u → H1 a = some u) : as1 = as := by
  cases h with
  | lst e d => cases h1; rfl
  | dct e d n => cases h1; rfl
  | obj e d => cases h1; rfl
  | nest t b l => cases h1; rfl
  | box e d l m =>
    cases h1 with
    | box e' _ _ _ =>
      rw [k _ e] at e'
      simp only [Option.some.injEq, HO.ins.injEq] at e'
      have z := congrArg List.getLast? e'.2.2
      simp at z
      rw [z]
theorem Free.fr {as : List Addr} {o : OD} {a : Addr} (f : Fr W F H F1 H1) (fr : Free W H0 F as) (h : OwnAt K F H o a as) : Free W H0 F1 as := fun q hq => by
  obtain ⟨n, w, h0⟩ := fr q hq
  refine ⟨?_, w, h0⟩
  obtain ⟨u, e⟩ := h.live q hq
  cases z : F1 q with
  | none => rfl
  | some o =>
    rcases f.new q o z with z | z
    · rw [n] at z; cases z
    · rw [e] at z; cases z
theorem OwnAt.fr {as : List Addr} {o : OD} {a : Addr} (f : Fr W F H F1 H1) (fr : Free W H0 F as) (h : OwnAt K F H o a as) : OwnAt K F1 H1 o a as :=
  h.move f.grow fun q hq => by
    obtain ⟨u, e⟩ := h.live q hq
    rw [e]
    exact f.keep q u e (fr q hq).2.1
theorem SlAt.fr (f : Fr W F H F1 H1) {o : Option V} {s : Sl} (h : SlAt K W H0 F H o s) : SlAt K W H0 F1 H1 o s := by
  cases h with
  | un => exact .un o
  | fz h => exact .fz (h.mono f.grow)
  | own fr h => exact .own (fr.fr f h) (h.fr f fr)
theorem paired_mono {α β : Type} {R S : α → β → Prop} (h : ∀ a b, R a b → S a b) : ∀ {xs : List α} {ys : List β}, Paired R xs ys → Paired S xs ys
  | _, _, .nil => .nil
  | _, _, .cons r t => .cons (h _ _ r) (paired_mono h t)
theorem paired_get {α β : Type} {R : α → β → Prop} : ∀ {xs : List α} {ys : List β} {i : Nat} {y : β}, Paired R xs ys → ys[i]? = some y → ∃ x, xs[i]? = some x ∧ R x y
  | _, _, _, _, .nil, e => by simp at e
  | _, _, 0, y, .cons h _, e => by
    simp at e
    subst e
    exact ⟨_, rfl, h⟩
  | _, _, i + 1, y, .cons _ k, e => by
    obtain ⟨u, h1, h2⟩ := paired_get (i := i) (y := y) k (by simpa using e)
    exact ⟨u, by simpa using h1, h2⟩
theorem paired_of {α β : Type} {R : α → β → Prop} : ∀ {xs : List α} {ys : List β}, xs.length = ys.length → (∀ (i : Nat) x y, xs[i]? = some x → ys[i]? = some y → R x y) → Paired R xs ys
  | [], [], _, _ => .nil
  | [], _ :: _, h, _ => by simp at h
  | _ :: _, [], h, _ => by simp at h
  | x :: xs, y :: ys, h, k => .cons (k 0 x y rfl rfl) (paired_of (by simpa using h) fun i a b h1 h2 => k (i + 1) a b (by simpa using h1) (by simpa using h2))
theorem paired_set {α β : Type} {R : α → β → Prop} {x : α} {y : β} (r : R x y) : ∀ {xs : List α} {ys : List β} (i : Nat), Paired R xs ys → Paired R (xs.set i x) (ys.set i y)
  | _, _, _, .nil => .nil
  | _, _, 0, .cons _ t => .cons r t
  | _, _, i + 1, .cons q t => .cons q (paired_set r i t)
theorem Slots.len {σ : St} {ρ : List Sl} (s : Slots K W H0 F H σ ρ) : σ.length = ρ.length := Paired.length s.at_
theorem Slots.fz {σ : St} {ρ : List Sl} (s : Slots K W H0 F H σ ρ) {i : Nat} {d : D} (h : ρ[i]? = some (.fz d)) : ∃ v, σ[i]? = some (some v) ∧ Dat K F v d := by
  obtain ⟨x, h1, h2⟩ := paired_get s.at_ h
  cases h2 with
  | fz h2 => exact ⟨_, h1, h2⟩
theorem Slots.own {σ : St} {ρ : List Sl} (s : Slots K W H0 F H σ ρ) {i : Nat} {o : OD} (h : ρ[i]? = some (.own o)) : ∃ a as, σ[i]? = some (some (.ref a)) ∧ Free W H0 F as ∧ OwnAt K F H o a as := by
  obtain ⟨x, h1, h2⟩ := paired_get s.at_ h
  cases h2 with
  | own n d => exact ⟨_, _, h1, n, d⟩
theorem Slots.ow {σ : St} {ρ : List Sl} (s : Slots K W H0 F H σ ρ) {i : Nat} {ds : List D} (h : ρ[i]? = some (Sl.ow ds)) : ∃ a vs, σ[i]? = some (some (.ref a)) ∧ F a = none ∧ W ≠ some a ∧ H0 a = none ∧ H a = some (.lst vs) ∧ DatL K F vs ds := by
  obtain ⟨a, as, h1, h2, h3⟩ := s.own h
  cases h3 with
  | lst e d =>
    obtain ⟨n, w, h0⟩ := h2 a (by simp)
    exact ⟨_, _, h1, n, w, h0, e, d⟩
/-- apart, seen from slot i's own addresses -/
theorem Slots.apart' {σ : St} {ρ : List Sl} (s : Slots K W H0 F H σ ρ) {i j : Nat} {o1 o2 : OD} {a1 a2 : Addr} {as1 as2 : List Addr} {F2 H2 : Hp} (hij : i ≠ j) (h1 : ρ[i]? = some (.own o1)) (h2 : ρ[j]? = some (.own o2)) (e1 : σ[i]? = some (some (.ref a1))) (e2 : σ[j]? = some (some (.ref a2))) (k1 : OwnAt K F H o1 a1 as1)
    (k2 : OwnAt K F2 H2 o2 a2 as2) (hk : ∀ u, H a2 = some u → H2 a2 = some u) : ∀ q ∈ as1, ¬ q ∈ as2 := by
  obtain ⟨b, bs, e3, _, k3⟩ := s.own h2
  rw [e2] at e3
  cases e3
  have := k3.det (o' := o2) k2 hk
  subst this
  exact s.apart i j o1 o2 a1 a2 as1 _ hij h1 h2 e1 e2 k1 k3
theorem Slots.fr (f : Fr W F H F1 H1) {σ : St} {ρ : List Sl} (s : Slots K W H0 F H σ ρ) : Slots K W H0 F1 H1 σ ρ := by
  refine ⟨paired_mono (fun _ _ h => h.fr f) s.at_, fun i j o1 o2 a1 a2 as1 as2 hij h1 h2 e1 e2 k1 k2 => ?_⟩
  obtain ⟨b, bs, e3, fr3, k3⟩ := s.own h1
  rw [e1] at e3
  cases e3
  obtain ⟨u, eu⟩ := k3.live a1 (by cases k3 <;> simp)
  have hk : ∀ u, H a1 = some u → H1 a1 = some u := fun u e => f.keep a1 u e (fr3 a1 (by cases k3 <;> simp)).2.1
  have := k3.det (o' := o1) k1 hk
  subst this
  obtain ⟨c, cs, e4, fr4, k4⟩ := s.own h2
  rw [e2] at e4
  cases e4
  exact s.apart' hij h1 h2 e1 e2 k3 k2 fun u e => f.keep a2 u e (fr4 a2 (by cases k4 <;> simp)).2.1
theorem set_get_ne {α : Type} {ρ : List α} {i j : Nat} {x : α} {r : Option α} (h : j ≠ i) : (ρ.set i x)[j]? = r ↔ ρ[j]? = r := by rw [List.getElem?_set_ne (Ne.symm h)]
theorem set_no_own {ρ : List Sl} {i j : Nat} {t : Sl} {o : OD} (n : ∀ o, t ≠ Sl.own o) (h : (ρ.set i t)[j]? = some (.own o)) : j ≠ i := fun e => by
  subst e
  rw [List.getElem?_set] at h
  split at h
  · split at h
    · exact n o (Option.some.inj h)
    · cases h
  · rename_i hh; exact hh rfl
/-- a slot is set to a value that is kept -/
theorem Slots.set {σ : St} {ρ : List Sl} (s : Slots K W H0 F H σ ρ) (i : Nat) {v : V} {d : D} (h : Dat K F v d) : Slots K W H0 F H (σ.set i (some v)) (ρ.set i (.fz d)) := by
  refine ⟨paired_set (.fz h) i s.at_, fun j k o1 o2 a1 a2 as1 as2 n h1 h2 e1 e2 => ?_⟩
  have nj := set_no_own (by intro o z; cases z) h1
  have nk := set_no_own (by intro o z; cases z) h2
  rw [set_get_ne nj] at h1 e1
  rw [set_get_ne nk] at h2 e2
  exact s.apart j k o1 o2 a1 a2 as1 as2 n h1 h2 e1 e2
/-- a slot is forgotten -/
theorem Slots.forget {σ : St} {ρ : List Sl} (s : Slots K W H0 F H σ ρ) (i : Nat) (o : Option V) : Slots K W H0 F H (σ.set i o) (ρ.set i .un) := by
  refine ⟨paired_set (.un o) i s.at_, fun j k o1 o2 a1 a2 as1 as2 n h1 h2 e1 e2 => ?_⟩
  have nj := set_no_own (by intro o z; cases z) h1
  have nk := set_no_own (by intro o z; cases z) h2
  rw [set_get_ne nj] at h1 e1
  rw [set_get_ne nk] at h2 e2
  exact s.apart j k o1 o2 a1 a2 as1 as2 n h1 h2 e1 e2
/-- what slot i holds for itself is changed, or kept: the others stand -/
theorem Slots.other {σ : St} {ρ : List Sl} (s : Slots K W H0 F H σ ρ) {i : Nat} {o : OD} {a : Addr} {as : List Addr} (h : ρ[i]? = some (.own o)) (hs : σ[i]? = some (some (.ref a))) (ho : OwnAt K F H o a as) (g : Same F F1) (hF : ∀ q, ¬ q ∈ as → F1 q = F q) (hH : ∀ q, ¬ q ∈ as → H1 q = H q) :
    Slots K W H0 F1 H1 σ (ρ.set i .un) := by
  have away : ∀ {j : Nat} {o2 : OD} {a2 : Addr} {as2 : List Addr}, j ≠ i → ρ[j]? = some (.own o2) → σ[j]? = some (some (.ref a2)) → OwnAt K F H o2 a2 as2 → ∀ q ∈ as2, ¬ q ∈ as := fun hj h2 e2 k2 q hq hq2 => s.apart i _ o _ a _ as _ (Ne.symm hj) h h2 hs e2 ho k2 q hq2 hq
  refine ⟨paired_of (by rw [List.length_set]; exact s.len) fun j x t e1 e2 => ?_, fun j k o1 o2 a1 a2 as1 as2 n h1 h2 e1 e2 k1 k2 => ?_⟩
  · by_cases hj : j = i
    · subst hj
      rw [List.getElem?_set] at e2
      simp only [if_true] at e2
      split at e2
      · cases e2; exact .un x
      · cases e2
    · rw [set_get_ne hj] at e2
      obtain ⟨x', e3, r⟩ := paired_get s.at_ e2
      rw [e1] at e3
      cases e3
      cases r with
      | un => exact .un _
      | fz r => exact .fz (r.mono g)
      | own fr k =>
        have aw := away hj e2 e1 k
        exact .own (fun q hq => ⟨by rw [hF q (aw q hq)]; exact (fr q hq).1, (fr q hq).2⟩) (k.move g fun q hq => hH q (aw q hq))
  · have nj := set_no_own (by intro o z; cases z) h1
    have nk := set_no_own (by intro o z; cases z) h2
    rw [set_get_ne nj] at h1
    rw [set_get_ne nk] at h2
    obtain ⟨b, bs, e3, _, k3⟩ := s.own h1
    rw [e1] at e3
    cases e3
    obtain ⟨c, cs, e4, _, k4⟩ := s.own h2
    rw [e2] at e4
    cases e4
    have q1 := k3.det (o' := o1) k1 fun u e => by rw [hH a1 (away nj h1 e1 k3 a1 (by cases k3 <;> simp))]; exact e
    have q2 := k4.det (o' := o2) k2 fun u e => by rw [hH a2 (away nk h2 e2 k4 a2 (by cases k4 <;> simp))]; exact e
    subst q1 q2
    exact s.apart j k o1 o2 a1 a2 _ _ n h1 h2 e1 e2 k3 k4
/-- a slot is set to something of one's own -/
theorem Slots.put {σ : St} {ρ : List Sl} (s : Slots K W H0 F H σ ρ) (i : Nat) {o : OD} {a : Addr} {as : List Addr} (fr : Free W H0 F as) (ho : OwnAt K F H o a as)
    (hd : ∀ (j : Nat) o2 a2 as2, j ≠ i → ρ[j]? = some (.own o2) → σ[j]? = some (some (.ref a2)) → OwnAt K F H o2 a2 as2 → ∀ q ∈ as, ¬ q ∈ as2) : Slots K W H0 F H (σ.set i (some (.ref a))) (ρ.set i (.own o)) := by
  have at_i : ∀ {j : Nat} {o1 : OD} {a1 : Addr} {as1 : List Addr}, j = i → (ρ.set i (.own o))[j]? = some (.own o1) → (σ.set i (some (.ref a)))[j]? = some (some (.ref a1)) → OwnAt K F H o1 a1 as1 → as1 = as := fun {j o1 a1 as1} e h1 e1 k1 => by
    subst e
    have hl : j < ρ.length := by
      have := (List.getElem?_eq_some_iff.mp h1).1
      rwa [List.length_set] at this
    rw [List.getElem?_set_self hl] at h1
    rw [List.getElem?_set_self (by rw [s.len]; exact hl)] at e1
    cases h1
    cases e1
    exact ho.det (o' := o) k1 fun _ e => e
  refine ⟨paired_set (.own fr ho) i s.at_, fun j k o1 o2 a1 a2 as1 as2 n h1 h2 e1 e2 k1 k2 => ?_⟩
  by_cases hj : j = i
  · have q1 := at_i hj h1 e1 k1
    subst q1
    have hk : k ≠ i := fun e => n (hj.trans e.symm)
    rw [set_get_ne hk] at h2 e2
    exact hd k o2 a2 as2 hk h2 e2 k2
  · by_cases hk : k = i
    · have q2 := at_i hk h2 e2 k2
      subst q2
      rw [set_get_ne hj] at h1 e1
      exact fun q hq hq2 => hd j o1 a1 as1 hj h1 e1 k1 q hq2 hq
    · rw [set_get_ne hj] at h1 e1
      rw [set_get_ne hk] at h2 e2
      exact s.apart j k o1 o2 a1 a2 as1 as2 n h1 h2 e1 e2 k1 k2
theorem set_self_eq {α : Type} {l : List α} {i : Nat} {x : α} (h : l[i]? = some x) : l.set i x = l := by
  apply List.ext_getElem?
  intro j
  by_cases e : j = i
  · subst e
    rw [List.getElem?_set_self (List.getElem?_eq_some_iff.mp h).1, h]
  · rw [List.getElem?_set_ne (Ne.symm e)]
/-- what slot i holds for itself becomes another thing at the same place -/
theorem Slots.change {σ : St} {ρ : List Sl} (s : Slots K W H0 F H σ ρ) {i : Nat} {o o' : OD} {a : Addr} {as : List Addr} (h : ρ[i]? = some (.own o)) (hs : σ[i]? = some (some (.ref a))) (fr : Free W H0 F as) (ho : OwnAt K F H o a as) (hH : ∀ q, ¬ q ∈ as → H1 q = H q) (ho' : OwnAt K F H1 o' a as) : Slots K W H0 F H1 σ (ρ.set i (.own o')) := by
  have s1 := s.other (F1 := F) (H1 := H1) h hs ho (Same.refl F) (fun _ _ => rfl) hH
  have s2 := s1.put i fr ho' fun j o2 a2 as2 hj h2 e2 k2 q hq hq2 => by
    rw [set_get_ne hj] at h2
    obtain ⟨c, cs, e4, _, k4⟩ := s.own h2
    rw [e2] at e4
    cases e4
    have aw : ∀ q ∈ cs, ¬ q ∈ as := fun q hq hq2 => s.apart i j o _ a _ as _ (Ne.symm hj) h h2 hs e2 ho k4 q hq2 hq
    have q2 := k4.det (o' := o2) k2 fun u e => by rw [hH a2 (aw a2 (by cases k4 <;> simp))]; exact e
    subst q2
    exact aw q hq2 hq
  rw [set_self_eq hs, List.set_set] at s2
  exact s2
end
end DL
set_option Elab.async false
set_option linter.all false
set_option maxRecDepth 100000
set_option maxHeartbeats 1000000
set_option autoImplicit false
namespace DL
open PySem L2
/-- W: the well that draws change; F0, H0: the def's entry; XP: what is wanted of an exception (class, fields) -/
structure Dx where
  W : Option Addr
  F0 : Hp
  H0 : Hp
  XP : Addr → List (Str × D) → Prop
abbrev DE := List Sl → (D → Prop) → Prop
abbrev DA := List Sl → (List D → Prop) → Prop
abbrev DT := List Sl → (Bool → Prop) → Prop
structure At (K : PySem.W.Frag) (c : Dx) (F H : Hp) (σ : St) (ρ : List Sl) : Prop where
  en : Fr c.W c.F0 c.H0 F H
  sl : Slots K c.W c.H0 F H σ ρ
def up (X : Cx) (c : Dx) (den : DE) : TE := fun σ H Q => ∃ F ρ, At X.K c F H σ ρ ∧ den ρ fun d => ∀ v F' H', Fr c.W F H F' H' → Dat X.K F' v d → Q v H'
def upA (X : Cx) (c : Dx) (den : DA) : TA := fun σ H Q => ∃ F ρ, At X.K c F H σ ρ ∧ den ρ fun d => ∀ v F' H', Fr c.W F H F' H' → DatL X.K F' v d → Q v H'
def upT (X : Cx) (c : Dx) (den : DT) : TT := fun σ H Q => ∃ F ρ, At X.K c F H σ ρ ∧ den ρ fun b => ∀ F' H', Fr c.W F H F' H' → Q b H'
def Mono {α : Type} (den : List Sl → (α → Prop) → Prop) : Prop := ∀ ρ P P', (∀ d, P d → P' d) → den ρ P → den ρ P'
structure PD (X : Cx) (c : Dx) (e : Expr) (den : DE) : Prop where
  pe : PE X e (up X c den)
  mono : Mono den
structure PDA (X : Cx) (c : Dx) (es : List Expr) (den : DA) : Prop where
  pa : PA X es (upA X c den)
  mono : Mono den
structure PDT (X : Cx) (c : Dx) (e : Expr) (den : DT) : Prop where
  pt : PT X e (upT X c den)
  mono : Mono den
section
variable {X : Cx} {c : Dx} {F H F1 H1 : Hp} {σ : St} {ρ : List Sl}
theorem At.good (a : At X.K c F H σ ρ) : Good c.W F H := a.en.good
theorem At.fr (a : At X.K c F H σ ρ) (f : Fr c.W F H F1 H1) : At X.K c F1 H1 σ ρ := ⟨a.en.trans f, a.sl.fr f⟩
theorem imp {e : Expr} {t t' : TE} (h : PE X e t) (i : ∀ σ H Q, t' σ H Q → t σ H Q) : PE X e t' := ⟨fun pins s σ H Q I q => h.run pins s σ H Q I (i σ H Q q)⟩
theorem impT {e : Expr} {t t' : TT} (h : PT X e t) (i : ∀ σ H Q, t' σ H Q → t σ H Q) : PT X e t' := ⟨fun pins s σ H Q I q => h.run pins s σ H Q I (i σ H Q q)⟩
theorem impA {e : List Expr} {t t' : TA} (h : PA X e t) (i : ∀ σ H Q, t' σ H Q → t σ H Q) : PA X e t' := ⟨fun ps pins s σ H Q I q => h.run ps pins s σ H Q I (i σ H Q q)⟩
/-! ### names, constants -/
@[simp] def dVar (i : Nat) : DE := fun ρ P => ∃ d, ρ[i]? = some (.fz d) ∧ P d
@[simp] def dC (d : D) : DE := fun _ P => P d
theorem pd_var {i : Nat} {e : Expr} (h : PE X e (tVar i)) : PD X c e (dVar i) := by
  refine ⟨imp h fun σ H Q q => ?_, fun ρ P P' m ⟨d, h, p⟩ => ⟨d, h, m d p⟩⟩
  obtain ⟨F, ρ, a, d, e, q⟩ := q
  obtain ⟨v, h1, h2⟩ := a.sl.fz e
  exact ⟨v, h1, q v F H a.good.rfl h2⟩
theorem pd_c {e : Expr} {v : V} {d : D} (h : PE X e (tC v)) (hd : ∀ F, Dat X.K F v d) : PD X c e (dC d) := by
  refine ⟨imp h fun σ H Q q => ?_, fun ρ P P' m p => m _ p⟩
  obtain ⟨F, ρ, a, q⟩ := q
  exact q v F H a.good.rfl (hd F)
theorem pd_int {i : Int} {j pos} : PD X c (.Constant (.int i) j pos) (dC (.int i)) := pd_c pe_int fun _ => .int i
theorem pd_bl {b j pos} : PD X c (.Constant (.bool b) j pos) (dC (.bl b)) := pd_c pe_bl fun _ => .bl b
theorem pd_non {j pos} : PD X c (.Constant .none j pos) (dC .non) := pd_c pe_non fun _ => .non
theorem pd_str {x j pos} : PD X c (.Constant (.str x) j pos) (dC (.str x)) := pd_c pe_str fun _ => .str x
/-! ### arguments, displays -/
@[simp] def dNil : DA := fun _ P => P []
@[simp] def dCons (a : DE) (r : DA) : DA := fun ρ P => a ρ fun d => r ρ fun ds => P (d :: ds)
theorem pda_nil : PDA X c [] dNil := by
  refine ⟨impA pa_nil fun σ H Q q => ?_, fun ρ P P' m p => m _ p⟩
  obtain ⟨F, ρ, a, q⟩ := q
  exact q [] F H a.good.rfl .nil
theorem pda_cons {e : Expr} {es : List Expr} {de : DE} {da : DA} (h : PD X c e de) (k : PDA X c es da) (hs : starEach (e :: es) X.env = (false, eval e X.env) :: starEach es X.env := by rfl) : PDA X c (e :: es) (dCons de da) := by
  refine ⟨impA (pa_cons h.pe k.pa hs) fun σ H Q q => ?_, fun ρ P P' m => h.mono ρ _ _ fun d => k.mono ρ _ _ fun ds => m _⟩
  obtain ⟨F, ρ, a, q⟩ := q
  refine ⟨F, ρ, a, h.mono _ _ _ (fun d q v F1 H1 f1 d1 => ?_) q⟩
  refine ⟨F1, ρ, a.fr f1, k.mono _ _ _ (fun ds q vs F2 H2 f2 d2 => ?_) q⟩
  exact q _ F2 H2 (f1.trans f2) (.cons (d1.mono f2.grow) d2)
@[simp] def dTup (da : DA) : DE := fun ρ P => da ρ fun ds => ds.length ≤ 1000 ∧ P (.tup ds)
@[simp] def dLst (da : DA) : DE := fun ρ P => da ρ fun ds => ds.length ≤ 1000 ∧ P (.lst ds)
theorem le_line {n : Nat} (h : n ≤ 1000) : n ≤ sizeLine := Nat.le_of_lt (small1000 h)
theorem pd_tup {es : List Expr} {da : DA} {x1 pos} (h : PDA X c es da) : PD X c (.Tuple es x1 pos) (dTup da) := by
  refine ⟨imp (pe_tup h.pa) fun σ H Q q => ?_, fun ρ P P' m => h.mono ρ _ _ fun ds q => ⟨q.1, m _ q.2⟩⟩
  obtain ⟨F, ρ, a, q⟩ := q
  refine ⟨F, ρ, a, h.mono _ _ _ (fun ds q vs F1 H1 f1 d1 => ⟨by rw [d1.length]; exact le_line q.1, fun p hp => ?_⟩) q⟩
  have f2 := f1.good.laid (o := .tup vs) hp
  exact q.2 _ _ _ (f1.trans f2) (.tup (.of upd_same) (d1.mono f2.grow))
theorem pd_lst {es : List Expr} {da : DA} {pos} (h : PDA X c es da) : PD X c (.List es pos) (dLst da) := by
  refine ⟨imp (pe_lst h.pa) fun σ H Q q => ?_, fun ρ P P' m => h.mono ρ _ _ fun ds q => ⟨q.1, m _ q.2⟩⟩
  obtain ⟨F, ρ, a, q⟩ := q
  refine ⟨F, ρ, a, h.mono _ _ _ (fun ds q vs F1 H1 f1 d1 => ⟨by rw [d1.length]; exact le_line q.1, fun p hp => ?_⟩) q⟩
  have f2 := f1.good.laid (o := .lst vs) hp
  exact q.2 _ _ _ (f1.trans f2) (.lst upd_same (d1.mono f2.grow))
/-! ### operators of two values -/
abbrev F2 := D → D → (D → Prop) → Prop
def Mono2 (f : F2) : Prop := ∀ x y P P', (∀ d, P d → P' d) → f x y P → f x y P'
/-- the heap's relation r is served by f -/
def Serves (X : Cx) (c : Dx) (r : R2) (f : F2) : Prop := ∀ F H x y dx dy P Q, Good c.W F H → Dat X.K F x dx → Dat X.K F y dy → f dx dy P → (∀ d v F' H', P d → Fr c.W F H F' H' → Dat X.K F' v d → Q v H') → r x y H Q
@[simp] def dOp (f : F2) (da db : DE) : DE := fun ρ P => da ρ fun x => db ρ fun y => f x y P
section
variable {a b : Expr} {da db : DE} {r : R2} {f : F2} {pos : Pos}
theorem op_up (hf : Serves X c r f) (ma : Mono da) (mb : Mono db) : ∀ σ H Q, up X c (dOp f da db) σ H Q → tOp r (up X c da) (up X c db) σ H Q := by
  intro σ H Q q
  obtain ⟨F, ρ, a, q⟩ := q
  refine ⟨F, ρ, a, ma _ _ _ (fun d q v F1 H1 f1 d1 => ?_) q⟩
  refine ⟨F1, ρ, a.fr f1, mb _ _ _ (fun d2 q v2 F2 H2 f2 d2 => ?_) q⟩
  exact hf F2 H2 v v2 _ _ _ Q f2.good (d1.mono f2.grow) d2 q fun d v F' H' p f3 dd => p v F' H' (f1.trans (f2.trans f3)) dd
theorem mono_op (hf : Mono2 f) (ma : Mono da) (mb : Mono db) : Mono (dOp f da db) := fun ρ P P' m => ma ρ _ _ fun x => mb ρ _ _ fun y => hf x y P P' m
theorem pd_op {op : Operator} (ho : OpR X (binaryOp op) r) (hf : Serves X c r f) (hm : Mono2 f) (ha : PD X c a da) (hb : PD X c b db) : PD X c (.BinOp a op b pos) (dOp f da db) :=
  ⟨imp (pe_op ho ha.pe hb.pe) (op_up hf ha.mono hb.mono), mono_op hm ha.mono hb.mono⟩
theorem pd_cmp {op : CmpOp} (ho : OpR X (compareOp op) r) (hf : Serves X c r f) (hm : Mono2 f) (ha : PD X c a da) (hb : PD X c b db) (hn : behindInMarks op b = false) : PD X c (.Compare a [op] [b] pos) (dOp f da db) :=
  ⟨imp (pe_cmpR ho ha.pe hb.pe hn) (op_up hf ha.mono hb.mono), mono_op hm ha.mono hb.mono⟩
theorem pd_ix (ho : IxR X r) (hf : Serves X c r f) (hm : Mono2 f) (ha : PD X c a da) (hb : PD X c b db) (hs : PlainIx b) : PD X c (.Subscript a b pos) (dOp f da db) :=
  ⟨imp (pe_ix ho ha.pe hb.pe hs) (op_up hf ha.mono hb.mono), mono_op hm ha.mono hb.mono⟩
/-! ints -/
def fI (C : Int → Int → Prop) (g : Int → Int → Int) : F2 := fun x y P => ∃ i j, x = .int i ∧ y = .int j ∧ C i j ∧ P (.int (g i j))
def fI0 (g : Int → Int → Int) : F2 := fun x y P => ∃ i j, x = .int i ∧ y = .int j ∧ P (.int (g i j))
def fB0 (g : Int → Int → Bool) : F2 := fun x y P => ∃ i j, x = .int i ∧ y = .int j ∧ P (.bl (g i j))
theorem mono_fI {C g} : Mono2 (fI C g) := fun _ _ _ _ m ⟨i, j, a, b, k, p⟩ => ⟨i, j, a, b, k, m _ p⟩
theorem mono_fI0 {g} : Mono2 (fI0 g) := fun _ _ _ _ m ⟨i, j, a, b, p⟩ => ⟨i, j, a, b, m _ p⟩
theorem mono_fB0 {g} : Mono2 (fB0 g) := fun _ _ _ _ m ⟨i, j, a, b, p⟩ => ⟨i, j, a, b, m _ p⟩
theorem serves_I {C g} : Serves X c (rI C fun i j => .int (g i j)) (fI C g) := by
  intro F H x y dx dy P Q G hx hy h q
  obtain ⟨i, j, rfl, rfl, hc, p⟩ := h
  cases hx
  cases hy
  exact ⟨i, j, rfl, rfl, hc, q _ _ F H p G.rfl (.int _)⟩
theorem serves_I0 {g} : Serves X c (rI0 fun i j => .int (g i j)) (fI0 g) := by
  intro F H x y dx dy P Q G hx hy h q
  obtain ⟨i, j, rfl, rfl, p⟩ := h
  cases hx
  cases hy
  exact ⟨i, j, rfl, rfl, q _ _ F H p G.rfl (.int _)⟩
theorem serves_B0 {g} : Serves X c (rI0 fun i j => .bl (g i j)) (fB0 g) := by
  intro F H x y dx dy P Q G hx hy h q
  obtain ⟨i, j, rfl, rfl, p⟩ := h
  cases hx
  cases hy
  exact ⟨i, j, rfl, rfl, q _ _ F H p G.rfl (.bl _)⟩
theorem pd_sub (ha : PD X c a da) (hb : PD X c b db) : PD X c (.BinOp a .Sub b pos) (dOp (fI0 fun i j => i - j) da db) := pd_op op_sub serves_I0 mono_fI0 ha hb
theorem pd_fdiv (ha : PD X c a da) (hb : PD X c b db) : PD X c (.BinOp a .FloorDiv b pos) (dOp (fI CDivW fun i j => i / j) da db) := pd_op op_fdivW serves_I mono_fI ha hb
theorem pd_mod (ha : PD X c a da) (hb : PD X c b db) : PD X c (.BinOp a .Mod b pos) (dOp (fI (fun _ j => 0 < j) fun i j => i % j) da db) := pd_op op_mod serves_I mono_fI ha hb
theorem pd_pow (ha : PD X c a da) (hb : PD X c b db) : PD X c (.BinOp a .Pow b pos) (dOp (fI CPow fun i j => i ^ j.toNat) da db) := pd_op op_pow serves_I mono_fI ha hb
end
/-! one-place -/
@[simp] def dUn (f : D → (D → Prop) → Prop) (da : DE) : DE := fun ρ P => da ρ fun x => f x P
def fNeg : D → (D → Prop) → Prop := fun x P => ∃ i, x = .int i ∧ P (.int (-i))
theorem pd_neg {a : Expr} {da : DE} {pos} (ha : PD X c a da) : PD X c (.UnaryOp .USub a pos) (dUn fNeg da) := by
  refine ⟨imp (pe_un un_neg ha.pe) fun σ H Q q => ?_, fun ρ P P' m => ha.mono ρ _ _ fun x ⟨i, e, p⟩ => ⟨i, e, m _ p⟩⟩
  obtain ⟨F, ρ, a, q⟩ := q
  refine ⟨F, ρ, a, ha.mono _ _ _ (fun d q v F1 H1 f1 d1 => ?_) q⟩
  obtain ⟨i, rfl, q⟩ := q
  cases d1
  exact ⟨i, rfl, q _ F1 H1 f1 (.int _)⟩
/-! ### and, or, not, tests -/
@[simp] def dB (de : DE) : DT := fun ρ P => de ρ fun x => ∃ b, x = .bl b ∧ P b
@[simp] def dTV (dt : DT) : DE := fun ρ P => dt ρ fun b => P (.bl b)
@[simp] def dAndV (da db : DE) : DE := fun ρ P => da ρ fun x => ∃ b, x = .bl b ∧ if b = true then db ρ P else P (.bl false)
@[simp] def dOrV (da db : DE) : DE := fun ρ P => da ρ fun x => ∃ b, x = .bl b ∧ if b = true then P (.bl true) else db ρ P
@[simp] def dNotV (da : DE) : DE := fun ρ P => da ρ fun x => ∃ b, x = .bl b ∧ P (.bl (!b))
section
variable {a b : Expr} {rest : List Expr} {da db : DE} {ta tb : DT} {pos : Pos}
theorem pd_one {op} (h : PD X c a da) : PD X c (.BoolOp op [a] pos) da := ⟨pe_one h.pe, h.mono⟩
theorem pd_and (ha : PD X c a da) (hb : PD X c (.BoolOp .And (b :: rest) pos) db) : PD X c (.BoolOp .And (a :: b :: rest) pos) (dAndV da db) := by
  refine ⟨imp (pe_and ha.pe hb.pe) fun σ H Q q => ?_, fun ρ P P' m => ha.mono ρ _ _ fun x ⟨i, e, p⟩ => ⟨i, e, ?_⟩⟩
  · obtain ⟨F, ρ, a, q⟩ := q
    refine ⟨F, ρ, a, ha.mono _ _ _ (fun d q v F1 H1 f1 d1 => ?_) q⟩
    obtain ⟨i, rfl, q⟩ := q
    cases d1
    refine ⟨i, rfl, ?_⟩
    cases i with
    | true => exact ⟨F1, ρ, a.fr f1, hb.mono _ _ _ (fun d p v F' H' f3 dd => p v F' H' (f1.trans f3) dd) q⟩
    | false => exact q _ F1 H1 f1 (.bl _)
  · cases i with
    | true => exact hb.mono _ _ _ m p
    | false => exact m _ p
/-- a value that is a bool, as a test -/
theorem pdt_val (h : PD X c a da) (he : ∀ whole, isTrue a X.env whole = (do let v ← whole; standAt a.pos; holding [v] (truthy v)) := by intro _; rfl) : PDT X c a (dB da) := by
  refine ⟨impT (pt_val h.pe he) fun σ H Q q => ?_, fun ρ P P' m => h.mono ρ _ _ fun x ⟨i, e, p⟩ => ⟨i, e, m _ p⟩⟩
  obtain ⟨F, ρ, a, q⟩ := q
  refine ⟨F, ρ, a, h.mono _ _ _ (fun d q v F1 H1 f1 d1 => ?_) q⟩
  obtain ⟨i, rfl, q⟩ := q
  cases d1
  exact ⟨i, rfl, q F1 H1 f1⟩
/-- a comparison as a test -/
theorem pdt_cmp {op : CmpOp} {r : R2} {f : F2} (ho : OpR X (compareOp op) r) (hf : Serves X c r f) (hm : Mono2 f) (ha : PD X c a da) (hb : PD X c b db) (hn : behindInMarks op b = false) : PDT X c (.Compare a [op] [b] pos) (dB (dOp f da db)) := by
  have mo := mono_op hm ha.mono hb.mono
  refine ⟨impT (pt_cmpR ho ha.pe hb.pe hn) fun σ H Q q => ?_, fun ρ P P' m => mo ρ _ _ fun x ⟨i, e, p⟩ => ⟨i, e, m _ p⟩⟩
  obtain ⟨F, ρ, a, q⟩ := q
  refine op_up hf ha.mono hb.mono σ H _ ⟨F, ρ, a, mo _ _ _ (fun d q v F1 H1 f1 d1 => ?_) q⟩
  obtain ⟨i, rfl, q⟩ := q
  cases d1
  exact ⟨i, rfl, q F1 H1 f1⟩
@[simp] def dTAnd (t u : DT) : DT := fun ρ P => t ρ fun b => if b = true then u ρ P else P false
@[simp] def dTOr (t u : DT) : DT := fun ρ P => t ρ fun b => if b = true then P true else u ρ P
@[simp] def dTNot (t : DT) : DT := fun ρ P => t ρ fun b => P (!b)
structure PDW (X : Cx) (c : Dx) (e : Expr) (den : DT) : Prop where
  pw : PW X e (upT X c den)
  mono : Mono den
theorem impW {e : Expr} {t t' : TT} (h : PW X e t) (i : ∀ σ H Q, t' σ H Q → t σ H Q) : PW X e t' := ⟨fun wh pins s σ H Q I q => h.run wh pins s σ H Q I (i σ H Q q)⟩
theorem pdw_and1 (h : PDT X c a ta) : PDW X c (.BoolOp .And [a] pos) ta := ⟨pw_and1 h.pt, h.mono⟩
theorem pdw_or1 (h : PDT X c a ta) : PDW X c (.BoolOp .Or [a] pos) ta := ⟨pw_or1 h.pt, h.mono⟩
theorem pdw_and (ha : PDT X c a ta) (hb : PDW X c (.BoolOp .And (b :: rest) pos) tb) : PDW X c (.BoolOp .And (a :: b :: rest) pos) (dTAnd ta tb) := by
  refine ⟨impW (pw_and ha.pt hb.pw) fun σ H Q q => ?_, fun ρ P P' m => ha.mono ρ _ _ fun b p => ?_⟩
  · obtain ⟨F, ρ, a, q⟩ := q
    refine ⟨F, ρ, a, ha.mono _ _ _ (fun d q F1 H1 f1 => ?_) q⟩
    cases d with
    | true => exact ⟨F1, ρ, a.fr f1, hb.mono _ _ _ (fun d p F' H' f3 => p F' H' (f1.trans f3)) q⟩
    | false => exact q F1 H1 f1
  · cases b with
    | true => exact hb.mono _ _ _ m p
    | false => exact m _ p
theorem pdw_or (ha : PDT X c a ta) (hb : PDW X c (.BoolOp .Or (b :: rest) pos) tb) : PDW X c (.BoolOp .Or (a :: b :: rest) pos) (dTOr ta tb) := by
  refine ⟨impW (pw_or ha.pt hb.pw) fun σ H Q q => ?_, fun ρ P P' m => ha.mono ρ _ _ fun b p => ?_⟩
  · obtain ⟨F, ρ, a, q⟩ := q
    refine ⟨F, ρ, a, ha.mono _ _ _ (fun d q F1 H1 f1 => ?_) q⟩
    cases d with
    | false => exact ⟨F1, ρ, a.fr f1, hb.mono _ _ _ (fun d p F' H' f3 => p F' H' (f1.trans f3)) q⟩
    | true => exact q F1 H1 f1
  · cases b with
    | false => exact hb.mono _ _ _ m p
    | true => exact m _ p
theorem pdt_w {t : DT} (h : PDW X c a t) : PDT X c a t := ⟨h.pw.pt, h.mono⟩
theorem pdt_not (h : PDT X c a ta) : PDT X c (.UnaryOp .Not a pos) (dTNot ta) := by
  refine ⟨impT (pt_not h.pt) fun σ H Q q => ?_, fun ρ P P' m => h.mono ρ _ _ fun b p => m _ p⟩
  exact q
@[simp] def dIf (t : DT) (da db : DE) : DE := fun ρ P => t ρ fun b => if b = true then da ρ P else db ρ P
theorem pd_if {e : Expr} {t : DT} (hc : PDT X c e t) (ha : PD X c a da) (hb : PD X c b db) : PD X c (.IfExp e a b pos) (dIf t da db) := by
  refine ⟨imp (pe_ifExp hc.pt ha.pe hb.pe) fun σ H Q q => ?_, fun ρ P P' m => hc.mono ρ _ _ fun b p => ?_⟩
  · obtain ⟨F, ρ, a, q⟩ := q
    refine ⟨F, ρ, a, hc.mono _ _ _ (fun d q F1 H1 f1 => ?_) q⟩
    cases d with
    | false => exact ⟨F1, ρ, a.fr f1, hb.mono _ _ _ (fun d p v F' H' f3 dd => p v F' H' (f1.trans f3) dd) q⟩
    | true => exact ⟨F1, ρ, a.fr f1, ha.mono _ _ _ (fun d p v F' H' f3 dd => p v F' H' (f1.trans f3) dd) q⟩
  · cases b with
    | false => exact hb.mono _ _ _ m p
    | true => exact ha.mono _ _ _ m p
end
/-! ### calls of what is built in, of defs -/
abbrev FN := List D → (D → Prop) → Prop
def ServesC (X : Cx) (c : Dx) (r : List V → Hp → VK → Prop) (f : FN) : Prop := ∀ F H xs ds P Q, Good c.W F H → DatL X.K F xs ds → f ds P → (∀ d v F' H', P d → Fr c.W F H F' H' → Dat X.K F' v d → Q v H') → r xs H Q
@[simp] def dCall (f : FN) (da : DA) : DE := fun ρ P => da ρ fun ds => f ds P
def MonoF (f : FN) : Prop := ∀ ds P P', (∀ d, P d → P' d) → f ds P → f ds P'
theorem call_up {r : List V → Hp → VK → Prop} {f : FN} {da : DA} (hf : ServesC X c r f) (ma : Mono da) : ∀ σ H Q, up X c (dCall f da) σ H Q → upA X c da σ H fun vs H1 => r vs H1 Q := by
  intro σ H Q q
  obtain ⟨F, ρ, a, q⟩ := q
  refine ⟨F, ρ, a, ma _ _ _ (fun ds q vs F1 H1 f1 d1 => ?_) q⟩
  exact hf F1 H1 vs ds _ Q f1.good d1 q fun d v F' H' p f3 dd => p v F' H' (f1.trans f3) dd
theorem mono_call {f : FN} {da : DA} (hf : MonoF f) (ma : Mono da) : Mono (dCall f da) := fun ρ P P' m => ma ρ _ _ fun ds => hf ds P P' m
end
end DL
set_option Elab.async false
set_option linter.all false
set_option maxRecDepth 100000
set_option maxHeartbeats 1000000
set_option autoImplicit false
namespace DL
open PySem PySem.Spec PyProof.Rows L2
section
variable {X : Cx} {c : Dx}
/-! ### calls of built-in things -/
theorem pd_callB {id : String} {x : Str} {p pos : Pos} {e : Expr} {es : List Expr} {r : List V → Hp → VK → Prop} {f : FN} {da : DA} (hc : CallR X (.builtin id) r) (hf : ServesC X c r f) (mf : MonoF f) (hg : Gl X x) (hm : X.mg x = none) (hv : bootBuiltins x = some (.builtin id)) (ha : PDA X c (e :: es) da)
    (hn : x ≠ "__name__" := by decide) (hdb : (x == ("__debug__" : Str)) = false := by decide)
    (he : starEach (e :: es) X.env = (false, eval e X.env) :: starEach es X.env := by rfl) (hpl : (backTo pos (starEach es X.env)).any (·.1) = false := by rfl) : PD X c (.Call (.Name x p) (e :: es) [] pos) (dCall f da) :=
  ⟨imp (pe_callB hc hg hm hv ha.pa hn hdb he hpl) (call_up hf ha.mono), mono_call mf ha.mono⟩
theorem pd_callTy {T : String} {x : Str} {p pos : Pos} {e : Expr} {es : List Expr} {r : List V → Hp → VK → Prop} {f : FN} {da : DA} (hc : CallR X (.type T) r) (hf : ServesC X c r f) (mf : MonoF f) (hg : Gl X x) (hm : X.mg x = none) (hv : bootBuiltins x = some (.type T)) (ha : PDA X c (e :: es) da)
    (hn : x ≠ "__name__" := by decide) (hdb : (x == ("__debug__" : Str)) = false := by decide)
    (he : starEach (e :: es) X.env = (false, eval e X.env) :: starEach es X.env := by rfl) (hpl : (backTo pos (starEach es X.env)).any (·.1) = false := by rfl) : PD X c (.Call (.Name x p) (e :: es) [] pos) (dCall f da) :=
  ⟨imp (pe_callTy hc hg hm hv ha.pa hn hdb he hpl) (call_up hf ha.mono), mono_call mf ha.mono⟩
/-! len -/
def fLen : FN := fun ds P => ∃ n : Nat, ((∃ l, ds = [.lst l] ∧ n = l.length) ∨ (∃ l, ds = [.tup l] ∧ n = l.length) ∨ (∃ s : Str, ds = [.str s] ∧ s.length ≤ sizeLine ∧ n = s.length)) ∧ P (.int n)
theorem mono_fLen : MonoF fLen := fun ds P P' m ⟨n, a, p⟩ => ⟨n, a, m _ p⟩
theorem datL1 {K : PySem.W.Frag} {F : Hp} {xs : List V} {d : D} (h : DatL K F xs [d]) : ∃ v, xs = [v] ∧ Dat K F v d := by
  cases h with
  | cons h k =>
    cases k
    exact ⟨_, rfl, h⟩
theorem datL2 {K : PySem.W.Frag} {F : Hp} {xs : List V} {d e : D} (h : DatL K F xs [d, e]) : ∃ v u, xs = [v, u] ∧ Dat K F v d ∧ Dat K F u e := by
  cases h with
  | cons h k =>
    obtain ⟨u, rfl, hu⟩ := datL1 k
    exact ⟨_, _, rfl, h, hu⟩
theorem serves_len : ServesC X c (fun xs H Q => ∃ x n, xs = [x] ∧ LenV X.K x H n ∧ Q (.int n) H) fLen := by
  intro F H xs ds P Q G hx h q
  obtain ⟨n, h, p⟩ := h
  rcases h with ⟨l, rfl, rfl⟩ | ⟨l, rfl, rfl⟩ | ⟨s, rfl, hs, rfl⟩
  · obtain ⟨v, rfl, hv⟩ := datL1 hx
    cases hv with
    | lst hs hl => exact ⟨_, _, rfl, .inl ⟨_, SqL.of (G.sub _ _ hs), hl.length.symm⟩, q _ _ F H p G.rfl (.int _)⟩
  · obtain ⟨v, rfl, hv⟩ := datL1 hx
    cases hv with
    | tup hs hl => exact ⟨_, _, rfl, .inr ⟨_, sqT_mono G.sub hs, hl.length.symm⟩, q _ _ F H p G.rfl (.int _)⟩
  · obtain ⟨v, rfl, hv⟩ := datL1 hx
    cases hv
    exact ⟨_, _, rfl, ⟨hs, rfl⟩, q _ _ F H p G.rfl (.int _)⟩
/-! int -/
def fInt : FN := fun ds P => (∃ i, ds = [.int i] ∧ P (.int i)) ∨ ∃ k, ds = [.bl k] ∧ P (.int (if k then 1 else 0))
theorem mono_fInt : MonoF fInt := fun ds P P' m h => h.elim (fun ⟨i, e, p⟩ => .inl ⟨i, e, m _ p⟩) fun ⟨i, e, p⟩ => .inr ⟨i, e, m _ p⟩
theorem serves_int : ServesC X c (fun xs H Q => (∃ i, xs = [.int i] ∧ Q (.int i) H) ∨ ∃ k, xs = [.bl k] ∧ Q (.int (if k then 1 else 0)) H) fInt := by
  intro F H xs ds P Q G hx h q
  rcases h with ⟨i, rfl, p⟩ | ⟨k, rfl, p⟩
  · obtain ⟨v, rfl, hv⟩ := datL1 hx
    cases hv
    exact .inl ⟨i, rfl, q _ _ F H p G.rfl (.int _)⟩
  · obtain ⟨v, rfl, hv⟩ := datL1 hx
    cases hv
    exact .inr ⟨k, rfl, q _ _ F H p G.rfl (.int _)⟩
/-! max, all, tuple, list -/
def fMax : FN := fun ds P => ∃ ns : List Int, ds = [.lst (ns.map D.int)] ∧ 0 < ns.length ∧ ∀ m, m ∈ ns → (∀ y, y ∈ ns → y ≤ m) → P (.int m)
def fTupOf : FN := fun ds P => ∃ l, ds = [.lst l] ∧ P (.tup l) ∨ ds = [.tup l] ∧ P (.tup l)
theorem mono_fTupOf : MonoF fTupOf := fun ds P P' m ⟨l, h⟩ => ⟨l, h.elim (fun a => .inl ⟨a.1, m _ a.2⟩) fun a => .inr ⟨a.1, m _ a.2⟩⟩
theorem serves_tupOf : ServesC X c (fun xs H Q => ∃ p ys, xs = [.ref p] ∧ ((SqL X.K H p ys ∧ ∀ l, H l = none → Q (.ref l) (upd H l (.tup ys))) ∨ (SqT X.K H p ys ∧ Q (.ref p) H))) fTupOf := by
  intro F H xs ds P Q G hx h q
  obtain ⟨l, ⟨rfl, p⟩ | ⟨rfl, p⟩⟩ := h
  · obtain ⟨v, rfl, hv⟩ := datL1 hx
    cases hv with
    | lst hs hl =>
      refine ⟨_, _, rfl, .inl ⟨SqL.of (G.sub _ _ hs), fun t ht => ?_⟩⟩
      exact q _ _ _ _ p (G.laid ht) (.tup (.of upd_same) (hl.mono (G.laid (o := .tup _) ht).grow))
  · obtain ⟨v, rfl, hv⟩ := datL1 hx
    cases hv with
    | tup hs hl => exact ⟨_, _, rfl, .inr ⟨sqT_mono G.sub hs, q _ _ F H p G.rfl (.tup hs hl)⟩⟩
/-! ### == and != of data -/
mutual
def D.py : D → Option PyData
  | .non => some .none
  | .bl b => some (.bool b)
  | .int i => some (.int i)
  | .str x => some (.str x)
  | .tup xs => (D.pyL xs).map .tuple
  | .lst xs => (D.pyL xs).map .list
  | .ty _ => none
  | .adr _ => none
  | .ins _ _ => none
  | .dct _ => none
  | .scr _ => none
def D.pyL : List D → Option (List PyData)
  | [] => some []
  | x :: xs => (D.py x).bind fun y => (D.pyL xs).map fun ys => y :: ys
end
mutual
theorem dat_dp {K : PySem.W.Frag} {F : Hp} : ∀ {v : V} {d : D} {p : PyData}, Dat K F v d → d.py = some p → Dp K F v p
  | _, _, _, .non, h => by simp only [D.py, Option.some.injEq] at h; subst h; exact .non
  | _, _, _, .bl b, h => by simp only [D.py, Option.some.injEq] at h; subst h; exact .bl b
  | _, _, _, .int b, h => by simp only [D.py, Option.some.injEq] at h; subst h; exact .int b
  | _, _, _, .str b, h => by simp only [D.py, Option.some.injEq] at h; subst h; exact .str b
  | _, _, _, .ty _, h => by simp [D.py] at h
  | _, _, _, .adr _, h => by simp [D.py] at h
  | _, _, _, .ins _ _, h => by simp [D.py] at h
  | _, _, _, .dct _ _, h => by simp [D.py] at h
  | _, _, _, .scr _, h => by simp [D.py] at h
  | _, .tup ds, _, .tup hs hl, h => by
    simp only [D.py] at h
    cases q : D.pyL ds with
    | none => rw [q] at h; simp at h
    | some ps =>
      rw [q] at h
      simp only [Option.map_some, Option.some.injEq] at h
      subst h
      exact .tup hs (datL_dp hl q)
  | _, .lst ds, _, .lst hs hl, h => by
    simp only [D.py] at h
    cases q : D.pyL ds with
    | none => rw [q] at h; simp at h
    | some ps =>
      rw [q] at h
      simp only [Option.map_some, Option.some.injEq] at h
      subst h
      exact .lst (.of hs) (datL_dp hl q)
theorem datL_dp {K : PySem.W.Frag} {F : Hp} : ∀ {v : List V} {d : List D} {p : List PyData}, DatL K F v d → D.pyL d = some p → DpAll K F v p
  | _, _, _, .nil, h => by simp only [D.pyL, Option.some.injEq] at h; subst h; exact .nil
  | _, d :: ds, _, .cons h1 h2, h => by
    simp only [D.pyL] at h
    cases q : D.py d with
    | none => rw [q] at h; simp at h
    | some p =>
      rw [q] at h
      cases q2 : D.pyL ds with
      | none => rw [q2] at h; simp at h
      | some ps =>
        rw [q2] at h
        simp only [Option.bind_some, Option.map_some, Option.some.injEq] at h
        subst h
        exact .cons (dat_dp h1 q) (datL_dp h2 q2)
end
mutual
theorem Dp.mono {K : PySem.W.Frag} {F H : Hp} (s : Same F H) : ∀ {v : V} {p : PyData}, Dp K F v p → Dp K H v p
  | _, _, .non => .non
  | _, _, .bl b => .bl b
  | _, _, .int i => .int i
  | _, _, .str x => .str x
  | _, _, .lst h k => .lst (s.seq h) (DpAll.mono s k)
  | _, _, .tup h k => .tup (sqT_mono s h) (DpAll.mono s k)
theorem DpAll.mono {K : PySem.W.Frag} {F H : Hp} (s : Same F H) : ∀ {v : List V} {p : List PyData}, DpAll K F v p → DpAll K H v p
  | _, _, .nil => .nil
  | _, _, .cons h k => .cons (Dp.mono s h) (DpAll.mono s k)
end
def fEq (n : Bool) : F2 := fun x y P => ∃ d e, x.py = some d ∧ y.py = some e ∧ SeqAt.shaped d = true ∧ SeqAt.shaped e = true ∧ P (.bl (PyData.eqv d e != n))
theorem mono_fEq {n : Bool} : Mono2 (fEq n) := fun _ _ _ _ m ⟨d, e, a, b, k, l, p⟩ => ⟨d, e, a, b, k, l, m _ p⟩
theorem serves_eq : Serves X c (rEqD X.K) (fEq false) := by
  intro F H x y dx dy P Q G hx hy h q
  obtain ⟨d, e, h1, h2, h3, h4, p⟩ := h
  refine ⟨d, e, Dp.mono G.sub (dat_dp hx h1), Dp.mono G.sub (dat_dp hy h2), h3, h4, q _ _ F H p G.rfl ?_⟩
  rw [show (PyData.eqv d e != false) = PyData.eqv d e from by cases PyData.eqv d e <;> rfl]
  exact .bl _
theorem serves_ne : Serves X c (rNeD X.K) (fEq true) := by
  intro F H x y dx dy P Q G hx hy h q
  obtain ⟨d, e, h1, h2, h3, h4, p⟩ := h
  refine ⟨d, e, Dp.mono G.sub (dat_dp hx h1), Dp.mono G.sub (dat_dp hy h2), h3, h4, q _ _ F H p G.rfl ?_⟩
  rw [show (PyData.eqv d e != true) = !PyData.eqv d e from by cases PyData.eqv d e <;> rfl]
  exact .bl _
/-! ### is None -/
def D.isNon : D → Bool
  | .non => true
  | _ => false
theorem dat_non {K : PySem.W.Frag} {F : Hp} {v : V} {d : D} (h : Dat K F v d) : decide (v = .non) = d.isNon := by
  cases h <;> simp [D.isNon]
def fIs (n : Bool) : F2 := fun x y P => y = .non ∧ P (.bl (x.isNon != n))
theorem serves_is : Serves X c (fun x y H Q => y = .non ∧ Q (.bl (decide (x = .non))) H) (fIs false) := by
  intro F H x y dx dy P Q G hx hy h q
  obtain ⟨rfl, p⟩ := h
  cases hy
  rw [dat_non hx]
  refine ⟨rfl, q _ _ F H p G.rfl ?_⟩
  rw [show (dx.isNon != false) = dx.isNon from by cases dx.isNon <;> rfl]
  exact .bl _
theorem serves_isnot : Serves X c (fun x y H Q => y = .non ∧ Q (.bl (!decide (x = .non))) H) (fIs true) := by
  intro F H x y dx dy P Q G hx hy h q
  obtain ⟨rfl, p⟩ := h
  cases hy
  rw [dat_non hx]
  refine ⟨rfl, q _ _ F H p G.rfl ?_⟩
  rw [show (dx.isNon != true) = !dx.isNon from by cases dx.isNon <;> rfl]
  exact .bl _
/-! ### items -/
def fIx : F2 := fun x y P => ∃ l i d, (x = .lst l ∨ x = .tup l) ∧ y = .int i ∧ atI l i = some d ∧ P d
theorem mono_fIx : Mono2 fIx := fun _ _ _ _ m ⟨l, i, d, a, b, k, p⟩ => ⟨l, i, d, a, b, k, m _ p⟩
theorem datL_atI {K : PySem.W.Frag} {F : Hp} {vs : List V} {ds : List D} {i : Int} {d : D} (h : DatL K F vs ds) (e : atI ds i = some d) : ∃ v, atI vs i = some v ∧ Dat K F v d := by
  unfold atI at e ⊢
  rw [h.length]
  cases q : ixN ds.length i with
  | none => rw [q] at e; simp at e
  | some j =>
    rw [q] at e
    exact h.get e
theorem serves_ixL : Serves X c (fun x y H Q => rIxL X.K x y H Q ∨ rIxT X.K x y H Q) fIx := by
  intro F H x y dx dy P Q G hx hy h q
  obtain ⟨l, i, d, h, rfl, e, p⟩ := h
  cases hy
  rcases h with rfl | rfl
  · cases hx with
    | lst hs hl =>
      obtain ⟨v, h1, h2⟩ := datL_atI hl e
      exact .inl ⟨_, _, i, v, rfl, rfl, SqL.of (G.sub _ _ hs), h1, q _ _ F H p G.rfl h2⟩
  · cases hx with
    | tup hs hl =>
      obtain ⟨v, h1, h2⟩ := datL_atI hl e
      exact .inr ⟨_, _, i, v, rfl, rfl, sqT_mono G.sub hs, h1, q _ _ F H p G.rfl h2⟩
theorem pd_item {a b : Expr} {da db : DE} {pos} (ha : PD X c a da) (hb : PD X c b db) (hs : PlainIx b) : PD X c (.Subscript a b pos) (dOp fIx da db) := pd_ix (ix_list.or ix_tup) serves_ixL mono_fIx ha hb hs
/-! ### lists and tuples put together -/
def rCatS (K : PySem.W.Frag) : R2 := fun x y H Q => ∃ l b xs zs, x = .ref l ∧ y = .ref b ∧ SqL K H l xs ∧ SqL K H b zs ∧ xs.length + zs.length ≤ sizeLine ∧ ∀ p, H p = none → Q (.ref p) (upd H p (.lst (xs ++ zs)))
theorem op_catS : OpR X (binaryOp .Add) (rCatS X.K) := by
  intro pins s σ H x y v u Q I rx ry h
  obtain ⟨l, b, xs, zs, rfl, rfl, hH, hB, hz, q⟩ := h
  cases rx
  cases ry
  obtain ⟨its, r, pl, hl⟩ := I.list hH
  obtain ⟨its2, r2, pl2, hl2⟩ := I.list hB
  obtain ⟨⟨cls, dd, data, sl⟩, ho, hc, n, hd⟩ := id pl.isList
  obtain ⟨⟨cls2, dd2, data2, sl2⟩, ho2, hc2, n2, hd2⟩ := id pl2.isList
  simp only at hc hd hc2 hd2
  subst hc hd hc2 hd2
  have e2 : its.toArray ++ its2.toArray = (its ++ its2).toArray := by simp
  have hz2 : its.toArray.size + its2.toArray.size ≤ sizeLine := by
    rw [List.size_toArray, List.size_toArray, ← r.length, ← r2.length]
    exact hz
  refine concat_meets ⟨_, ho, rfl⟩ ⟨_, ho2, rfl⟩ noFill_list_add seq_list_add PySem.F.slot_list_add PySem.F.entry_list_add (PySem.F.args_list_add_2 _ _) (list_addW l b its.toArray its2.toArray n n2 dd dd2 sl sl2 hz2) ⟨ho, ho2, ?_⟩
  rw [e2]
  exact ⟨.ref _, _, I.lnew (t' := s.toks) (r.append r2) (by rw [List.length_append]; omega), rfl, q _ I.fresh⟩
def fCat : F2 := fun x y P => ∃ l m, x = .lst l ∧ y = .lst m ∧ l.length + m.length ≤ sizeLine ∧ P (.lst (l ++ m))
theorem serves_cat : Serves X c (rCatS X.K) fCat := by
  intro F H x y dx dy P Q G hx hy h q
  obtain ⟨l, m, rfl, rfl, z, p⟩ := h
  cases hx with
  | lst hs hl =>
    cases hy with
    | lst ks kl =>
      refine ⟨_, _, _, _, rfl, rfl, SqL.of (G.sub _ _ hs), SqL.of (G.sub _ _ ks), by rw [hl.length, kl.length]; exact z, fun t ht => ?_⟩
      exact q _ _ _ _ p (G.laid ht) (.lst upd_same ((hl.append kl).mono (G.laid (o := .lst _) ht).grow))
def fCatT : F2 := fun x y P => ∃ l m, x = .tup l ∧ y = .tup m ∧ l.length + m.length ≤ sizeLine ∧ P (.tup (l ++ m))
theorem serves_catT : Serves X c (rCatA X.K) fCatT := by
  intro F H x y dx dy P Q G hx hy h q
  obtain ⟨l, m, rfl, rfl, z, p⟩ := h
  cases hx with
  | @tup a vs ds hs hl =>
    cases hy with
    | @tup b us es ks kl =>
      refine ⟨_, _, _, _, rfl, rfl, sqT_mono G.sub hs, sqT_mono G.sub ks, by rw [hl.length, kl.length]; exact z, fun e => ?_, fun n e => ?_, fun _ _ t ht => ?_⟩
      · subst e
        have e2 := hl.nil_of
        subst e2
        exact q _ _ F H p G.rfl (.tup ks kl)
      · subst e
        have e2 := kl.nil_of
        subst e2
        rw [List.append_nil] at p
        exact q _ _ F H p G.rfl (.tup hs hl)
      · exact q _ _ _ _ p (G.laid ht) (.tup (.of upd_same) ((hl.append kl).mono (G.laid (o := .tup _) ht).grow))
/-! ### x in (texts) -/
/-! ### slices -/
abbrev DO := List Sl → (Option Int → Prop) → Prop
structure PDO (X : Cx) (c : Dx) (e : Option Expr) (den : DO) : Prop where
  po : PO X e (fun σ H Q => ∃ F ρ, At X.K c F H σ ρ ∧ den ρ fun b => ∀ F' H', Fr c.W F H F' H' → Q b H')
  mono : Mono den
@[simp] def dNoPart : DO := fun _ P => P none
@[simp] def dPart (de : DE) : DO := fun ρ P => de ρ fun d => ∃ i, d = .int i ∧ P (some i)
theorem impO {e : Option Expr} {t t' : TO} (h : PO X e t) (i : ∀ σ H Q, t' σ H Q → t σ H Q) : PO X e t' := ⟨fun pins s σ H Q I q => h.run pins s σ H Q I (i σ H Q q)⟩
theorem pdo_none : PDO X c none dNoPart := ⟨impO po_none fun σ H Q q => by
  obtain ⟨F, ρ, a, q⟩ := q
  exact q F H a.good.rfl, fun _ _ _ m p => m _ p⟩
theorem pdo_some {e : Expr} {de : DE} (h : PD X c e de) : PDO X c (some e) (dPart de) := ⟨impO (po_some h.pe) fun σ H Q q => by
  obtain ⟨F, ρ, a, q⟩ := q
  refine ⟨F, ρ, a, h.mono _ _ _ (fun d q v F1 H1 f1 d1 => ?_) q⟩
  obtain ⟨i, rfl, q⟩ := q
  cases d1
  exact ⟨i, rfl, q F1 H1 f1⟩, fun ρ P P' m => h.mono ρ _ _ fun d ⟨i, e, p⟩ => ⟨i, e, m _ p⟩⟩
def cutD (xs : List D) (lo hi : Option Int) : List D := (xs.drop (HT.sIx xs.length 0 lo)).take (HT.sIx xs.length xs.length hi - HT.sIx xs.length 0 lo)
theorem datL_cut {K : PySem.W.Frag} {F : Hp} {vs : List V} {ds : List D} (h : DatL K F vs ds) (lo hi : Option Int) : DatL K F (cutV vs lo hi) (cutD ds lo hi) := by
  unfold cutV cutD
  rw [h.length]
  exact (h.drop _).take _
@[simp] def dSl (te : DE) (tl th : DO) : DE := fun ρ P => te ρ fun x => tl ρ fun l => th ρ fun u => (∃ xs, x = .lst xs ∧ P (.lst (cutD xs l u))) ∨ ∃ xs, x = .tup xs ∧ P (.tup (cutD xs l u))
theorem cut_whole {xs : List D} {lo hi : Option Int} (h : HT.sIx xs.length 0 lo = 0 ∧ HT.sIx xs.length xs.length hi = xs.length) : cutD xs lo hi = xs := by
  unfold cutD
  rw [h.1, h.2]
  simp
theorem pd_slice {e : Expr} {lo hi : Option Expr} {de : DE} {dl dh : DO} {p2 pos} (he : PD X c e de) (hl : PDO X c lo dl) (hh : PDO X c hi dh) : PD X c (.Subscript e (.Slice lo hi none p2) pos) (dSl de dl dh) := by
  refine ⟨imp (pe_slice (sl_list.or sl_tupA) he.pe hl.po hh.po) fun σ H Q q => ?_, fun ρ P P' m => he.mono ρ _ _ fun x => hl.mono ρ _ _ fun l => hh.mono ρ _ _ fun u => fun h => h.elim (fun ⟨xs, e, p⟩ => .inl ⟨xs, e, m _ p⟩) fun ⟨xs, e, p⟩ => .inr ⟨xs, e, m _ p⟩⟩
  obtain ⟨F, ρ, a, q⟩ := q
  refine ⟨F, ρ, a, he.mono _ _ _ (fun x q v F1 H1 f1 d1 => ?_) q⟩
  refine ⟨F1, ρ, a.fr f1, hl.mono _ _ _ (fun l q F2 H2 f2 => ?_) q⟩
  refine ⟨F2, ρ, (a.fr f1).fr f2, hh.mono _ _ _ (fun u q F3 H3 f3 => ?_) q⟩
  have d3 := d1.mono (f2.trans f3).grow
  have G := f3.good
  rcases q with ⟨xs, rfl, p⟩ | ⟨xs, rfl, p⟩
  · cases d3 with
    | lst hs hl =>
      refine .inl ⟨_, _, rfl, SqL.of (G.sub _ _ hs), fun t ht => ?_⟩
      exact p _ _ _ (f1.trans (f2.trans (f3.trans (G.laid ht)))) (.lst upd_same ((datL_cut hl l u).mono (G.laid (o := .lst _) ht).grow))
  · cases d3 with
    | @tup b vs _ hs hl =>
      have hlen := hl.length
      refine .inr ⟨_, _, rfl, sqT_mono G.sub hs, fun w => ?_, fun _ t ht => ?_⟩
      · rw [hlen] at w
        rw [cut_whole w] at p
        exact p _ _ _ (f1.trans (f2.trans f3)) (.tup hs hl)
      · exact p _ _ _ (f1.trans (f2.trans (f3.trans (G.laid ht)))) (.tup (.of upd_same) ((datL_cut hl l u).mono (G.laid (o := .tup _) ht).grow))
end
end DL
set_option Elab.async false
set_option linter.all false
set_option maxRecDepth 100000
set_option maxHeartbeats 1000000
set_option autoImplicit false
namespace DL
open PySem PySem.Spec PyProof.Rows L2
section
variable {X : Cx} {c : Dx}
/-! ### targets -/
abbrev DG := D → List Sl → Option (List Sl)
def GOk (K : PySem.W.Frag) (c : Dx) (set : DG) (ns : List Nat) (g : TG) : Prop := ∀ F H x d σ ρ ρ' (Q : L2.St → Hp → Prop), Good c.W F H → Slots K c.W c.H0 F H σ ρ → Dat K F x d → set d ρ = some ρ' →
    (∀ σ', Slots K c.W c.H0 F H σ' ρ' → (∀ vs : List Nat, (∀ n ∈ ns, n ∈ vs) → wipe σ' vs = wipe σ vs) → Q σ' H) → g x σ H Q
structure PGd (X : Cx) (c : Dx) (tg : Expr) (set : DG) (ns : List Nat) (g : TG) : Prop where
  pg : PG X tg g
  ok : GOk X.K c set ns g
theorem wipe_set {σ : L2.St} {i : Nat} {o : Option V} : ∀ {vs : List Nat}, i ∈ vs → wipe (σ.set i o) vs = wipe σ vs
  | v :: vs, h => by
    unfold wipe
    by_cases e : i ∈ vs
    · rw [wipe_set e]
    · have ev : i = v := by
        rcases List.mem_cons.mp h with z | z
        · exact z
        · exact absurd z e
      subst ev
      rw [wipe_out e, List.set_set]
  where wipe_out {σ : L2.St} {i : Nat} {o : Option V} : ∀ {vs : List Nat}, i ∉ vs → wipe (σ.set i o) vs = (wipe σ vs).set i o
  | [], _ => rfl
  | v :: vs, h => by
    have h1 : i ≠ v := fun e => h (by simp [e])
    have h2 : i ∉ vs := fun e => h (by simp [e])
    unfold wipe
    rw [wipe_out h2, List.set_comm _ _ h1]
@[simp] def setN (i : Nat) : DG := fun d ρ => some (ρ.set i (.fz d))
theorem pgd_name {i : Nat} {x : Str} {pos : Pos} (hN : X.N.Nodup) (hi : X.N[i]? = some x) (hx : Loc X.env.scope x) (hf : X.fn x = true ∨ X.env.scope.names.lookup x = some .local := by first | exact .inl rfl | exact .inr rfl | assumption) : PGd X c (.Name x pos) (setN i) [i] (gName i) :=
  ⟨pg_name hN hi hx hf, fun F H x d σ ρ ρ' Q G s hd e k => by
    obtain rfl := Option.some.inj e
    exact k _ (s.set i hd) fun vs h => wipe_set (h i (by simp))⟩
abbrev DGs := List D → List Sl → Option (List Sl)
structure PGds (X : Cx) (c : Dx) (tg : List Expr) (set : DGs) (ns : List Nat) (g : TGs) : Prop where
  pg : PGs X tg g
  ok : ∀ F H x d σ ρ ρ' (Q : L2.St → Hp → Prop), Good c.W F H → Slots X.K c.W c.H0 F H σ ρ → DatL X.K F x d → set d ρ = some ρ' →
    (∀ σ', Slots X.K c.W c.H0 F H σ' ρ' → (∀ vs : List Nat, (∀ n ∈ ns, n ∈ vs) → wipe σ' vs = wipe σ vs) → Q σ' H) → g x σ H Q
@[simp] def setNil : DGs := fun ds ρ => match ds with
  | [] => some ρ
  | _ => none
@[simp] def setCons (s : DG) (t : DGs) : DGs := fun ds ρ => match ds with
  | [] => none
  | d :: r => (s d ρ).bind fun ρ1 => t r ρ1
theorem pgds_nil : PGds X c [] setNil [] gNil := ⟨pgs_nil, fun F H x d σ ρ ρ' Q G s hd e k => by
  cases hd with
  | nil =>
    obtain rfl := Option.some.inj e
    exact ⟨rfl, k _ s fun _ _ => rfl⟩
  | cons _ _ => cases e⟩
theorem pgds_cons {e : Expr} {es : List Expr} {s : DG} {t : DGs} {ns ms : List Nat} {g : TG} {u : TGs} (h : PGd X c e s ns g) (k : PGds X c es t ms u) (hs : (assignEach (e :: es) X.env).map (·.2) = assign e X.env :: (assignEach es X.env).map (·.2) := by rfl) : PGds X c (e :: es) (setCons s t) (ns ++ ms) (gCons g u) := by
  refine ⟨pgs_cons h.pg k.pg hs, fun F H x d σ ρ ρ' Q G sl hd e q => ?_⟩
  cases hd with
  | nil => cases e
  | @cons v vs d ds h1 h2 =>
    unfold setCons at e
    simp only at e
    cases q1 : s d ρ with
    | none => rw [q1] at e; cases e
    | some ρ1 =>
      rw [q1] at e
      simp only [Option.bind_some] at e
      refine ⟨v, vs, rfl, h.ok F H v d σ ρ ρ1 _ G sl h1 q1 fun σ1 s1 w1 => ?_⟩
      refine k.ok F H vs ds σ1 ρ1 ρ' _ G s1 h2 e fun σ2 s2 w2 => q σ2 s2 fun ws hw => ?_
      rw [w2 ws fun n hn => hw n (List.mem_append_right _ hn), w1 ws fun n hn => hw n (List.mem_append_left _ hn)]
@[simp] def setT (t : DGs) : DG := fun d ρ => match d with
  | .tup ds => t ds ρ
  | _ => none
theorem setNil_len {ds : List D} {ρ ρ' : List Sl} (h : setNil ds ρ = some ρ') : ds.length = 0 := by
  cases ds with
  | nil => rfl
  | cons _ _ => cases h
theorem setCons_len {s : DG} {t : DGs} {n : Nat} (h : ∀ ds ρ ρ', t ds ρ = some ρ' → ds.length = n) : ∀ ds ρ ρ', setCons s t ds ρ = some ρ' → ds.length = n + 1 := by
  intro ds ρ ρ' e
  cases ds with
  | nil => cases e
  | cons d r =>
    unfold setCons at e
    simp only at e
    cases q1 : s d ρ with
    | none => rw [q1] at e; cases e
    | some ρ1 =>
      rw [q1] at e
      rw [List.length_cons, h _ _ _ e]
theorem set0 : ∀ ds ρ ρ', setNil ds ρ = some ρ' → ds.length = 0 := fun _ _ _ h => setNil_len h
/-! ### what is walked -/
def WalksD (X : Cx) (c : Dx) (F : Hp) (J : It) (xs : List D) : Prop := ∀ F1 H1, Same F F1 → Good c.W F1 H1 → ∀ i,
  (∀ d, xs[i]? = some d → J.go i H1 ∧ ∀ x H', J.yld i H1 x H' → ∃ F', Fr c.W F1 H1 F' H' ∧ Dat X.K F' x d) ∧ (xs.length ≤ i → J.stop i H1)
def upI (X : Cx) (c : Dx) (di : DA) : TI := fun σ H R => ∃ F ρ, At X.K c F H σ ρ ∧ di ρ fun xs => ∀ J F' H', Fr c.W F H F' H' → WalksD X c F' J xs → R J H'
structure PId (X : Cx) (c : Dx) (tg iter : Expr) (di : DA) : Prop where
  pi : PI X tg iter (upI X c di)
  mono : Mono di
theorem impI {tg iter : Expr} {t t' : TI} (h : PI X tg iter t) (i : ∀ σ H Q, t' σ H Q → t σ H Q) : PI X tg iter t' := ⟨fun pins s σ H Q I q => h.run pins s σ H Q I (i σ H Q q)⟩
@[simp] def dItL (de : DE) : DA := fun ρ P => de ρ fun d => ∃ xs, d = .lst xs ∧ P xs
@[simp] def dItT (de : DE) : DA := fun ρ P => de ρ fun d => ∃ xs, d = .tup xs ∧ P xs
theorem walks_list {K : PySem.W.Frag} {F : Hp} {a : Addr} {vs : List V} {xs : List D} (hK : X.K = K) (hs : SqL K F a vs) (hl : DatL K F vs xs) : WalksD X c F (Itl K a) xs := by
  subst hK
  intro F1 H1 e G i
  have hs1 := G.sub.seq (e.seq hs)
  refine ⟨fun d hd => ?_, fun h => ⟨vs, hs1, by rw [hl.length]; exact h⟩⟩
  obtain ⟨v, h1, h2⟩ := hl.get hd
  refine ⟨⟨vs, v, hs1, h1⟩, fun x H' y => ?_⟩
  obtain ⟨eq, y⟩ := y
  subst eq
  have e1 := y vs hs1
  rw [h1] at e1
  obtain rfl := Option.some.inj e1
  exact ⟨F1, G.rfl, h2.mono e⟩
theorem walks_tup {K : PySem.W.Frag} {F : Hp} {a : Addr} {vs : List V} {xs : List D} (hK : X.K = K) (hs : SqT K F a vs) (hl : DatL K F vs xs) : WalksD X c F (Itt K a) xs := by
  subst hK
  intro F1 H1 e G i
  have hs1 := sqT_mono G.sub (sqT_mono e hs)
  refine ⟨fun d hd => ?_, fun h => ⟨vs, hs1, by rw [hl.length]; exact h⟩⟩
  obtain ⟨v, h1, h2⟩ := hl.get hd
  refine ⟨⟨vs, v, hs1, h1⟩, fun x H' y => ?_⟩
  obtain ⟨eq, y⟩ := y
  subst eq
  have e1 := y vs hs1
  rw [h1] at e1
  obtain rfl := Option.some.inj e1
  exact ⟨F1, G.rfl, h2.mono e⟩
/-- range(n) -/
@[simp] def dItR (de : DE) : DA := fun ρ P => de ρ fun d => ∃ n : Int, d = .int n ∧ n < 2 ^ 62 ∧ -(2 ^ 62) ≤ n ∧ P ((List.range n.toNat).map fun (i : Nat) => D.int (i : Int))
theorem pid_range {tg a : Expr} {de : DE} {p pos : Pos} (hg : Gl X "range") (hm : X.mg "range" = none) (h : PD X c a de) (hs : starEach [a] X.env = [(false, eval a X.env)] := by rfl) : PId X c tg (.Call (.Name "range" p) [a] [] pos) (dItR de) := by
  refine ⟨impI (pi_range1 hg hm (pa_cons h.pe pa_nil hs) hs) fun σ H Q q => ?_, fun ρ P P' m => h.mono ρ _ _ fun d ⟨xs, e, l, l2, p⟩ => ⟨xs, e, l, l2, m _ p⟩⟩
  obtain ⟨F, ρ, a, q⟩ := q
  refine ⟨F, ρ, a, h.mono _ _ _ (fun d q v F1 H1 f1 d1 => ?_) q⟩
  obtain ⟨n, rfl, l, l2, q⟩ := q
  cases d1
  refine ⟨n, rfl, l2, l, q _ F1 H1 f1 fun F2 H2 e G i => ⟨fun d hd => ?_, fun hi => ?_⟩⟩
  · have hi : i < n.toNat := by
      have := (List.getElem?_eq_some_iff.mp hd).1
      simpa using this
    rw [List.getElem?_map, List.getElem?_range hi] at hd
    simp only [Option.map_some, Option.some.injEq] at hd
    subst hd
    refine ⟨hi, fun x H' y => ?_⟩
    obtain ⟨eq, y⟩ := y
    subst eq y
    refine ⟨F2, G.rfl, ?_⟩
    rw [Int.zero_add]
    exact .int _
  · show n.toNat ≤ i
    simpa using hi
/-! ### list comprehensions -/
@[simp] def dWipe (ρ : List Sl) : List Nat → List Sl
  | [] => ρ
  | v :: vs => (dWipe ρ vs).set v .un
theorem Slots.wipe {F H : Hp} {σ : L2.St} {ρ : List Sl} (s : Slots X.K c.W c.H0 F H σ ρ) : ∀ vs : List Nat, Slots X.K c.W c.H0 F H (L2.wipe σ vs) (dWipe ρ vs)
  | [] => s
  | v :: vs => (Slots.wipe s vs).forget v none
def dComp (set : DG) (tt : DT) (de : DE) (ρ : List Sl) : List D → List D → (List D → Prop) → Prop
  | [], acc, P => P acc
  | x :: r, acc, P => ∃ ρ1, set x ρ = some ρ1 ∧ tt ρ1 fun b => if b = true then de ρ1 fun y => dComp set tt de ρ r (acc ++ [y]) P else dComp set tt de ρ r acc P
theorem dComp_mono {set : DG} {tt : DT} {de : DE} (mt : Mono tt) (me : Mono de) {ρ : List Sl} : ∀ (xs acc : List D) (P P' : List D → Prop), (∀ d, P d → P' d) → dComp set tt de ρ xs acc P → dComp set tt de ρ xs acc P'
  | [], acc, P, P', m, h => m _ h
  | x :: r, acc, P, P', m, ⟨ρ1, e, h⟩ => ⟨ρ1, e, mt _ _ _ (fun b q => by
      cases b with
      | true => exact me _ _ _ (fun y q => dComp_mono mt me r _ P P' m q) q
      | false => exact dComp_mono mt me r _ P P' m q) h⟩
@[simp] def dLc (di : DA) (set : DG) (tt : DT) (de : DE) (vs : List Nat) : DE := fun ρ P => di ρ fun xs => xs.length < sizeLine ∧ dComp set tt de (dWipe ρ vs) xs [] fun ys => P (.lst ys)
abbrev dYes : DT := fun _ P => P true
structure PTd (X : Cx) (c : Dx) (ifs : List Expr) (t : DT) : Prop where
  pt : PTs X ifs (upT X c t)
  mono : Mono t
theorem ptd_nil : PTd X c [] dYes := ⟨⟨fun pins s σ H Q I h => by
  obtain ⟨F, ρ, a, q⟩ := h
  exact pts_nil.run pins s σ H Q I (q F H a.good.rfl)⟩, fun _ _ _ m p => m _ p⟩
theorem same_upd {F : Hp} {p : Addr} {o : HO} (h : F p = none) : Same F (upd F p o) := fun a u e => by
  rw [upd_ne (ne_of_none e h)]
  exact e
theorem wipe_wipe {σ : L2.St} {vs : List Nat} : L2.wipe (L2.wipe σ vs) vs = L2.wipe σ vs := by
  have key : ∀ (ws : List Nat), (∀ v ∈ ws, v ∈ vs) → L2.wipe (L2.wipe σ vs) ws = L2.wipe σ vs := by
    intro ws
    induction ws with
    | nil => intro _; rfl
    | cons v r ih =>
      intro h
      show (L2.wipe (L2.wipe σ vs) r).set v none = L2.wipe σ vs
      rw [ih fun x hx => h x (List.mem_cons_of_mem _ hx)]
      have hv := h v (List.mem_cons_self ..)
      have : ∀ (us : List Nat), v ∈ us → (L2.wipe σ us).set v none = L2.wipe σ us := by
        intro us
        induction us with
        | nil => intro hm; cases hm
        | cons u t iht =>
          intro hm
          show ((L2.wipe σ t).set u none).set v none = (L2.wipe σ t).set u none
          by_cases e : v = u
          · subst e
            rw [List.set_set]
          · have hm' : v ∈ t := (List.mem_cons.mp hm).resolve_left e
            rw [List.set_comm _ _ (Ne.symm e), iht hm']
      exact this vs hv
  exact key vs fun v h => h
section
variable {W : Option Addr} {F1 H1 F2 H2 F5 H5 : Hp} {Dl : Addr} {o o' : HO}
theorem upd_own (g : Fr W F1 H1 F5 H5) (hD : H1 Dl = none) (n : F5 Dl = none) (w : W ≠ some Dl) : Fr W F1 H1 F5 (upd H5 Dl o') where
  sub := fun a u h => by
    rw [upd_ne (ne_of_none h n)]
    exact g.sub a u h
  grow := g.grow
  keep := fun a u h k => by
    rw [upd_ne (ne_of_none h hD)]
    exact g.keep a u h k
  new := g.new
  well := fun a h => by
    have ne : a ≠ Dl := fun e => w (by rw [h, e])
    obtain ⟨n, i, j, k, e⟩ := g.well a h
    exact ⟨n, i, j, k, by rw [upd_ne ne]; exact e⟩
theorem freeze_new (f : Fr W F1 H1 F2 H2) (hD : H1 Dl = none) (n : F2 Dl = none) (h : H2 Dl = some o) (w : W ≠ some Dl) : Fr W F1 H1 (upd F2 Dl o) H2 where
  sub := fun a u e => by
    by_cases q : a = Dl
    · subst q
      rw [upd_same] at e
      rw [h, e]
    · rw [upd_ne q] at e
      exact f.sub a u e
  grow := fun a u e => by
    have e2 := f.grow a u e
    rw [upd_ne (ne_of_none e2 n)]
    exact e2
  keep := f.keep
  new := fun a u e => by
    by_cases q : a = Dl
    · subst q
      exact .inr hD
    · rw [upd_ne q] at e
      exact f.new a u e
  well := fun a e => by
    have ne : a ≠ Dl := fun q => w (by rw [e, q])
    obtain ⟨n, r⟩ := f.well a e
    exact ⟨by rw [upd_ne ne]; exact n, r⟩
theorem own_free (f : Fr W F2 H2 F5 H5) (n : F2 Dl = none) (h : H2 Dl = some o) : F5 Dl = none := by
  cases z : F5 Dl with
  | none => rfl
  | some u =>
    rcases f.new Dl u z with e | e
    · rw [n] at e; cases e
    · rw [h] at e; cases e
end
theorem lc_up {di : DA} {set : DG} {g : TG} {tt : DT} {de : DE} {ns : List Nat} (own : List Nat) (hi : Mono di) (hg : GOk X.K c set ns g) (hns : ∀ n ∈ ns, n ∈ own) (mt : Mono tt) (me : Mono de) :
    ∀ σ H Q, up X c (dLc di set tt de own) σ H Q → tLc (upI X c di) g (upT X c tt) (up X c de) own σ H Q := by
  intro σ H Q q
  obtain ⟨F, ρ, a, q⟩ := q
  refine ⟨F, ρ, a, hi _ _ _ (fun xs q J F1 H1 f1 wk Dl hD => ?_) q⟩
  obtain ⟨hz, q⟩ := q
  have a1 := a.fr f1
  have hDW : c.W ≠ some Dl := fun e => by
    obtain ⟨_, i, j, k, e2⟩ := f1.well _ e
    rw [hD] at e2; cases e2
  -- the invariant
  refine ⟨fun i m H2 => m = xs.length - i ∧ i ≤ xs.length ∧ ∃ F2 acc dacc, Fr c.W F1 H1 F2 H2 ∧ F2 Dl = none ∧ H2 Dl = some (.lst acc) ∧ DatL X.K F2 acc dacc ∧ acc.length ≤ i ∧
    dComp set tt de (dWipe ρ own) (xs.drop i) dacc (fun ys => ∀ v F' H', Fr c.W F H F' H' → Dat X.K F' v (.lst ys) → Q v H'), ⟨xs.length, by omega, by omega, F1, [], [], f1.good.hid hD, f1.good.free hD, upd_same, .nil, Nat.le_refl _, by simpa using q⟩, ?_⟩
  · rintro i m H2 ⟨rfl, hi, F2, acc, dacc, f12, fD2, hacc, dl, hlen, q2⟩
    have W2 := wk F2 H2 f12.grow f12.good i
    by_cases hlt : i < xs.length
    · have hx : xs[i]? = some xs[i] := List.getElem?_eq_getElem hlt
      rw [List.drop_eq_getElem_cons hlt] at q2
      obtain ⟨ρ1, eset, q2⟩ := q2
      obtain ⟨hgo, hy⟩ := W2.1 _ hx
      refine .inr ⟨hgo, fun H' => ∃ F3 acc dacc, Fr c.W F1 H1 F3 H' ∧ F3 Dl = none ∧ H' Dl = some (.lst acc) ∧ DatL X.K F3 acc dacc ∧ acc.length ≤ i + 1 ∧
        dComp set tt de (dWipe ρ own) (xs.drop (i + 1)) dacc (fun ys => ∀ v F' H', Fr c.W F H F' H' → Dat X.K F' v (.lst ys) → Q v H'), fun H' hN => ⟨xs.length - (i + 1), by omega, rfl, by omega, hN⟩, fun x H3 y => ?_⟩
      obtain ⟨F3, f3, dx⟩ := hy x H3 y
      have f123 := f12.trans f3
      have hD3 : H3 Dl = some (.lst acc) := f3.keep _ _ hacc hDW
      refine hg F3 H3 x xs[i] _ _ ρ1 _ f3.good ((a1.fr f123).sl.wipe own) dx eset fun σ' s' w' => ⟨?_, ?_⟩
      · have := w' own hns
        rw [this, wipe_wipe]
      · refine ⟨F3, ρ1, ⟨(a1.fr f123).en, s'⟩, mt _ _ _ (fun b q F4 H4 f4 => ?_) q2⟩
        cases b with
        | true =>
          refine ⟨F4, ρ1, ⟨((a1.fr f123).en).trans f4, s'.fr f4⟩, me _ _ _ (fun y q v F5 H5 f5 dy => ?_) q⟩
          have hD5 : H5 Dl = some (.lst acc) := f5.keep _ _ (f4.keep _ _ hD3 hDW) hDW
          have fD5 : F5 Dl = none := own_free (f3.trans (f4.trans f5)) fD2 hacc
          exact ⟨acc, hD5, by omega, F5, acc ++ [v], dacc ++ [y], upd_own (f12.trans (f3.trans (f4.trans f5))) hD fD5 hDW, fD5, upd_same, ((dl.mono (f3.trans (f4.trans f5)).grow).snoc dy), by simp; omega, q⟩
        | false =>
          exact ⟨F4, acc, dacc, f12.trans (f3.trans f4), own_free (f3.trans f4) fD2 hacc, f4.keep _ _ hD3 hDW, dl.mono (f3.trans f4).grow, by omega, q⟩
    · have e : i = xs.length := by omega
      subst e
      refine .inl ⟨W2.2 (Nat.le_refl _), ?_⟩
      rw [List.drop_length] at q2
      have f := freeze_new f12 hD fD2 hacc hDW
      exact q2 (.ref Dl) (upd F2 Dl (.lst acc)) H2 (f1.trans f) (.lst upd_same (dl.mono (same_upd fD2)))
end
end DL
set_option Elab.async false
set_option linter.all false
set_option maxRecDepth 100000
set_option maxHeartbeats 1000000
set_option autoImplicit false
namespace DL
open PySem PySem.Spec PyProof.Rows L2
section
variable {X : Cx} {c : Dx}
theorem pd_lc {elt tg iter : Expr} {ifs : List Expr} {scope : Scope} {own : List (Str × Nat)} {pos : Pos} {di : DA} {set : DG} {ns : List Nat} {g : TG} {tt : DT} {de : DE} (hc : X.calm = true) (hN : X.N.Nodup) (hi : PId X c tg iter di) (ok : BlkOk X.N X.env.scope scope own)
    (hg : ∀ (s : Shared) (H : Hp) (C : Addr) (cl : List (Str × Addr)) (fp : List Addr), PGd (X.blk s H scope (compEnvC scope cl C X.env) fp) c tg set ns g) (hns : ∀ n ∈ ns, n ∈ own.map (·.2))
    (ht : ∀ (s : Shared) (H : Hp) (C : Addr) (cl : List (Str × Addr)) (fp : List Addr), PTd (X.blk s H scope (compEnvC scope cl C X.env) fp) c ifs tt)
    (he : ∀ (s : Shared) (H : Hp) (C : Addr) (cl : List (Str × Addr)) (fp : List Addr), PD (X.blk s H scope (compEnvC scope cl C X.env) fp) c elt de) (hs : ∀ x, foldedSetIterable iter X.env x = pure x := by intro _; rfl) :
    PD X c (.ListComp elt [⟨tg, iter, ifs, 0⟩] scope pos) (dLc di set tt de (own.map (·.2))) := by
  have mt : Mono tt := (ht X.s_0 X.H_0 0 [] []).mono
  have me : Mono de := (he X.s_0 X.H_0 0 [] []).mono
  refine ⟨imp (pe_lc hc hN hi.pi ok (fun s H C cl fp => (hg s H C cl fp).pg) (fun s H C cl fp => (ht s H C cl fp).pt) (fun s H C cl fp => (he s H C cl fp).pe) hs)
    (lc_up _ hi.mono (hg X.s_0 X.H_0 0 [] []).ok hns mt me), fun ρ P P' m => hi.mono ρ _ _ fun xs q => ⟨q.1, dComp_mono mt me _ _ _ _ (fun ys p => m _ p) q.2⟩⟩
/-! ### statements -/
structure DEnds where
  nx : List Sl → Prop
  rt : D → Prop
  bk : List Sl → Prop := fun _ => False
  ct : List Sl → Prop := fun _ => False
  ro : OD → Prop := fun _ => False
structure Links (X : Cx) (c : Dx) (F : Hp) (De : DEnds) (E : Ends) : Prop where
  nx : ∀ ρ' σ' F' H', De.nx ρ' → Same F F' → At X.K c F' H' σ' ρ' → E.nx σ' H'
  rt : ∀ d v F' H', De.rt d → Same F F' → Fr c.W c.F0 c.H0 F' H' → Dat X.K F' v d → E.rt v H'
  bk : ∀ ρ' σ' F' H', De.bk ρ' → Same F F' → At X.K c F' H' σ' ρ' → E.bk σ' H'
  ct : ∀ ρ' σ' F' H', De.ct ρ' → Same F F' → At X.K c F' H' σ' ρ' → E.ct σ' H'
  ro : ∀ o x as F' H', De.ro o → Same F F' → Fr c.W c.F0 c.H0 F' H' → OwnAt X.K F' H' o x as → (∀ q ∈ as, F' q = none ∧ c.H0 q = none) → E.rt (.ref x) H'
abbrev DS := DEnds → List Sl → Prop
def upS (X : Cx) (c : Dx) (den : DS) : TS := fun E σ H => ∃ F ρ De, At X.K c F H σ ρ ∧ Links X c F De E ∧ den De ρ
structure PSd (X : Cx) (c : Dx) (st : Stmt) (den : DS) : Prop where
  ps : PS X st (upS X c den)
structure PSsd (X : Cx) (c : Dx) (st : List Stmt) (den : DS) : Prop where
  ps : PSs X st (upS X c den)
theorem impS {st : Stmt} {t t' : TS} (h : PS X st t) (i : ∀ D σ H, t' D σ H → t D σ H) : PS X st t' := ⟨fun pins s σ H D I q => h.run pins s σ H D I (i D σ H q)⟩
theorem impSs {st : List Stmt} {t t' : TS} (h : PSs X st t) (i : ∀ D σ H, t' D σ H → t D σ H) : PSs X st t' := ⟨fun pins s σ H D I q => h.run pins s σ H D I (i D σ H q)⟩
theorem Links.grow {F F' : Hp} {De : DEnds} {E : Ends} (l : Links X c F De E) (e : Same F F') : Links X c F' De E :=
  ⟨fun ρ' σ' F1 H1 h s a => l.nx ρ' σ' F1 H1 h (e.trans s) a, fun d v F1 H1 h s a => l.rt d v F1 H1 h (e.trans s) a, fun ρ' σ' F1 H1 h s a => l.bk ρ' σ' F1 H1 h (e.trans s) a, fun ρ' σ' F1 H1 h s a => l.ct ρ' σ' F1 H1 h (e.trans s) a, fun o x as F1 H1 h s f k n => l.ro o x as F1 H1 h (e.trans s) f k n⟩
@[simp] def dSkip : DS := fun De ρ => De.nx ρ
@[simp] def dSeq (a b : DS) : DS := fun De ρ => a { De with nx := fun ρ' => b De ρ' } ρ
theorem pssd_nil : PSsd X c [] dSkip := ⟨impSs pss_nil fun D σ H q => by
  obtain ⟨F, ρ, De, a, l, q⟩ := q
  exact l.nx ρ σ F H q (Same.refl F) a⟩
theorem pssd_cons {st : Stmt} {rest : List Stmt} {a b : DS} (h1 : PSd X c st a) (h2 : PSsd X c rest b) : PSsd X c (st :: rest) (dSeq a b) := ⟨impSs (pss_cons h1.ps h2.ps) fun D σ H q => by
  obtain ⟨F, ρ, De, a, l, q⟩ := q
  exact ⟨F, ρ, { De with nx := fun ρ' => b De ρ' }, a, ⟨fun ρ' σ' F' H' h s a' => ⟨F', ρ', De, a', l.grow s, h⟩, l.rt, l.bk, l.ct, l.ro⟩, q⟩⟩
theorem pssd_one {st : Stmt} {a : DS} (h1 : PSd X c st a) : PSsd X c [st] a := ⟨pss_one h1.ps⟩
@[simp] def dNever : DS := fun _ _ => False
theorem psd_never {st : Stmt} : PSd X c st dNever := ⟨impS ps_never fun D σ H q => by
  obtain ⟨F, ρ, De, a, l, q⟩ := q
  exact q⟩
@[simp] def dRet (de : DE) : DS := fun De ρ => de ρ De.rt
theorem psd_ret {e : Expr} {de : DE} {pos} (h : PD X c e de) : PSd X c (.Return (some e) pos) (dRet de) := ⟨impS (ps_ret h.pe) fun D σ H q => by
  obtain ⟨F, ρ, De, a, l, q⟩ := q
  exact ⟨F, ρ, a, h.mono _ _ _ (fun d q v F' H' f dd => l.rt d v F' H' q f.grow (a.en.trans f) dd) q⟩⟩
@[simp] def dRetN : DS := fun De _ => De.rt .non
@[simp] def dIfS (t : DT) (a b : DS) : DS := fun De ρ => t ρ fun k => if k = true then a De ρ else b De ρ
theorem psd_if {e : Expr} {xs ys : List Stmt} {t : DT} {a b : DS} {pos} (hc : PDT X c e t) (ha : PSsd X c xs a) (hb : PSsd X c ys b) : PSd X c (.If e xs ys pos) (dIfS t a b) := ⟨impS (ps_if hc.pt ha.ps hb.ps) fun D σ H q => by
  obtain ⟨F, ρ, De, a, l, q⟩ := q
  refine ⟨F, ρ, a, hc.mono _ _ _ (fun k q F1 H1 f1 => ?_) q⟩
  cases k with
  | true => exact ⟨F1, ρ, De, a.fr f1, l.grow f1.grow, q⟩
  | false => exact ⟨F1, ρ, De, a.fr f1, l.grow f1.grow, q⟩⟩
@[simp] def dDrop (de : DE) : DS := fun De ρ => de ρ fun _ => De.nx ρ
theorem psd_expr {e : Expr} {de : DE} {pos : Pos} (h : PD X c e de) (hs : swapsWith e none pos.line X.env = pure false := by rfl) : PSd X c (.Expr e pos) (dDrop de) := ⟨impS (ps_expr h.pe hs) fun D σ H q => by
  obtain ⟨F, ρ, De, a, l, q⟩ := q
  exact ⟨F, ρ, a, h.mono _ _ _ (fun d q v F' H' f dd => l.nx ρ σ F' H' q f.grow (a.fr f)) q⟩⟩
/-! assignments -/
@[simp] def dAsg (de : DE) (set : DG) : DS := fun De ρ => de ρ fun d => ∃ ρ', set d ρ = some ρ' ∧ De.nx ρ'
theorem asg_up {de : DE} {set : DG} {ns : List Nat} {g : TG} (m : Mono de) (hg : GOk X.K c set ns g) : ∀ D σ H, upS X c (dAsg de set) D σ H → tAsg (up X c de) g D σ H := by
  intro D σ H q
  obtain ⟨F, ρ, De, a, l, q⟩ := q
  refine ⟨F, ρ, a, m _ _ _ (fun d q v F1 H1 f dd => ?_) q⟩
  obtain ⟨ρ', e, q⟩ := q
  exact hg F1 H1 v d σ ρ ρ' _ f.good (a.fr f).sl dd e fun σ' s' _ => l.nx ρ' σ' F1 H1 q f.grow ⟨a.en.trans f, s'⟩
theorem psd_asg {tg e : Expr} {de : DE} {set : DG} {ns : List Nat} {g : TG} {pos : Pos} (he : PD X c e de) (hg : PGd X c tg set ns g) (hs : swapsWithSole [tg] e pos.line X.env = pure false := by rfl) (hw : swappedStores [tg] e X.env = pure none := by rfl) (h1 : (assignEach [tg] X.env).map (·.2) = [assign tg X.env] := by rfl) :
    PSd X c (.Assign [tg] e pos) (dAsg de set) := ⟨impS (ps_asg he.pe hg.pg hs hw h1) (asg_up he.mono hg.ok)⟩
@[simp] def dSet (i : Nat) (de : DE) : DS := fun De ρ => de ρ fun d => De.nx (ρ.set i (.fz d))
theorem psd_set {i : Nat} {x : Str} {e : Expr} {de : DE} {pos pos' : Pos} (hN : X.N.Nodup) (hi : X.N[i]? = some x) (hx : Loc X.env.scope x) (he : PD X c e de) (hs : swapsWith e (some (.Name x pos')) pos.line X.env = pure false := by rfl)
    (hf : X.fn x = true ∨ X.env.scope.names.lookup x = some .local := by first | exact .inl rfl | exact .inr rfl | assumption) : PSd X c (.Assign [.Name x pos'] e pos) (dSet i de) := ⟨impS (ps_set hN hi hx he.pe hs hf) fun D σ H q => by
  obtain ⟨F, ρ, De, a, l, q⟩ := q
  refine ⟨F, ρ, a, he.mono _ _ _ (fun d q v F1 H1 f dd => ?_) q⟩
  exact l.nx _ _ F1 H1 q f.grow ⟨a.en.trans f, (a.fr f).sl.set i dd⟩⟩
/-- x, y = a, b -/
@[simp] def dPar (i j : Nat) (da : DA) : DS := fun De ρ => da ρ fun ds => ∃ d e, ds = [d, e] ∧ De.nx ((ρ.set i (.fz d)).set j (.fz e))
theorem psd_par {i j : Nat} {x y : Str} {a b : Expr} {da : DA} {px py pt pos : Pos} {kt k2 pt2} (hc : X.calm = true) (hN : X.N.Nodup) (hi : X.N[i]? = some x) (hj : X.N[j]? = some y) (hij : i ≠ j)
    (hx : X.env.scope.names.lookup x = some .local) (hy : X.env.scope.names.lookup y = some .local) (ha : PDA X c [a, b] da)
    (hw : swappedStores [.Tuple [.Name x px, .Name y py] kt pt] (.Tuple [a, b] k2 pt2) X.env = pure (some [x, y]))
    (hs : swapsWithSole [.Tuple [.Name x px, .Name y py] kt pt] (.Tuple [a, b] k2 pt2) pos.line X.env = pure false := by rfl) :
    PSd X c (.Assign [.Tuple [.Name x px, .Name y py] kt pt] (.Tuple [a, b] k2 pt2) pos) (dPar i j da) := ⟨impS (ps_par hc hN hi hj hij hx hy ha.pa hw hs) fun D σ H q => by
  obtain ⟨F, ρ, De, a, l, q⟩ := q
  refine ⟨F, ρ, a, ha.mono _ _ _ (fun ds q vs F1 H1 f dd => ?_) q⟩
  obtain ⟨d, e, rfl, q⟩ := q
  obtain ⟨v, u, rfl, h1, h2⟩ := datL2 dd
  exact ⟨v, u, rfl, l.nx _ _ F1 H1 q f.grow ⟨a.en.trans f, ((a.fr f).sl.set i h1).set j h2⟩⟩⟩
/-! for -/
def dLoop (set : DG) (body : DS) (De : DEnds) : List D → List Sl → Prop
  | [], ρ => De.nx ρ
  | d :: r, ρ => ∃ ρ1, set d ρ = some ρ1 ∧ body { De with nx := fun ρ' => dLoop set body De r ρ', ct := fun ρ' => dLoop set body De r ρ', bk := De.nx } ρ1
@[simp] def dFor (di : DA) (set : DG) (body : DS) : DS := fun De ρ => di ρ fun xs => dLoop set body De xs ρ
theorem psd_for {tg iter : Expr} {body : List Stmt} {di : DA} {set : DG} {ns : List Nat} {g : TG} {db : DS} {pos : Pos} (hp : PassesOwn (model X.prog X.w) X.A X.env X.xe) (hc : X.calm = true) (hi : PId X c tg iter di) (hg : PGd X c tg set ns g) (hb : PSsd X c body db)
    (hs : ∀ x, foldedSetIterable iter X.env x = pure x := by intro _; rfl) : PSd X c (.For tg iter body [] pos) (dFor di set db) := ⟨impS (ps_for hp hc hi.pi hg.pg hb.ps hs) fun D σ H q => by
  obtain ⟨F, ρ, De, a, l, q⟩ := q
  refine ⟨F, ρ, a, hi.mono _ _ _ (fun xs q J F1 H1 f1 wk => ?_) q⟩
  refine ⟨fun i m σ2 H2 => m = xs.length - i ∧ i ≤ xs.length ∧ ∃ F2 ρ2, Same F1 F2 ∧ At X.K c F2 H2 σ2 ρ2 ∧ dLoop set db De (xs.drop i) ρ2, ⟨xs.length, by omega, by omega, F1, ρ, Same.refl F1, a.fr f1, by simpa using q⟩, ?_⟩
  rintro i m σ2 H2 ⟨rfl, hi', F2, ρ2, s2, a2, q2⟩
  have W2 := wk F2 H2 s2 a2.good i
  by_cases hlt : i < xs.length
  · have hx : xs[i]? = some xs[i] := List.getElem?_eq_getElem hlt
    rw [List.drop_eq_getElem_cons hlt] at q2
    obtain ⟨ρ1, eset, q2⟩ := q2
    obtain ⟨hgo, hy⟩ := W2.1 _ hx
    refine .inr ⟨hgo, fun σ' H' => ∃ F3 ρ3, Same F1 F3 ∧ At X.K c F3 H' σ' ρ3 ∧ dLoop set db De (xs.drop (i + 1)) ρ3, fun σ' H' hN => ⟨xs.length - (i + 1), by omega, rfl, by omega, hN⟩, fun x H3 y => ?_⟩
    obtain ⟨F3, f3, dx⟩ := hy x H3 y
    refine hg.ok F3 H3 x xs[i] σ2 ρ2 ρ1 _ f3.good (a2.fr f3).sl dx eset fun σ' s' _ => ?_
    refine ⟨F3, ρ1, { De with nx := fun ρ' => dLoop set db De (xs.drop (i + 1)) ρ', ct := fun ρ' => dLoop set db De (xs.drop (i + 1)) ρ', bk := De.nx }, ⟨a2.en.trans f3, s'⟩, ⟨fun ρ' σ'' F' H' h s a' => ⟨F', ρ', s2.trans (f3.grow.trans s), a', h⟩, fun d v F' H' h s => l.rt d v F' H' h (f1.grow.trans (s2.trans (f3.grow.trans s))),
      fun ρ' σ'' F' H' h s a' => l.nx ρ' σ'' F' H' h (f1.grow.trans (s2.trans (f3.grow.trans s))) a', fun ρ' σ'' F' H' h s a' => ⟨F', ρ', s2.trans (f3.grow.trans s), a', h⟩, fun o x as F' H' h s => l.ro o x as F' H' h (f1.grow.trans (s2.trans (f3.grow.trans s)))⟩, q2⟩
  · have e : i = xs.length := by omega
    subst e
    rw [List.drop_length] at q2
    exact .inl ⟨W2.2 (Nat.le_refl _), l.nx _ _ F2 H2 q2 (f1.grow.trans s2) a2⟩⟩
end
end DL
set_option Elab.async false
set_option linter.all false
set_option maxRecDepth 100000
set_option maxHeartbeats 1000000
set_option autoImplicit false
namespace DL
open PySem PySem.Spec PyProof.Rows L2
/-! ### a list of one's own, grown -/
section
variable {X : Cx} {c : Dx}
theorem own_upd {W : Option Addr} {F0 H0 F H : Hp} {a : Addr} {o : HO} (f : Fr W F0 H0 F H) (n : F a = none) (w : W ≠ some a) (h0 : H0 a = none) : Fr W F0 H0 F (upd H a o) := upd_own f h0 n w
theorem upd_off {H : Hp} {a : Addr} {o : HO} : ∀ q, ¬ q ∈ [a] → upd H a o q = H q := fun q h => upd_ne (fun e => h (by simp [e]))
/-- name = []: a list of its own -/
@[simp] def dNewL (i : Nat) (da : DA) : DS := fun De ρ => da ρ fun ds => ds.length ≤ 1000 ∧ De.nx (ρ.set i (.ow ds))
theorem entry_none {F H : Hp} (f : Fr c.W c.F0 c.H0 F H) {p : Addr} (hp : H p = none) : c.H0 p = none := by
  cases q : c.H0 p with
  | none => rfl
  | some u =>
    by_cases w : c.W = some p
    · obtain ⟨_, i, j, k, e⟩ := f.well p w
      rw [hp] at e; cases e
    · rw [f.keep p u q w] at hp; cases hp
/-- what is one's own becomes what is kept -/
@[simp] def dKeep (i : Nat) (d : DS) : DS := fun De ρ => ∃ ds, ρ[i]? = some (.ow ds) ∧ d De (ρ.set i (.fz (.lst ds)))
theorem set_fz {K : PySem.W.Frag} {W : Option Addr} {H0 F H : Hp} {σ : L2.St} {ρ : List Sl} {i : Nat} {v : V} {d : D} {t : Sl} (s : Slots K W H0 F H σ (ρ.set i .un)) (hs : σ[i]? = some (some v)) (h : Dat K F v d) : Slots K W H0 F H σ (ρ.set i (.fz d)) := by
  have s2 := s.set i h
  rw [set_self_eq hs, List.set_set] at s2
  exact s2
theorem keep_up (i : Nat) {d : DS} : ∀ D σ H, upS X c (dKeep i d) D σ H → upS X c d D σ H := by
  intro D σ H q
  obtain ⟨F, ρ, De, a, l, ds, e, q⟩ := q
  obtain ⟨p, as, h1, fr, ho⟩ := a.sl.own e
  cases ho with
  | @lst _ vs _ h5 h6 =>
    obtain ⟨h2, h3, h4⟩ := fr p (by simp)
    have g : Same F (upd F p (.lst vs)) := same_upd h2
    exact ⟨upd F p (.lst vs), _, De, ⟨freeze_new a.en h4 h2 h5 h3, set_fz (t := .un) (a.sl.other e h1 (.lst h5 h6) g upd_off (fun _ _ => rfl)) h1 (.lst upd_same (h6.mono g))⟩, l.grow g, q⟩
theorem pssd_keep (i : Nat) {sts : List Stmt} {d : DS} (h : PSsd X c sts d) : PSsd X c sts (dKeep i d) := ⟨impSs h.ps (keep_up i)⟩
/-! dicts of one's own -/
@[simp] def dKeepD (i : Nat) (d : DS) : DS := fun De ρ => ∃ ds, ρ[i]? = some (.od ds) ∧ d De (ρ.set i (.fz (.dct ds)))
theorem own1 {W : Option Addr} {H0 F : Hp} {p : Addr} (n : F p = none) (w : W ≠ some p) (h0 : H0 p = none) : Free W H0 F [p] := fun q hq => by rw [List.mem_singleton.mp hq]; exact ⟨n, w, h0⟩
/-- name.append(e) -/
@[simp] def dApp (i : Nat) (de : DE) : DS := fun De ρ => ∃ ds, ρ[i]? = some (.ow ds) ∧ de ρ fun y => ds.length < sizeLine ∧ De.nx (ρ.set i (.ow (ds ++ [y])))
theorem psd_append {i : Nat} {o e : Expr} {de : DE} {apos cpos pos : Pos} (ho : PE X o (tVar i)) (h : PD X c e de) (hst : starEach [e] X.env = [(false, eval e X.env)] := by rfl)
    (hbase : attributeBase o "append" X.env (eval o X.env) = eval o X.env := by rfl)
    (hfew : ((backTo cpos (starEach [e] X.env)).all (fun x => !x.1) && (backToKw cpos (keywordEach [] X.env)).all (fun x => x.1.isSome)
      && decide ([e].length + ([] : List Keyword).length + (if ([] : List Keyword).isEmpty then 0 else 1) < 30)) = true := by rfl)
    (hline : (apos.endLine == cpos.line) = true := by rfl) (hs : swapsWith (.Call (.Attribute o "append" apos) [e] [] cpos) none pos.line X.env = pure false := by rfl) :
    PSd X c (.Expr (.Call (.Attribute o "append" apos) [e] [] cpos) pos) (dApp i de) := ⟨impS (ps_expr (pe_bm PySem.F.plainAttrs_list PySem.F.slot_list_append PySem.F.type_list_append mt_append ho (pa_cons h.pe pa_nil hst) hbase hfew hline hst) hs) fun D σ H q => by
  obtain ⟨F, ρ, De, a, l, ds, e, q⟩ := q
  obtain ⟨p, vs, h1, h2, h3, h4, h5, h6⟩ := a.sl.ow e
  refine ⟨_, h1, .inl ⟨rfl, _, SqL.of h5⟩, F, ρ, a, h.mono _ _ _ (fun y q v F1 H1 f dd => ?_) q⟩
  have a1 := a.fr f
  have hp : H1 p = some (.lst vs) := f.keep _ _ h5 h3
  have n1 : F1 p = none := own_free f h2 h5
  have d6 := h6.mono f.grow
  refine ⟨p, vs, v, rfl, rfl, hp, by rw [h6.length]; exact q.1, ?_⟩
  exact l.nx _ _ F1 _ q.2 f.grow ⟨own_upd a1.en n1 h3 h4, a1.sl.change e h1 (own1 n1 h3 h4) (.lst hp d6) upd_off (.lst upd_same (d6.snoc dd))⟩⟩
/-- name.extend(e) -/
@[simp] def dExt (i : Nat) (de : DE) : DS := fun De ρ => ∃ ds, ρ[i]? = some (.ow ds) ∧ de ρ fun y => ∃ es, y = .lst es ∧ ds.length + es.length ≤ sizeLine ∧ De.nx (ρ.set i (.ow (ds ++ es)))
end
end DL
set_option Elab.async false
set_option linter.all false
set_option maxRecDepth 100000
set_option maxHeartbeats 1000000
set_option autoImplicit false
namespace DL
open PySem PySem.Spec PyProof.Rows L2
/-! ### defs and their promises, by what values hold -/
/-- a promise by values: the well, the arguments, what is wanted of the value; of an exception (class, fields) -/
abbrev GX := Option Addr → List D → (D → Prop) → (Addr → List (Str × D) → Prop) → Prop
/-- a promise that lets nothing out -/
abbrev G0 := Option Addr → List D → (D → Prop) → Prop
@[simp] def lift0 (g : G0) : GX := fun W ds P _ => g W ds P
theorem slots_start {K : PySem.W.Frag} {W : Option Addr} {H0 F H : Hp} {N : List Str} {vs : List V} {ds : List D} (d : DatL K F vs ds) : Slots K W H0 F H (start N vs) (ds.map Sl.fz ++ List.replicate (N.length - ds.length) Sl.un) := by
  have reps : ∀ n : Nat, Paired (SlAt K W H0 F H) (List.replicate n (none : Option V)) (List.replicate n Sl.un) := by
    intro n
    induction n with
    | zero => exact .nil
    | succ n ih => exact .cons (.un _) ih
  have key : ∀ {us : List V} {es : List D} (n : Nat), DatL K F us es → Paired (SlAt K W H0 F H) (us.map some ++ List.replicate n none) (es.map Sl.fz ++ List.replicate n Sl.un) := by
    intro us es n q
    induction es generalizing us with
    | nil =>
      cases q
      exact reps n
    | cons e es ih =>
      cases q with
      | cons a b => exact .cons (.fz a) (ih b)
  have noow : ∀ (j : Nat) (es : OD), (ds.map Sl.fz ++ List.replicate (N.length - ds.length) Sl.un)[j]? ≠ some (.own es) := by
    intro j es e
    have hm := List.mem_of_getElem? e
    rcases List.mem_append.mp hm with z | z
    · obtain ⟨a, _, e⟩ := List.mem_map.mp z
      cases e
    · have := List.eq_of_mem_replicate z
      cases this
  refine ⟨?_, fun i j es fs _ _ _ _ _ h1 _ _ _ _ _ => absurd h1 (noow i es)⟩
  unfold L2.start
  rw [d.length]
  exact key _ d
section
variable {P : Program} {w : World} {K : PySem.W.Frag} {mg : Str → Option Value} {base : Heap}
theorem body_in {X : Cx} (hK : X.K = K) {W : Option Addr} {F0 H : Hp} {XP : Addr → List (Str × D) → Prop} {N : List Str} {vs : List V} {ds : List D} {Q : VK} {den : DS} {Pd : D → Prop} (G : Good W F0 H) (dat : DatL K F0 vs ds)
    (hq : ∀ d, Pd d → ∀ v F' H', Fr W F0 H F' H' → Dat K F' v d → Q v H') (h : den ⟨fun _ => Pd .non, Pd, fun _ => False, fun _ => False, fun _ => False⟩ (ds.map Sl.fz ++ List.replicate (N.length - ds.length) Sl.un)) :
    upS X ⟨W, F0, H, XP⟩ den { nx := fun _ H' => Q .non H', rt := Q } (start N vs) H := by
  subst hK
  refine ⟨F0, _, ⟨fun _ => Pd .non, Pd, fun _ => False, fun _ => False, fun _ => False⟩, ⟨G.rfl, slots_start dat⟩, ⟨fun ρ' σ' F' H' p _ a => hq _ p .non F' H' a.en .non, fun d v F' H' p _ f dd => hq _ p v F' H' f dd, fun _ _ _ _ z => z.elim, fun _ _ _ _ z => z.elim, fun _ _ _ _ _ z => z.elim⟩, h⟩
end
section
variable {X : Cx} {c : Dx}
/-- how an exception that leaves a callee is wanted -/
def EOk (X : Cx) (c : Dx) (E : XK) : Prop := ∀ C fs dx fs' F' H', c.XP C fs → Fr c.W c.F0 c.H0 F' H' → H' dx = some (.xd fs') → DatF X.K F' fs' fs → E (.ref C) (some dx) H'
theorem EOk.no {W : Option Addr} {F0 H0 : Hp} {E : XK} : EOk X ⟨W, F0, H0, fun _ _ => False⟩ E := fun _ _ _ _ _ _ h => h.elim
@[simp] def dFn (g : GX) (c : Dx) (dds : List D) (da : DA) : DE := fun ρ P => da ρ fun ds => g c.W (ds ++ dds) P c.XP
/-! fields -/
def dFld (C : Addr) (f : Str) (de : DE) : DE := fun ρ P => de ρ fun d => ∃ fs v, d = .ins C fs ∧ fs.lookup f = some v ∧ P v
theorem pd_fld {C : Addr} {f : Str} {e : Expr} {de : DE} {pos : Pos} (hC : Cls X.K C) (hn : NoAttr X.K C f) (he : PD X c e de) (hb : attributeBase e f X.env (eval e X.env) = eval e X.env := by rfl) : PD X c (.Attribute e f pos) (dFld C f de) := by
  refine ⟨imp (pe_fld he.pe hb) fun σ H Q q => ?_, fun ρ P P' m => he.mono ρ _ _ fun d ⟨fs, v, e, l, p⟩ => ⟨fs, v, e, l, m _ p⟩⟩
  obtain ⟨F, ρ, a, q⟩ := q
  refine ⟨F, ρ, a, he.mono _ _ _ (fun d q v F1 H1 f1 d1 => ?_) q⟩
  obtain ⟨fs, u, rfl, l, q⟩ := q
  cases d1 with
  | ins hi hf =>
    obtain ⟨v, l', dv⟩ := hf.lookup l
    exact ⟨_, C, _, _, v, rfl, f1.good.sub _ _ hi, hC, hn, l', q v F1 H1 f1 dv⟩
end
end DL
set_option Elab.async false
set_option linter.all false
set_option maxRecDepth 100000
set_option maxHeartbeats 1000000
set_option autoImplicit false
namespace DL
open PySem PySem.Spec PyProof.Rows L2
section
variable {X : Cx} {c : Dx}
/-! ### products of any two that the machine takes -/
theorem op_mulA : OpR X (binaryOp .Mult) (rI IntMulOk fun i j => .int (i * j)) := opI fun _ _ _ _ _ _ _ hc q => mul_int q hc
theorem pd_mulA {a b : Expr} {da db : DE} {pos} (ha : PD X c a da) (hb : PD X c b db) : PD X c (.BinOp a .Mult b pos) (dOp (fI IntMulOk fun i j => i * j) da db) := pd_op op_mulA serves_I mono_fI ha hb
theorem mulOk_right {i j : Int} (h1 : -(2 ^ 64) < j) (h2 : j < 2 ^ 64) : IntMulOk i j := .of_right (intBits_le_64 h1 h2)
theorem mulOk_left {i j : Int} (h1 : -(2 ^ 64) < i) (h2 : i < 2 ^ 64) : IntMulOk i j := .of_left (intBits_le_64 h1 h2)
/-! ### names of the top -/
theorem pd_bty {x : Str} {T : String} {pos : Pos} (hg : Gl X x) (hm : X.mg x = none) (hv : bootBuiltins x = some (.type T)) (hn : x ≠ "__name__" := by decide) (hd : (x == ("__debug__" : Str)) = false := by decide) : PD X c (.Name x pos) (dC (.ty T)) := pd_c (pe_bltn (v := .ty T) hg hm hv rfl hn hd) fun _ => .ty T
theorem pd_gint {x : Str} {i : Int} {t : Tok} {pos : Pos} (hg : Gl X x) (hm : X.mg x = some (.int i t)) (hd : (x == ("__debug__" : Str)) = false := by decide) : PD X c (.Name x pos) (dC (.int i)) := pd_c (pe_glob (v := .int i) hg hm ⟨_, rfl⟩ hd) fun _ => .int i
theorem pd_gref {x : Str} {C : Addr} {pos : Pos} (hg : Gl X x) (hm : X.mg x = some (.ref C)) (hd : (x == ("__debug__" : Str)) = false := by decide) : PD X c (.Name x pos) (dC (.adr C)) := pd_c (pe_glob (v := .ref C) hg hm rfl hd) fun _ => .adr C
/-! ### isinstance -/
@[simp] def D.tn : D → Option String
  | .non => some "NoneType"
  | .bl _ => some "bool"
  | .int _ => some "int"
  | .str _ => some "str"
  | .tup _ => some "tuple"
  | .lst _ => some "list"
  | .dct _ => some "dict"
  | _ => none
def isaB (t T : String) : Bool := t == T || (t == "bool" && T == "int")
def tnames : List String := ["NoneType", "bool", "int", "str", "tuple", "list", "dict"]
def tasked : List String := ["bool", "int", "str", "tuple", "list", "dict"]
theorem kit_all : ∀ t ∈ tnames, ∀ T ∈ tasked, kitB t T = some (isaB t T) := by decide +kernel
theorem tn_mem {d : D} {t : String} (h : d.tn = some t) : t ∈ tnames := by
  cases d <;> simp only [D.tn, Option.some.injEq] at h <;> first | (subst h; decide) | cases h
theorem tyx_of {K : PySem.W.Frag} {F : Hp} {v : V} {d : D} {t : String} (h : Dat K F v d) (e : d.tn = some t) : TyX K F v (.type t) := by
  cases h with
  | non => cases e; exact .base .non
  | bl b => cases e; exact .base (.bl b)
  | int b => cases e; exact .base (.int b)
  | str b => cases e; exact .base (.str b)
  | ty _ => cases e
  | adr _ => cases e
  | tup hs _ =>
    cases e
    rcases hs with (hs | ⟨o, hs⟩) | ⟨o, its, n, h1, h2, _⟩
    · exact .base (.tup hs)
    · exact .fTuple hs
    · exact .kTuple h1 h2
  | lst hs _ => cases e; exact .base (.lst hs)
  | ins _ _ => cases e
  | dct hs _ => cases e; exact .fDict hs
  | scr _ => cases e
theorem tyx_sub {K : PySem.W.Frag} {F H : Hp} (s : Same F H) {v : V} {t : Value} (h : TyX K F v t) : TyX K H v t := by
  cases h with
  | base b =>
    refine .base ?_
    cases b with
    | non => exact .non
    | bl b => exact .bl b
    | int b => exact .int b
    | str b => exact .str b
    | flt b => exact .flt b
    | lst e => exact .lst (s _ _ e)
    | frz e => exact .frz (s _ _ e)
    | tup e => exact .tup (s _ _ e)
    | dK e => exact .dK (s _ _ e)
    | dT e => exact .dT (s _ _ e)
    | ins e cl a b c d => exact .ins (s _ _ e) cl a b c d
  | byt b => exact .byt b
  | set e => exact .set (s _ _ e)
  | kList e c => exact .kList e c
  | kTuple e c => exact .kTuple e c
  | kDict e c => exact .kDict e c
  | fTuple e => exact .fTuple (s _ _ e)
  | fDict e => exact .fDict (s _ _ e)
def fIsi : FN := fun ds P => ∃ x t T, ds = [x, .ty T] ∧ x.tn = some t ∧ T ∈ tasked ∧ P (.bl (isaB t T))
theorem mono_fIsi : MonoF fIsi := fun ds P P' m ⟨x, t, T, a, b, k, p⟩ => ⟨x, t, T, a, b, k, m _ p⟩
theorem serves_isi : ServesC X c (rIsi X.K) fIsi := by
  intro F H xs ds P Q G hx h q
  obtain ⟨x, t, T, rfl, ht, hT, p⟩ := h
  obtain ⟨v, u, rfl, h1, h2⟩ := datL2 hx
  cases h2
  exact ⟨v, .ty T, .type t, .type T, _, rfl, .ty T, tyx_sub G.sub (tyx_of h1 ht), kit_ty (kit_all t (tn_mem ht) T hT), q _ _ F H p G.rfl (.bl _)⟩
def fIsiT : FN := fun ds P => ∃ (x : D) (t : String) (Ts : List String), ds = [x, .tup (Ts.map D.ty)] ∧ x.tn = some t ∧ (∀ T ∈ Ts, T ∈ tasked) ∧ P (.bl (Ts.any fun T => isaB t T))
theorem mono_fIsiT : MonoF fIsiT := fun ds P P' m ⟨x, t, T, a, b, k, p⟩ => ⟨x, t, T, a, b, k, m _ p⟩
theorem kit_any {K : PySem.W.Frag} {t : String} (ht : t ∈ tnames) : ∀ Ts : List String, (∀ T ∈ Ts, T ∈ tasked) → PySem.W.kitAny K (.type t) (Ts.map Value.type) = some (Ts.any fun T => isaB t T)
  | [], _ => kitAny_nil
  | T :: Ts, h => by
    rw [List.map_cons, List.any_cons]
    refine kitAny_cons (kit_ty (kit_all t ht T (h T List.mem_cons_self))) (fun e => ?_) (fun e => by rw [e]; rfl)
    rw [e, Bool.false_or]
    exact kit_any ht Ts fun T' hT => h T' (List.mem_cons_of_mem _ hT)
theorem datL_tys {K : PySem.W.Frag} {F : Hp} : ∀ {v : List V} {ns : List String}, DatL K F v (ns.map D.ty) → v = ns.map V.ty
  | _, [], .nil => rfl
  | _, n :: ns, .cons h k => by
    cases h
    rw [datL_tys k]
    rfl
theorem vals_tys {us : List Value} : ∀ {ns : List String}, Vals (ns.map V.ty) us → us = ns.map Value.type := by
  induction us with
  | nil =>
    intro ns h
    cases ns with
    | nil => rfl
    | cons _ _ => cases h
  | cons u us ih =>
    intro ns h
    cases ns with
    | nil => cases h
    | cons n ns =>
      cases h with
      | cons a b =>
        cases a
        rw [ih b]
        rfl
/-- isinstance(x, t), t a tuple of built-in classes -/
def rIsiS (K : PySem.W.Frag) : List V → Hp → VK → Prop := fun xs H Q => ∃ (x : V) (tp : Addr) (t : String) (Ts : List String), xs = [x, .ref tp] ∧ SqT K H tp (Ts.map V.ty) ∧ TyX K H x (.type t) ∧ t ∈ tnames ∧ (∀ T ∈ Ts, T ∈ tasked) ∧ Q (.bl (Ts.any fun T => isaB t T)) H
theorem call_isiS : CallR X (.builtin "isinstance") (rIsiS X.K) := by
  intro pins s σ H xs us Q I r h
  obtain ⟨x, tp, t, Ts, rfl, hT, ty, ht, hTs, q⟩ := h
  obtain ⟨u1, u2, rfl, r1, r2⟩ := vals2 r
  cases (show u2 = Value.ref tp from r2)
  obtain ⟨P, Z, p, hx⟩ := kit_of I r1 ty
  obtain ⟨its, rv, ⟨o, h1, h2, n, h3⟩, _⟩ := I.tuple hT
  have e3 := vals_tys rv
  subst e3
  obtain ⟨oc, od, dt, sl⟩ := o
  simp only at h2 h3
  subst h2 h3
  exact PySem.W.kia_tup Z I.kIn p h1 (kit_any ht Ts hTs) hx fun tk => ⟨.bl _, H, I.tok tk, rfl, q⟩
theorem serves_isiT : ServesC X c (rIsiS X.K) fIsiT := by
  intro F H xs ds P Q G hx h q
  obtain ⟨x, t, Ts, rfl, ht, hT, p⟩ := h
  obtain ⟨v, u, rfl, h1, h2⟩ := datL2 hx
  cases h2 with
  | tup hs hl =>
    rw [datL_tys hl] at hs
    exact ⟨v, _, t, Ts, rfl, sqT_mono G.sub hs, tyx_sub G.sub (tyx_of h1 ht), tn_mem ht, hT, q _ _ F H p G.rfl (.bl _)⟩
/-! ### a text, sign by sign -/
@[simp] def dItS (de : DE) : DA := fun ρ P => de ρ fun d => ∃ x : Str, d = .str x ∧ P (x.cps.toList.map fun ch => D.str ⟨#[ch]⟩)
/-! ### a op b op' c -/
@[simp] def dChain (f f' : F2) (da db dc : DE) : DE := fun ρ P => da ρ fun x => db ρ fun y => f x y fun z => ∃ k, z = .bl k ∧ if k = true then dc ρ fun w => f' y w P else P (.bl false)
theorem pd_chain {op op' : CmpOp} {r r' : R2} {f f' : F2} {a b e : Expr} {da db dc : DE} {pos} (ho : OpR X (compareOp op) r) (ho' : OpR X (compareOp op') r') (hf : Serves X c r f) (hf' : Serves X c r' f') (mf : Mono2 f) (mf' : Mono2 f') (ha : PD X c a da) (hb : PD X c b db) (hc : PD X c e dc)
    (hm : lastMarks [op, op'] [b, e] = false := by with_unfolding_all rfl) : PD X c (.Compare a [op, op'] [b, e] pos) (dChain f f' da db dc) := by
  refine ⟨imp (pe_chain ho ho' ha.pe hb.pe hc.pe hm) fun σ H Q q => ?_, fun ρ P P' m => ha.mono ρ _ _ fun x => hb.mono ρ _ _ fun y => mf x y _ _ fun z ⟨k, e, p⟩ => ⟨k, e, ?_⟩⟩
  · obtain ⟨F, ρ, a, q⟩ := q
    refine ⟨F, ρ, a, ha.mono _ _ _ (fun d q v F1 H1 f1 d1 => ?_) q⟩
    refine ⟨F1, ρ, a.fr f1, hb.mono _ _ _ (fun d2 q v2 F2 H2 f2 d2' => ?_) q⟩
    refine hf F2 H2 v v2 d d2 _ _ f2.good (d1.mono f2.grow) d2' q fun z w F3 H3 p f3 dz => ?_
    obtain ⟨k, rfl, p⟩ := p
    cases dz
    refine ⟨k, rfl, ?_⟩
    cases k with
    | false => exact p _ F3 H3 (f1.trans (f2.trans f3)) (.bl _)
    | true =>
      refine ⟨F3, ρ, ((a.fr f1).fr f2).fr f3, hc.mono _ _ _ (fun d4 q u F4 H4 f4 d4' => ?_) p⟩
      exact hf' F4 H4 v2 u d2 d4 _ Q f4.good (d2'.mono (f3.trans f4).grow) d4' q fun d v F' H' p f5 dd => p v F' H' (f1.trans (f2.trans (f3.trans (f4.trans f5)))) dd
  · cases k with
    | false => exact m _ p
    | true => exact hc.mono _ _ _ (fun w => mf' _ _ _ _ m) p
/-! texts: <= -/
end
end DL
set_option Elab.async false
set_option linter.all false
set_option maxRecDepth 100000
set_option maxHeartbeats 1000000
set_option autoImplicit false
namespace DL
open PySem PySem.Spec PyProof.Rows L2
/-! ### what the specs say of values that are known -/
section
variable {P : D → Prop} {i j : Int} {a b : Str} {l m : List D} {k : Bool} {x y : D} {C : Addr} {fs : List (Str × D)} {s : Str}
@[simp] theorem fI_eval {Cd g} : fI Cd g (.int i) (.int j) P = (Cd i j ∧ P (.int (g i j))) := by simp [fI]
@[simp] theorem fI0_eval {g} : fI0 g (.int i) (.int j) P = P (.int (g i j)) := by simp [fI0]
@[simp] theorem fB0_eval {g} : fB0 g (.int i) (.int j) P = P (.bl (g i j)) := by simp [fB0]
@[simp] theorem fNeg_eval : fNeg (.int i) P = P (.int (-i)) := by simp [fNeg]
@[simp] theorem fLen_lst : fLen [.lst l] P = P (.int l.length) := by simp [fLen]
@[simp] theorem fLen_tup : fLen [.tup l] P = P (.int l.length) := by simp [fLen]
@[simp] theorem fLen_str : fLen [.str a] P = (a.length ≤ sizeLine ∧ P (.int a.length)) := by
  unfold fLen
  apply propext
  constructor
  · rintro ⟨n, h, p⟩
    rcases h with ⟨l, h, _⟩ | ⟨l, h, _⟩ | ⟨z, h, h2, rfl⟩
    · simp at h
    · simp at h
    · simp at h
      subst h
      exact ⟨h2, p⟩
  · rintro ⟨h, p⟩
    exact ⟨_, .inr (.inr ⟨a, rfl, h, rfl⟩), p⟩
@[simp] theorem fInt_int : fInt [.int i] P = P (.int i) := by simp [fInt]
@[simp] theorem fInt_bl : fInt [.bl k] P = P (.int (if k then 1 else 0)) := by simp [fInt]
@[simp] theorem fTupOf_lst : fTupOf [.lst l] P = P (.tup l) := by simp [fTupOf]
@[simp] theorem fTupOf_tup : fTupOf [.tup l] P = P (.tup l) := by simp [fTupOf]
@[simp] theorem fIs_eval {n : Bool} : fIs n x .non P = P (.bl (x.isNon != n)) := by simp [fIs]
@[simp] theorem fIx_lst : fIx (.lst l) (.int i) P = ∃ d, atI l i = some d ∧ P d := by simp [fIx]
@[simp] theorem fIx_tup : fIx (.tup l) (.int i) P = ∃ d, atI l i = some d ∧ P d := by simp [fIx]
@[simp] theorem fCat_eval : fCat (.lst l) (.lst m) P = (l.length + m.length ≤ sizeLine ∧ P (.lst (l ++ m))) := by simp [fCat]
@[simp] theorem fCatT_eval : fCatT (.tup l) (.tup m) P = (l.length + m.length ≤ sizeLine ∧ P (.tup (l ++ m))) := by simp [fCatT]
@[simp] theorem fIsi_eval {T : String} : fIsi [x, .ty T] P = ∃ t, x.tn = some t ∧ T ∈ tasked ∧ P (.bl (isaB t T)) := by
  unfold fIsi
  apply propext
  constructor
  · rintro ⟨x', t, T', h, h2, h3, p⟩
    simp only [List.cons.injEq, D.ty.injEq, and_true] at h
    obtain ⟨rfl, rfl⟩ := h
    exact ⟨t, h2, h3, p⟩
  · rintro ⟨t, h2, h3, p⟩
    exact ⟨x, t, T, rfl, h2, h3, p⟩
theorem tys_inj : ∀ {l m : List String}, l.map D.ty = m.map D.ty → l = m
  | [], [], _ => rfl
  | [], _ :: _, h => by simp at h
  | _ :: _, [], h => by simp at h
  | a :: l, b :: m, h => by
    simp only [List.map_cons, List.cons.injEq, D.ty.injEq] at h
    rw [h.1, tys_inj h.2]
@[simp] theorem fIsiT_two {T U : String} : fIsiT [x, .tup [.ty T, .ty U]] P = ∃ t, x.tn = some t ∧ T ∈ tasked ∧ U ∈ tasked ∧ P (.bl (isaB t T || isaB t U)) := by
  unfold fIsiT
  apply propext
  constructor
  · rintro ⟨x', t, Ts, h, h2, h3, p⟩
    simp only [List.cons.injEq, D.tup.injEq, and_true] at h
    obtain ⟨rfl, h⟩ := h
    have := tys_inj (l := [T, U]) h
    subst this
    refine ⟨t, h2, h3 T (by simp), h3 U (by simp), ?_⟩
    simpa using p
  · rintro ⟨t, h2, h3, h4, p⟩
    refine ⟨x, t, [T, U], rfl, h2, fun V hV => ?_, by simpa using p⟩
    rcases List.mem_cons.mp hV with rfl | hV
    · exact h3
    · rcases List.mem_cons.mp hV with rfl | hV
      · exact h4
      · cases hV
@[simp] theorem fEq_int {n : Bool} : fEq n (.int i) (.int j) P = P (.bl ((i == j) != n)) := by
  simp [fEq, D.py, SeqAt.shaped, PyData.canLay0, PyData.depth, PyData.eqv]
end
/-! == of scalars -/
section
variable {X : Cx} {c : Dx}
theorem bxor_f (b : Bool) : (b != false) = b := by cases b <;> rfl
theorem bxor_t (b : Bool) : (b != true) = !b := by cases b <;> rfl
end
end DL
set_option Elab.async false
set_option linter.all false
set_option maxRecDepth 100000
set_option maxHeartbeats 1000000
set_option autoImplicit false
/-! == and != of instances by their own __eq__ -/
namespace DL
open PySem PySem.Spec PyProof.Rows L2
section
variable {X : Cx} {c : Dx}
/-- what the class of instances with an own == has -/
structure EqC (K : PySem.W.Frag) (C f : Addr) : Prop where
  eq : PySem.W.findIn K (.ref C) "__eq__" = some (some (.ref f))
  fn : PySem.W.isFn K (.ref f) = true
  ne : PySem.W.findIn K (.ref C) "__ne__" = some (some (.builtin "object.__ne__"))
  mo : PySem.W.mroIn K C (.type "object") = some true
/-- == of two instances, by a function of the two -/
def fOwn (C : Addr) (f : List D → Option D) (neg : Bool) : F2 := fun x y P => ∃ fs gs k, x = .ins C fs ∧ y = .ins C gs ∧ f [x, y] = some (.bl k) ∧ P (.bl (k != neg))
@[simp] theorem fOwn_eval {C : Addr} {f : List D → Option D} {neg : Bool} {fs gs : List (Str × D)} {P : D → Prop} : fOwn C f neg (.ins C fs) (.ins C gs) P = ∃ k, f [.ins C fs, .ins C gs] = some (.bl k) ∧ P (.bl (k != neg)) := by
  simp [fOwn]
end
end DL
set_option Elab.async false
set_option linter.all false
set_option maxRecDepth 100000
set_option maxHeartbeats 1000000
set_option autoImplicit false
/-! defs that show data (repr): their promise holds where nothing is being shown -/
namespace DL
open PySem PySem.Spec PyProof.Rows L2
section
variable {P : Program} {w : World} {K : PySem.W.Frag} {mg : Str → Option Value} {base : Heap}
/-- as FnOk, from callers around whom nothing is being shown -/
structure FnG (P : Program) (w : World) (K : PySem.W.Frag) (mg : Str → Option Value) (base : Heap) (k : Nat) (f : Addr) (fd : FuncData) (ps : List Str) (sp : Sp) : Prop where
  len : ∀ vs H Q E, sp vs H Q E → vs.length = ps.length
  run : ∀ (A : Around) (outer : List Env) (s : Shared) (H : Hp) (args : Args) (us : List Value) (vs : List V) (Q : VK) (E : XK), A.guards = some [] → Room k A → Env0 P w K mg base A outer s H → BindsTo s fd args (ps.zip us) → Vals vs us → sp vs H Q E →
    codeAny (model P w) A (.call (.ref f) args) (CR CX0 outer P w H s Q E) s
theorem FnG.of {k : Nat} {f : Addr} {fd : FuncData} {ps : List Str} {sp : Sp} (F : FnOk P w K mg base CX0 k f fd ps sp) : FnG P w K mg base k f fd ps sp :=
  ⟨F.len, fun A outer s H args us vs Q E _ => F.run A outer s H args us vs Q E⟩
end
section
variable {X : Cx} {c : Dx}
section
variable {k : Nat} {f : Addr} {fd : FuncData} {ps : List Str} {sp : Sp} {g : GX} {x : Str} {p pos : Pos} {e : Expr} {es : List Expr} {da : DA}
theorem pe_callG {t : TA} (F : FnG X.prog X.w X.K X.mg X.base k f fd ps sp) (hgd : X.A.guards = some []) (hr : Room k X.A) (hg : Gl X x) (hm : X.mg x = some (.ref f)) (hk : PySem.W.keepIn X.K (.ref f) = true) (hb : Binds X.K fd ps [])
    (ha : PA X (e :: es) t) (hdb : (x == ("__debug__" : Str)) = false := by decide) (he : starEach (e :: es) X.env = (false, eval e X.env) :: starEach es X.env := by rfl) (hpl : (backTo pos (starEach es X.env)).any (·.1) = false := by rfl) :
    PE X (.Call (.Name x p) (e :: es) [] pos) (tCall sp [] E0 t) := by
  constructor
  intro pins s σ H Q I h
  apply wpAny_Call_Name_kw
  apply ld_glob I hg hm (hd := hdb)
  refine PySem.W.callWith_K (h₀ := X.base) I.ok.mod.kin hk (thn (ha.run pos pins s σ H _ I h) ?_) he hpl
  rintro us s1 ⟨vs, H1, I1, r, q⟩
  rw [List.append_nil] at q
  have hl : us.length = ps.length := by rw [← r.length]; exact F.len _ _ _ _ q
  refine ⟨I1.kIn, wpAny_call (codeAny_mono (F.run X.A X.stack s1 H1 ⟨us, []⟩ us vs Q E0 hgd hr I1.env0 ?_ r q) ?_)⟩
  · have := hb s1 us I1.kIn (by simpa using hl)
    simpa using this
  · intro r s' hq
    cases r with
    | error e => exact False.elim hq
    | ok fl => cases fl <;> first | exact I1.after hq | exact False.elim hq
end
/-! ### the end, where the law shows data -/
theorem scriptH {P : Program} {w : World} {K : PySem.W.Frag} {h : Heap} {a : Addr} {vs : List Value} {ns : List Int} (KX : K.In h) (ha : h.get? a = some { cls := .type "list", data := .seq vs.toArray }) (hi : IntsAre vs ns) (hl : ns.length ≤ sizeLine) :
    ∃ H : Hp, Only H ∧ SqL K H a (ns.map V.int) ∧ HOk P w H h ∧ (∀ b, H b ≠ none → b = a) ∧ (H a ≠ none → K.lookup a = none) := by
  have rv := vals_ints hi
  have lv := hi.length
  by_cases hk : ∃ o, K.lookup a = some o
  · obtain ⟨o, hk⟩ := hk
    obtain rfl := Option.some.inj (ha.symm.trans (KX a o hk))
    exact ⟨fun _ => none, fun _ => .inl rfl, .inr ⟨_, vs.toArray, _, hk, rfl, rfl, rfl, by rw [List.size_toArray, lv]; exact hl, by simpa using rv⟩, fun _ _ z => (nomatch z), fun _ z => (z rfl).elim, fun z => (z rfl).elim⟩
  · have hk0 : K.lookup a = none := by
      cases q : K.lookup a with
      | none => rfl
      | some o => exact (hk ⟨o, q⟩).elim
    refine ⟨upd (fun _ => none) a (.frz { cls := .type "list", data := .seq vs.toArray } (.lst (ns.map V.int))), fun b => ?_, .inl (.inr ⟨_, upd_same⟩), fun b u e => ?_, fun b z => ?_, fun _ => hk0⟩
    · by_cases e : b = a
      · subst e; exact .inr ⟨_, _, upd_same⟩
      · exact .inl (upd_ne e)
    · by_cases q : b = a
      · subst q
        rw [upd_same] at e
        cases e
        exact ⟨ha, by rw [List.length_map]; exact hl, vs, 0, rv, ha⟩
      · rw [upd_ne q] at e
        cases e
    · by_cases q : b = a
      · exact q
      · exact (z (upd_ne q)).elim
theorem lawG {P : Program} {w : World} {K : PySem.W.Frag} {mg mb : Str → Option Value} {k : Nat} {fa a : Addr} {fd : FuncData} {x : Str} {sp : Sp} {s₁ : Shared} {vs : List Value} {ns : List Int}
    (KX : K.In s₁.heap) (hns : s₁.heap.Ns mainGlobals mg) (hb : s₁.heap.Ns builtinsNs mb) (hbb : ∀ x : Str, x ≠ "__name__" → mb x = bootBuiltins x) (hlim : s₁.heap.NoLimit) (hg : s₁.gens = #[])
    (ha : s₁.heap.get? a = some { cls := .type "list", data := .seq vs.toArray }) (hi : IntsAre vs ns) (hl : ns.length ≤ sizeLine) (hr : Room k callerA)
    (F : ∀ base : Heap, K.In base → base.Ns mainGlobals mg → FnG P w K mg base k fa fd [x] sp) (hbind : ∀ (s : Shared) (u : Value), BindsTo s fd ⟨[u], []⟩ [(x, u)])
    (hsp : ∀ H : Hp, Only H → SqL K H a (ns.map V.int) → sp [.ref a] H (fun v _ => v = .bl true) E0) :
    codeAny (model P w) callerA (.call (.ref fa) ⟨[.ref a], []⟩) (fun r s' => r = .ok (.ret (.bool true)) ∧ OldK s₁.heap s'.heap ∧ s'.os = s₁.os ∧ AllBare s'.gens) s₁ := by
  obtain ⟨H, hO, hS, ok, hA, hK⟩ := scriptH (P := P) (w := w) KX ha hi hl
  have free : ∀ {b : Addr} {o : Obj}, (b = a → False) → s₁.heap.get? b = some o → (hidT s₁.heap H).get? b = some o := fun {b o} hne e => hidT_get e (by
    cases q : H b with
    | none => rfl
    | some u => exact (hne (hA b (by rw [q]; exact Option.some_ne_none u))).elim)
  have ns : ∀ {b : Addr} {m : Str → Option Value}, s₁.heap.Ns b m → (hidT s₁.heap H).Ns b m := fun {b m} h => by
    obtain ⟨o, es, ep, e, d, r⟩ := h
    refine ⟨o, es, ep, free (fun z => ?_) e, d, r⟩
    subst z
    rw [ha] at e
    cases e
    cases d
  have inB : K.In (hidT s₁.heap H) := fun b o e => by
    by_cases z : b = a
    · subst z
      refine hidT_get (KX b o e) ?_
      cases q : H b with
      | none => rfl
      | some u =>
        have := hK (by rw [q]; exact Option.some_ne_none u)
        rw [this] at e
        cases e
    · exact free z (KX b o e)
  have md : Mod K mg (hidT s₁.heap H) := ⟨inB, ns hns, ⟨mb, ns hb, hbb⟩, by
    obtain ⟨mc, h1, h2⟩ := hlim
    exact ⟨mc, ns h1, h2⟩⟩
  have e0 : Env0 P w K mg (hidT s₁.heap H) callerA [] s₁ H := ⟨rfl, md, fun b o e => of_hidT e, Nat.le_of_eq (hidT_size _ _), trivial, fun b z => (nomatch z), ok, .of_eq hg⟩
  refine codeAny_mono ((F _ inB (ns hns)).run callerA [] s₁ H ⟨[.ref a], []⟩ [.ref a] [.ref a] _ _ rfl hr e0 (hbind s₁ (.ref a)) (.cons rfl .nil) (hsp H hO hS)) ?_
  intro r s' h
  cases r with
  | error e => exact h.elim
  | ok fl =>
    cases fl with
    | ret u =>
      obtain ⟨v, H', os, bare, un, ok', rv, q⟩ := h
      obtain rfl : v = .bl true := q
      obtain rfl : u = Value.bool true := rv
      refine ⟨rfl, OldK.of_keep fun b o e => ?_, os, bare⟩
      rcases hO b with z | ⟨ob, xs, z⟩
      · exact un.keep b o e z (fun t => (nomatch t)) (fun t => (nomatch t))
      · obtain ⟨e2, _⟩ := ok' b _ (un.frzs b ob _ z)
        obtain ⟨e1, _⟩ := ok b _ z
        rw [e2, ← e1]
        exact e
    | next => exact False.elim h
    | brk => exact False.elim h
    | cont => exact False.elim h
theorem walkG {l : PySem.W.OpenLaw} {n k : Nat} {q : Program} {loose : List Str} {XP : (Str → Option Value) → Heap → Prop} {YP : World → Heap → Prop} {d : DefRec} {K : Params → PySem.W.Frag} {sp : PySem.W.Frag → Sp} {x : Str}
    (hn : l.most = some n) (hn2 : n ≤ sizeLine) (hdf : d.params.defaults = []) (hr : Room k callerA)
    (hY : ∀ (w : World) (h : Heap), YP w h → (K w.params).In h)
    (F : ∀ (w : World) (mg : Str → Option Value) (fa : Addr) (h : Heap), (K w.params).In h → h.Ns mainGlobals mg → mg d.name = some (.ref fa) →
      ∃ fd : FuncData, (∀ (s : Shared) (u : Value), BindsTo s fd ⟨[u], []⟩ [(x, u)]) ∧ ∀ base : Heap, (K w.params).In base → base.Ns mainGlobals mg → FnG l.prog w (K w.params) mg base k fa fd [x] (sp (K w.params)))
    (hsp : ∀ (w : World) (H : Hp) (a : Addr) (ns : List Int), ns.length ≤ n → (∀ z ∈ ns, Builtin.Int.intBits z ≤ 1048576) → Only H → SqL (K w.params) H a (ns.map V.int) → sp (K w.params) [.ref a] H (fun v _ => v = .bl true) E0) :
    PySem.W.WalkO q loose XP YP l.row.toRowW d [] (fun f vs => PySem.call f vs) := by
  apply Att.attach_callB hn hdf
  intro w s₀ s₁ mg mb fa o pm cd doc a vs ns G Y ho hd hcd hmg hobj hints hlen hbits hg
  obtain ⟨fd, hb, hF⟩ := F w mg fa _ (hY w _ Y) G.T.g hmg
  exact lawG (hY w _ Y) G.T.g G.T.b G.T.builtins G.T.nolimit hg hobj hints (Nat.le_trans hlen hn2) hr hF hb fun H hO hS => hsp w H a ns hlen hbits hO hS
/-! repr of data -/
def rRepr (K : PySem.W.Frag) : List V → Hp → VK → Prop := fun xs H Q => ∃ a d, xs = [.ref a] ∧ Dp K H (.ref a) d ∧ d.showable = true ∧ d.hasDict = false ∧ d.depth ≤ 50 ∧ d.shown.length ≤ sizeLine ∧ Q (.str d.shown) H
theorem call_repr (hgd : X.A.guards = some []) {k : Nat} (hr : Room k X.A) : CallR X (.builtin "repr") (rRepr X.K) := by
  intro pins s σ H xs us Q I r h
  obtain ⟨a, d, rfl, hd, h1, h2, h3, h4, q⟩ := h
  obtain ⟨u, rfl, ru⟩ : ∃ u, us = [u] ∧ RelV (.ref a) u := by
    cases r with
    | cons a b => cases b; exact ⟨_, rfl, a⟩
  obtain ⟨as, rd⟩ := Dp.reads I d _ u hd ru
  cases ru
  refine repr_of_reads' rd h1 (noDict h2) hgd (by have := hr.units; omega) (fun _ _ e => e) (fun h' u tk kp => ?_) h4
  exact ⟨.str d.shown, H, I.kept kp, ⟨u, rfl⟩, q⟩
  where noDict {d : PyData} {as : List Addr} (h : d.hasDict = false) : d.hasDict = true → sysModules ∉ as := fun h' => by rw [h] at h'; cases h'
def fRepr : FN := fun ds P => ∃ x d, ds = [x] ∧ (∃ l, x = .lst l ∨ x = .tup l) ∧ x.py = some d ∧ d.showable = true ∧ d.hasDict = false ∧ d.depth ≤ 50 ∧ d.shown.length ≤ sizeLine ∧ P (.str d.shown)
theorem mono_fRepr : MonoF fRepr := fun ds P P' m ⟨x, d, a, b, e, f, g, h, i, p⟩ => ⟨x, d, a, b, e, f, g, h, i, m _ p⟩
theorem serves_repr : ServesC X c (rRepr X.K) fRepr := by
  intro F H xs ds P Q G hx h q
  obtain ⟨x, d, rfl, ⟨l, hl⟩, e, h1, h2, h3, h4, p⟩ := h
  obtain ⟨v, rfl, hv⟩ := datL1 hx
  have dp := Dp.mono G.sub (dat_dp hv e)
  have fin := q _ _ F H p G.rfl (.str _)
  rcases hl with rfl | rfl
  · cases hv with
    | lst hs hl => exact ⟨_, d, rfl, dp, h1, h2, h3, h4, fin⟩
  · cases hv with
    | tup hs hl => exact ⟨_, d, rfl, dp, h1, h2, h3, h4, fin⟩
end
end DL
set_option Elab.async false
set_option linter.all false
set_option maxRecDepth 100000
set_option maxHeartbeats 1000000
set_option autoImplicit false
/-! a op b op' c, asked for truth; a def's promise that implies another -/
namespace DL
open PySem PySem.Spec PyProof.Rows L2
section
variable {X : Cx} {c : Dx}
theorem pdt_chain {op op' : CmpOp} {r r' : R2} {f f' : F2} {a b e : Expr} {da db dc : DE} {pos} (ho : OpR X (compareOp op) r) (ho' : OpR X (compareOp op') r') (hf : Serves X c r f) (hf' : Serves X c r' f') (mf : Mono2 f) (mf' : Mono2 f') (ha : PD X c a da) (hb : PD X c b db) (hc : PD X c e dc)
    (hm : lastMarks [op, op'] [b, e] = false := by with_unfolding_all rfl) : PDT X c (.Compare a [op, op'] [b, e] pos) (dB (dChain f f' da db dc)) := by
  have mo : Mono (dChain f f' da db dc) := fun ρ P P' m => ha.mono ρ _ _ fun x => hb.mono ρ _ _ fun y => mf x y _ _ fun z ⟨k, e, p⟩ => ⟨k, e, by
    cases k with
    | false => exact m _ p
    | true => exact hc.mono _ _ _ (fun w => mf' _ _ _ _ m) p⟩
  refine ⟨impT (pt_chain ho ho' ha.pe hb.pe hc.pe hm) fun σ H Q q => ?_, fun ρ P P' m => mo ρ _ _ fun x ⟨i, e, p⟩ => ⟨i, e, m _ p⟩⟩
  obtain ⟨F, ρ, a, q⟩ := q
  refine ⟨F, ρ, a, ha.mono _ _ _ (fun d q v F1 H1 f1 d1 => ?_) q⟩
  refine ⟨F1, ρ, a.fr f1, hb.mono _ _ _ (fun d2 q v2 F2 H2 f2 d2' => ?_) q⟩
  refine hf F2 H2 v v2 d d2 _ _ f2.good (d1.mono f2.grow) d2' q fun z w F3 H3 p f3 dz => ?_
  obtain ⟨k, rfl, p⟩ := p
  cases dz
  refine ⟨k, rfl, ?_⟩
  cases k with
  | false =>
    obtain ⟨j, e, p⟩ := p
    cases e
    exact ⟨false, rfl, p F3 H3 (f1.trans (f2.trans f3))⟩
  | true =>
    refine ⟨F3, ρ, ((a.fr f1).fr f2).fr f3, hc.mono _ _ _ (fun d4 q u F4 H4 f4 d4' => ?_) p⟩
    refine hf' F4 H4 v2 u d2 d4 _ _ f4.good (d2'.mono (f3.trans f4).grow) d4' q fun d v F' H' p f5 dd => ?_
    obtain ⟨j, rfl, p⟩ := p
    cases dd
    exact ⟨j, rfl, p F' H' (f1.trans (f2.trans (f3.trans (f4.trans f5))))⟩
end
end DL
set_option Elab.async false
set_option linter.all false
set_option maxRecDepth 100000
set_option maxHeartbeats 2000000
set_option autoImplicit false
/-! enumerate(a tuple) -/
namespace PySem
open Sem (wp)
theorem meets_enumerate_newT (t : Addr) (items : Array Value) :
    Meets (Builtin.«enumerate.__new__» ⟨[.type "enumerate", .ref t], []⟩) (fun _ R s => s.heap.IsTuple t items ∧
      R (.ok (.ret (.ref (s.heap.push { cls := .type "tuple_iterator", data := .fields #[.ref t, .int 0 0] }).objs.size)))
        { s with heap := (s.heap.push { cls := .type "tuple_iterator", data := .fields #[.ref t, .int 0 0] }).push { cls := .type "enumerate", data := .fields #[.none, .bool false, .ref s.heap.objs.size, rawInt 0, .none, .none] } }) :=
  .of_wp fun prog w A R s h => by
    obtain ⟨hp, g, d, tk, os⟩ := s; obtain ⟨h1, h⟩ := h
    have hsub := sub_enumerate
    have q1 : ∀ {A' : Around} {E : Value → Shared → Prop} {Q : Value → Shared → Prop}, Q (.ref hp.objs.size) ⟨hp.push { cls := .type "tuple_iterator", data := .fields #[.ref t, .int 0 0] }, g, d, tk, os⟩ → wpAny (model prog w) A' (pyIter (.ref t)) Q E ⟨hp, g, d, tk, os⟩ :=
      fun q => wpAny_pyIter_tuple (s := ⟨hp, g, d, tk, os⟩) h1 q
    wp_walk using q1
    refine wpAny_stack_any fun st => wpAny_pure ?_
    split
    · rename_i c _ _ _ _ _
      cases (c == Value.type "enumerate")
      · wp_walk using q1
        exact ⟨_, rfl, h⟩
      · wp_walk using q1
        exact ⟨_, rfl, h⟩
    · wp_walk using q1
      exact ⟨_, rfl, h⟩
theorem call_enumerate_tuple {prog : Program} {w : World} {A : Around} {E : Value → Shared → Prop} {s : Shared} {t : Addr} {items : Array Value} {Q : Value → Shared → Prop} (hL : s.heap.IsTuple t items)
    (h : ∀ h', IsEnum h' (s.heap.objs.size + 1) s.heap.objs.size 0 .none → h'.IsTupleIter s.heap.objs.size t 0 → h'.objs.size = s.heap.objs.size + 2 →
      (∀ b o, s.heap.get? b = some o → h'.get? b = some o) → Q (.ref (s.heap.objs.size + 1)) { s with heap := h' }) :
    wpAny (model prog w) A (call (.type "enumerate") [.ref t]) Q E s := by
  refine callType_new F.called_enumerate (by decide) (F.typeCall_enumerate_1 _) (F.newCall_enumerate_1 _) (fun obj => F.args_object_init_2 obj _) F.entry_enumerate_new
    (meets_enumerate_newT t items) ⟨hL, ?_⟩
  have hz : (s.heap.push { cls := .type "tuple_iterator", data := .fields #[.ref t, .int 0 0] }).objs.size = s.heap.objs.size + 1 := Heap.size_push ..
  show _ ∧ _
  rw [hz]
  have he : IsEnum ((s.heap.push { cls := .type "tuple_iterator", data := .fields #[.ref t, .int 0 0] }).push
      { cls := .type "enumerate", data := .fields #[.none, .bool false, .ref s.heap.objs.size, rawInt 0, .none, .none] }) (s.heap.objs.size + 1) s.heap.objs.size 0 .none := by
    have := Heap.get?_push_size (s.heap.push { cls := .type "tuple_iterator", data := .fields #[.ref t, .int 0 0] })
      (o := { cls := .type "enumerate", data := .fields #[.none, .bool false, .ref s.heap.objs.size, rawInt 0, .none, .none] }) rfl
    rw [hz] at this; exact this
  refine ⟨⟨_, he, rfl⟩, h _ he ⟨_, Heap.get?_push_of_some _ (Heap.get?_push_size _ rfl), rfl, rfl⟩ (by rw [Heap.size_push, hz]) fun b o x => Heap.get?_push_of_some _ (Heap.get?_push_of_some _ x)⟩
end PySem
namespace DL
open PySem PySem.Spec PyProof.Rows L2
/-- the tuple at a, each item in a new pair -/
def IteT (K : PySem.W.Frag) (a : Addr) : It :=
  ⟨fun i H => ∃ (xs : List V) (x : V), SqT K H a xs ∧ xs[i]? = some x, fun i H v H' => ∃ T x, v = .ref T ∧ H T = none ∧ H' = upd H T (.tup [.int (i : Nat), x]) ∧ ∀ xs, SqT K H a xs → xs[i]? = some x, fun i H => ∃ xs : List V, SqT K H a xs ∧ xs.length ≤ i⟩
theorem turn_enumT {P : Program} {w : World} {K : PySem.W.Frag} {elts : List Expr} {kk : Nat} {tpos : Pos} (a e it : Addr) :
    Turn P w K (.Tuple elts kk tpos) (IteT K a) [e, it] e (fun i h => (∃ old, IsEnum h e it ((i : Nat) : Int) old) ∧ h.IsTupleIter it a i ∧ e ≠ it ∧ a ≠ it ∧ a ≠ e) where
  mem := by simp
  obj := fun i h st b hb => by
    obtain ⟨⟨old, he⟩, ⟨o, ho, hc, hd⟩, _⟩ := st
    have e' : b = e ∨ b = it := by simpa using hb
    rcases e' with z | z
    · rw [z]; exact ⟨_, he, fun v q => nomatch q⟩
    · rw [z]; exact ⟨o, ho, fun v q => by rw [hd] at q; cases q⟩
  keep := fun i h h' st k => let ⟨⟨old, he⟩, hi, hne⟩ := st; ⟨⟨old, k e (by simp) _ he⟩, hi.at fun o q => k it (by simp) o q, hne⟩
  item := by
    intro X hP hw hK hc i pins s σ H E I hf st hg
    subst hP hw hK
    obtain ⟨⟨old, he⟩, hit, hne, hai, hae⟩ := st
    obtain ⟨xs, x, hq, hx⟩ := hg
    obtain ⟨its, rv, p, hz⟩ := I.tuple hq
    obtain ⟨u, hu, ru⟩ := rv.get hx
    have hel : e < s.heap.objs.size := Heap.lt_size he
    have hil : it < s.heap.objs.size := by obtain ⟨_, q, _⟩ := hit; exact Heap.lt_size q
    have hilt : i < its.toArray.size := by
      have := (List.getElem?_eq_some_iff.mp hu).1
      simpa using this
    refine wpAny_pyNext_enum_itemD (Draws.tuple (A := X.A.in1) (I.ok.hd hc) it a hai its.toArray) he ⟨hit, p⟩ hilt hne (by
      simp only [List.mem_cons, List.not_mem_nil, or_false, not_or]
      exact ⟨hne, Ne.symm hae⟩) fun x' h' tk hx' ho hst' hT hsz hk => ?_
    have ex : x' = u := by
      have e1 : its.toArray[i]? = some u := by simpa using hu
      rw [e1] at hx'
      exact (Option.some.inj hx').symm
    subst ex
    refine ⟨_, rfl, wpAny_letOwnedTupleGo_enum (s := { s with heap := h', toks := tk + 1 }) ho fun h'' he' sb => ?_⟩
    have hT2 : h''.get? s.heap.objs.size = some { cls := .type "tuple", data := .seq #[.int i tk, x'] } := (sb.2 _ (Nat.ne_of_gt hel)).trans hT
    have new : ObjOk X.prog X.w (upd H s.heap.objs.size (.tup [.int (i : Nat), x])) h'' s.heap.objs.size (.tup [.int (i : Nat), x]) :=
      ⟨by show 2 ≤ sizeLine; decide, [.int i tk, x'], .cons ⟨_, rfl⟩ (.cons ru .nil), ⟨_, hT2, rfl, _, rfl⟩⟩
    have I1 : Inv X pins σ (upd H s.heap.objs.size (.tup [.int (i : Nat), x])) { s with heap := h'', toks := tk + 1 } :=
      I.turnedNew (ch := [e, it]) (fun b ob hb q => (sb.2 b (fun z => hb (by simp [z]))).trans (hk b ob (fun z => hb (by simp [z])) (fun z => hb (by simp [z])) q)) hf (Nat.le_refl _) new
    refine ⟨.ref s.heap.objs.size, _, I1, rfl, ⟨_, x, rfl, I.hok.fresh (Nat.le_refl _), rfl, fun ys hy => by rw [I.tuple_inj hy hq]; exact hx⟩, ⟨⟨x', ?_⟩, hst'.1.at fun o q => (sb.2 it (Ne.symm hne)).trans q, hne, hai, hae⟩, fun b hb => ?_⟩
    · have e1 : ((i + 1 : Nat) : Int) = (i : Int) + 1 := by omega
      rw [e1]; exact he'
    · have hb' : b < s.heap.objs.size := by
        have e' : b = e ∨ b = it := by simpa using hb
        rcases e' with z | z
        · rw [z]; exact hel
        · rw [z]; exact hil
      rw [upd_ne (Nat.ne_of_lt hb')]
      exact (hf b hb).1
  done := by
    intro X hP hw hK hc i pins s σ H E I hf st hg
    subst hP hw hK
    obtain ⟨⟨old, he⟩, hit, hne, hai, hae⟩ := st
    obtain ⟨xs, hq, hx⟩ := hg
    obtain ⟨its, rv, p, hz⟩ := I.tuple hq
    obtain ⟨f0, f1, f2, f3, f4, f5⟩ := hf it (by simp)
    have hl := rv.length
    have hT : s.TypeIs (.ref e) "enumerate" := ⟨_, he, rfl⟩
    unfold pyNext
    refine wpAny_bind (wpAny_attempt (wpAny_callSpecial?_slot (name := Str.ofString "__next__") hT F.slot_enumerate_next
      (wpAny_call_entry F.slot_enumerate_next hT F.entry_enumerate_next ?_ (F.args_enumerate_next_1 _))))
    show wpAny _ _ (field (.ref e) 2 >>= _) _ _ _
    refine wpAny_bind (wpAny_field he rfl (x := .ref it) rfl ?_)
    refine wpAny_bind (wpAny_nextOf_tuple_end (I.ok.hd hc) hit (show s.heap.IsTuple a its.toArray from p) (by simp; omega) fun h' x he' hx' => ?_)
    obtain ⟨o, ho, hc⟩ := hx'
    refine wpAny_bind (wpAny_isInstance (T := "StopIteration") (b := true) ⟨o, ho, hc⟩ isSubtype_stop ?_)
    exact wpAny_pure ⟨rfl, I.turned (t' := s.toks) (fun b o hb q => he' b o hb q) f0 f1 f3 f4 f5⟩
  self := fun A i s Q E st h => let ⟨⟨_, he⟩, _⟩ := st; wpAny_pyIter_enum he h
/-- enumerate(a list or a tuple) -/
def iEnumA (K : PySem.W.Frag) (ta : TA) : TI := fun σ H R => ta σ H fun vs H1 => ∃ a xs, vs = [.ref a] ∧ ((SqL K H1 a xs ∧ R (Ite K a) H1) ∨ (SqT K H1 a xs ∧ R (IteT K a) H1))
theorem pi_enumA {X : Cx} {e : Expr} {ta : TA} {p pos tpos : Pos} {elts : List Expr} {kk : Nat} (hg : Gl X "enumerate") (hm : X.mg "enumerate" = none) (ha : PA X [e] ta) (hs : starEach [e] X.env = [(false, eval e X.env)] := by rfl) :
    PI X (.Tuple elts kk tpos) (.Call (.Name "enumerate" p) [e] [] pos) (iEnumA X.K ta) := by
  refine ⟨fun pins s σ H R I h => ?_⟩
  refine Call_ (ld_blt I hg hm boot_enumerate (PyProof.Rows.callWith_type1 (thn (ha.run pos pins s σ H _ I h) fun us s1 ⟨vs, H1, I1, r1, q1⟩ => ?_) hs rfl))
  obtain ⟨a, xs, ex, q⟩ := q1
  subst ex
  cases r1 with
  | cons r rr =>
    cases rr
    cases r
    rcases q with ⟨hq, q⟩ | ⟨hq, q⟩
    · obtain ⟨its, rv, p', hz⟩ := I1.list hq
      refine call_enumerate_list p'.isList fun h' he hit hsz hk => wpAny_pyIter_enum he ?_
      have I2 : Inv X pins σ H1 { s1 with heap := h' } := I1.kept (t' := s1.toks) hk
      refine ⟨s1.heap.objs.size + 1, [s1.heap.objs.size + 1, s1.heap.objs.size], _, _, H1, rfl, I2, turn_enum a (s1.heap.objs.size + 1) s1.heap.objs.size, ⟨⟨.none, he⟩, hit, Nat.succ_ne_self _⟩, fun b hb => ?_, q⟩
      have e' : b = s1.heap.objs.size + 1 ∨ b = s1.heap.objs.size := by simpa using hb
      have hle : s1.heap.objs.size ≤ b := by
        rcases e' with z | z
        · rw [z]; exact Nat.le_add_right _ _
        · rw [z]; exact Nat.le_refl _
      exact I1.fpOk hle (I1.hok.fresh hle)
    · obtain ⟨its, rv, p', hz⟩ := I1.tuple hq
      have pl : a < s1.heap.objs.size := by obtain ⟨o, q, _⟩ := p'; exact Heap.lt_size q
      refine call_enumerate_tuple (show s1.heap.IsTuple a its.toArray from p') fun h' he hit hsz hk => wpAny_pyIter_enum he ?_
      have I2 : Inv X pins σ H1 { s1 with heap := h' } := I1.kept (t' := s1.toks) hk
      refine ⟨s1.heap.objs.size + 1, [s1.heap.objs.size + 1, s1.heap.objs.size], _, _, H1, rfl, I2, turn_enumT a (s1.heap.objs.size + 1) s1.heap.objs.size, ⟨⟨.none, he⟩, hit, Nat.succ_ne_self _, Nat.ne_of_lt pl, Nat.ne_of_lt (Nat.lt_succ_of_lt pl)⟩, fun b hb => ?_, q⟩
      have e' : b = s1.heap.objs.size + 1 ∨ b = s1.heap.objs.size := by simpa using hb
      have hle : s1.heap.objs.size ≤ b := by
        rcases e' with z | z
        · rw [z]; exact Nat.le_add_right _ _
        · rw [z]; exact Nat.le_refl _
      exact I1.fpOk hle (I1.hok.fresh hle)
end DL
set_option Elab.async false
set_option linter.all false
set_option maxRecDepth 100000
set_option maxHeartbeats 2000000
set_option autoImplicit false
namespace DL
open PySem PySem.Spec PyProof.Rows L2
section
variable {X : Cx} {c : Dx}
/-! ### walks of anything -/
def iAny (K : PySem.W.Frag) (tl : TE) : TI := fun σ H R => tl σ H fun x H1 =>
  (∃ a xs, x = .ref a ∧ SqL K H1 a xs ∧ R (Itl K a) H1) ∨ (∃ a xs, x = .ref a ∧ SqT K H1 a xs ∧ R (Itt K a) H1) ∨ (∃ y, x = .str y ∧ R (Its y) H1) ∨ ∃ d o kvs, x = .ref d ∧ H1 d = some (.frz o (.dK kvs)) ∧ R (Itk d o kvs) H1
theorem pi_any {tg l : Expr} {tl : TE} (hl : PE X l tl) : PI X tg l (iAny X.K tl) := by
  refine ⟨fun pins s σ H R I h => ?_⟩
  refine thn (hl.run pins s σ H _ I h) fun v s1 ⟨x, H1, I1, r1, q1⟩ => ?_
  rcases q1 with ⟨a, xs, e, hq, q⟩ | ⟨a, xs, e, hq, q⟩ | ⟨y, e, q⟩ | ⟨d, o, kvs, e, hd, q⟩
  · subst e
    cases r1
    obtain ⟨its, rv, p, hz⟩ := I1.list hq
    exact wpAny_pyIter_list p.isList (pi_one (tk := s1.toks) I1 _ (turn_list a _) ⟨_, Heap.get?_push_size _ rfl, rfl, rfl⟩ q)
  · subst e
    cases r1
    obtain ⟨its, rv, p, hz⟩ := I1.tuple hq
    exact wpAny_pyIter_tuple (show s1.heap.IsTuple a its.toArray from p) (pi_one (tk := s1.toks) I1 _ (turn_tuple a _) ⟨_, Heap.get?_push_size _ rfl, rfl, rfl⟩ q)
  · subst e
    obtain ⟨t, rfl⟩ := r1
    cases ha : y.cps.all (· < 128)
    · exact wpAny_pyIter_wide ha (pi_one (tk := s1.toks) I1 _ (turn_str _ y t "str_iterator" (.inr rfl)) ⟨_, Heap.get?_push_size _ rfl, rfl, rfl⟩ q)
    · exact wpAny_pyIter_ascii ha (pi_one (tk := s1.toks) I1 _ (turn_str _ y t "str_ascii_iterator" (.inl rfl)) ⟨_, Heap.get?_push_size _ rfl, rfl, rfl⟩ q)
  · subst e
    cases r1
    obtain ⟨hs, hgd, hx, es, ep, vs, hdt, hsz, kv, hm⟩ := I1.frzK hd
    refine iter_keys hs hgd hx hdt (pi_one (tk := s1.toks) I1 _ (turn_keys _ hdt) ⟨_, Heap.get?_push_size _ rfl, rfl, ?_⟩ q)
    rw [hsz] <;> rfl
def kD : Key → D
  | .inl i => .int i
  | .inr x => .str x
def signsD (x : Str) : List D := x.cps.toList.map fun ch => D.str ⟨#[ch]⟩
def itemsOf : D → Option (List D)
  | .lst xs => some xs
  | .tup xs => some xs
  | .str x => some (signsD x)
  | .dct kvs => some (kvs.map fun p => kD p.1)
  | _ => none
theorem dat_key {K : PySem.W.Frag} {F : Hp} (k : Key) : Dat K F (kV k) (kD k) := by
  cases k with
  | inl i => exact .int i
  | inr x => exact .str x
@[simp] def dIt (de : DE) : DA := fun ρ P => de ρ fun d => ∃ xs, itemsOf d = some xs ∧ P xs
theorem walks_str {F : Hp} {x : Str} : WalksD X c F (Its x) (signsD x) := by
  intro F2 H2 e G i
  refine ⟨fun d hd => ?_, fun hi => ?_⟩
  · unfold signsD at hd
    rw [List.getElem?_map] at hd
    cases hc : x.cps.toList[i]? with
    | none => rw [hc] at hd; simp at hd
    | some ch =>
      rw [hc] at hd
      simp only [Option.map_some, Option.some.injEq] at hd
      subst hd
      have hlt : i < x.cps.size := by
        have := (List.getElem?_eq_some_iff.mp hc).1
        simpa using this
      refine ⟨hlt, fun y H' q => ?_⟩
      obtain ⟨rfl, ch', h1, rfl⟩ := q
      have e1 : x.cps[i]? = some ch := by rw [← hc]; simp
      rw [h1] at e1
      obtain rfl := Option.some.inj e1
      exact ⟨F2, G.rfl, .str _⟩
  · show x.cps.size ≤ i
    simpa [signsD] using hi
theorem DatK.at {K : PySem.W.Frag} {F : Hp} : ∀ {v : List (Key × V)} {d : List (Key × D)} {i : Nat} {p : Key × D}, DatK K F v d → d[i]? = some p → ∃ u, v[i]? = some (p.1, u) ∧ Dat K F u p.2
  | _, _, _, _, .nil, e => by simp at e
  | _, _, 0, p, .cons h _, e => by
    simp at e
    subst e
    exact ⟨_, rfl, h⟩
  | _, _, i + 1, p, .cons _ k, e => by
    obtain ⟨u, h1, h2⟩ := DatK.at (i := i) (p := p) k (by simpa using e)
    exact ⟨u, by simpa using h1, h2⟩
theorem walks_keys {F : Hp} {d : Addr} {o : Obj} {vs : List (Key × V)} {ds : List (Key × D)} (hd : F d = some (.frz o (.dK vs))) (hk : DatK X.K F vs ds) : WalksD X c F (Itk d o vs) (ds.map fun p => kD p.1) := by
  intro F2 H2 e G i
  have hd2 := G.sub _ _ (e _ _ hd)
  refine ⟨fun x hx => ?_, fun hi => ⟨hd2, by rw [hk.length]; simpa using hi⟩⟩
  rw [List.getElem?_map] at hx
  cases q : ds[i]? with
  | none => rw [q] at hx; simp at hx
  | some p =>
    rw [q] at hx
    simp only [Option.map_some, Option.some.injEq] at hx
    subst hx
    obtain ⟨u, h1, _⟩ := hk.at q
    refine ⟨⟨hd2, (List.getElem?_eq_some_iff.mp h1).1⟩, fun y H' r => ?_⟩
    obtain ⟨rfl, k, v, h2, rfl⟩ := r
    rw [h1] at h2
    cases h2
    exact ⟨F2, G.rfl, dat_key p.1⟩
theorem pid_any {tg l : Expr} {de : DE} (h : PD X c l de) : PId X c tg l (dIt de) := by
  refine ⟨impI (pi_any h.pe) fun σ H Q q => ?_, fun ρ P P' m => h.mono ρ _ _ fun d ⟨xs, e, p⟩ => ⟨xs, e, m _ p⟩⟩
  obtain ⟨F, ρ, a, q⟩ := q
  refine ⟨F, ρ, a, h.mono _ _ _ (fun d q v F1 H1 f1 d1 => ?_) q⟩
  obtain ⟨xs, e, q⟩ := q
  cases d1 with
  | lst hs hl => cases e; exact .inl ⟨_, _, rfl, .of (f1.good.sub _ _ hs), q _ F1 H1 f1 (walks_list rfl (.of hs) hl)⟩
  | tup hs hl => cases e; exact .inr (.inl ⟨_, _, rfl, sqT_mono f1.good.sub hs, q _ F1 H1 f1 (walks_tup rfl hs hl)⟩)
  | str x => cases e; exact .inr (.inr (.inl ⟨_, rfl, q _ F1 H1 f1 walks_str⟩))
  | dct hd hk => cases e; exact .inr (.inr (.inr ⟨_, _, _, rfl, f1.good.sub _ _ hd, q _ F1 H1 f1 (walks_keys hd hk)⟩))
  | _ => cases e
/-- enumerate(l) -/
def enumD : Nat → List D → List D
  | _, [] => []
  | n, x :: r => .tup [.int (n : Int), x] :: enumD (n + 1) r
theorem enumD_len : ∀ (n : Nat) (l : List D), (enumD n l).length = l.length
  | _, [] => rfl
  | n, _ :: r => by simp [enumD, enumD_len (n + 1) r]
theorem enumD_get : ∀ (n : Nat) (l : List D) (i : Nat), (enumD n l)[i]? = l[i]?.map fun x => D.tup [.int ((n + i : Nat) : Int), x]
  | n, [], i => by simp [enumD]
  | n, x :: r, 0 => by simp [enumD]
  | n, x :: r, i + 1 => by
    simp only [enumD, List.getElem?_cons_succ, enumD_get (n + 1) r i]
    rw [show n + 1 + i = n + (i + 1) by omega]
@[simp] def dEn (da : DA) : DA := fun ρ P => da ρ fun ds => ∃ xs, (ds = [.lst xs] ∨ ds = [.tup xs]) ∧ P (enumD 0 xs)
theorem walks_enum {F : Hp} {J : It} {vs : List V} {xs : List D} (hl : DatL X.K F vs xs) (hgo : ∀ F1 H1, Same F F1 → Good c.W F1 H1 → ∀ i x, vs[i]? = some x → J.go i H1 ∧ ∀ v H', J.yld i H1 v H' → ∃ T, v = .ref T ∧ H1 T = none ∧ H' = upd H1 T (.tup [.int (i : Nat), x]))
    (hst : ∀ F1 H1, Same F F1 → Good c.W F1 H1 → ∀ i, vs.length ≤ i → J.stop i H1) : WalksD X c F J (enumD 0 xs) := by
  intro F1 H1 e G i
  refine ⟨fun d hd => ?_, fun hi => hst F1 H1 e G i (by rw [hl.length]; rw [enumD_len] at hi; exact hi)⟩
  rw [enumD_get] at hd
  cases q : xs[i]? with
  | none => rw [q] at hd; simp at hd
  | some y =>
    rw [q] at hd
    simp only [Option.map_some, Option.some.injEq, Nat.zero_add] at hd
    subst hd
    obtain ⟨v, h1, h2⟩ := hl.get q
    obtain ⟨g, k⟩ := hgo F1 H1 e G i v h1
    refine ⟨g, fun u H' yl => ?_⟩
    obtain ⟨T, rfl, hT, rfl⟩ := k u H' yl
    have f := G.laid (o := .tup [.int (i : Nat), v]) hT
    exact ⟨_, f, .tup (.of upd_same) (.cons (.int _) (.cons (h2.mono (e.trans f.grow)) .nil))⟩
theorem pid_enum {e : Expr} {da : DA} {p pos tpos : Pos} {elts : List Expr} {kk : Nat} (hg : Gl X "enumerate") (hm : X.mg "enumerate" = none) (ha : PDA X c [e] da) (hs : starEach [e] X.env = [(false, eval e X.env)] := by rfl) :
    PId X c (.Tuple elts kk tpos) (.Call (.Name "enumerate" p) [e] [] pos) (dEn da) := by
  refine ⟨impI (pi_enumA hg hm ha.pa hs) fun σ H Q q => ?_, fun ρ P P' m => ha.mono ρ _ _ fun d ⟨xs, e, p⟩ => ⟨xs, e, m _ p⟩⟩
  obtain ⟨F, ρ, a, q⟩ := q
  refine ⟨F, ρ, a, ha.mono _ _ _ (fun ds q vs F1 H1 f1 d1 => ?_) q⟩
  obtain ⟨xs, e, q⟩ := q
  rcases e with rfl | rfl
  · obtain ⟨v, rfl, hv⟩ := datL1 d1
    cases hv with
    | @lst a us _ hs hl =>
      refine ⟨_, us, rfl, .inl ⟨.of (f1.good.sub _ _ hs), q _ F1 H1 f1 (walks_enum hl (fun F2 H2 e G i x hx => ?_) fun F2 H2 e G i hi => ?_)⟩⟩
      · have h2 := SqL.of (K := X.K) (G.sub _ _ (e _ _ hs))
        refine ⟨⟨us, x, h2, hx⟩, fun v H' y => ?_⟩
        obtain ⟨T, x', rfl, hT, rfl, k⟩ := y
        have e1 := k us h2
        rw [hx] at e1
        cases e1
        exact ⟨T, rfl, hT, rfl⟩
      · exact ⟨us, SqL.of (K := X.K) (G.sub _ _ (e _ _ hs)), hi⟩
  · obtain ⟨v, rfl, hv⟩ := datL1 d1
    cases hv with
    | @tup a us _ hs hl =>
      refine ⟨_, us, rfl, .inr ⟨sqT_mono f1.good.sub hs, q _ F1 H1 f1 (walks_enum hl (fun F2 H2 e G i x hx => ?_) fun F2 H2 e G i hi => ?_)⟩⟩
      · have h2 := sqT_mono (G.sub) (sqT_mono e hs)
        refine ⟨⟨us, x, h2, hx⟩, fun v H' y => ?_⟩
        obtain ⟨T, x', rfl, hT, rfl, k⟩ := y
        have e1 := k us h2
        rw [hx] at e1
        cases e1
        exact ⟨T, rfl, hT, rfl⟩
      · exact ⟨us, sqT_mono (G.sub) (sqT_mono e hs), hi⟩
/-! ### dicts read -/
/-! ### new dicts, kept at once -/
def pairD (p : Key × D) : D := .tup [kD p.1, p.2]
def fDict : FN := fun ds P => (∃ kvs, ds = [.dct kvs] ∧ P (.dct kvs)) ∨ ∃ ps : List (Key × D), ds = [.lst (ps.map pairD)] ∧ P (.dct (mergeD [] ps))
def fDictOf (ds : List D) (kvs : List (Key × D)) : Prop := ds = [.dct kvs] ∨ ∃ ps : List (Key × D), ds = [.lst (ps.map pairD)] ∧ kvs = mergeD [] ps
@[simp] def dDict (da : DA) : DE := fun ρ P => da ρ fun ds => ∃ kvs, fDictOf ds kvs ∧ P (.dct kvs)
/-- {k: v, ..} -/
@[simp] def dPairs : List (DE × DE) → List Sl → (List (D × D) → Prop) → Prop
  | [], _, P => P []
  | (dk, dv) :: r, ρ, P => dk ρ fun x => dv ρ fun y => dPairs r ρ fun ps => P ((x, y) :: ps)
@[simp] def dDisp (dens : List (DE × DE)) : DE := fun ρ P => dPairs dens ρ fun ps => ∃ kvs : List (Key × D), ps = kvs.map (fun p => (kD p.1, p.2)) ∧ kvs.length ≤ 15 ∧ P (.dct (mergeD [] kvs))
end
end DL
set_option Elab.async false
set_option linter.all false
set_option maxRecDepth 100000
set_option maxHeartbeats 2000000
set_option autoImplicit false
/-! promises without more, calls by them, objects of one's own -/
namespace DL
open PySem PySem.Spec PyProof.Rows L2
abbrev noX : Addr → List (Str × D) → Prop := fun _ _ => False
/-- a promise by values, of a def that lets nothing out -/
def spZ (K : PySem.W.Frag) (g : GX) : Sp := fun vs H Q _ => ∃ W F ds Pd, Good W F H ∧ DatL K F vs ds ∧ g W ds Pd noX ∧ ∀ d, Pd d → ∀ v F' H', Fr W F H F' H' → Dat K F' v d → Q v H'
/-- a promise, whatever is wanted behind it -/
def cl (g : GX) (W : Option Addr) (ds : List D) (P : D → Prop) : Prop := ∃ Pd, g W ds Pd noX ∧ ∀ d, Pd d → P d
theorem cl_of {g : GX} {W : Option Addr} {ds : List D} {P : D → Prop} (h : g W ds P noX) : cl g W ds P := ⟨P, h, fun _ p => p⟩
theorem cl_eq {g : GX} {W : Option Addr} {ds : List D} {r : D} (h : ∀ P, g W ds P noX = P r) {P : D → Prop} : cl g W ds P = P r := by
  apply propext
  constructor
  · rintro ⟨Pd, q, m⟩
    rw [h] at q
    exact m _ q
  · intro p
    refine cl_of ?_
    rw [h]
    exact p
@[simp] def dCl (g : GX) (W : Option Addr) (dds : List D) (da : DA) : DE := fun ρ P => da ρ fun ds => cl g W (ds ++ dds) P
section
variable {X : Cx} {c : Dx}
theorem mono_dCl {g : GX} {W : Option Addr} {dds : List D} {da : DA} (ma : Mono da) : Mono (dCl g W dds da) := fun ρ P P' m => ma ρ _ _ fun ds ⟨Pd, q, k⟩ => ⟨Pd, q, fun d p => m _ (k d p)⟩
theorem cl_sp {g : GX} {F H : Hp} (G : Good c.W F H) {vs : List V} {ds : List D} (dv : DatL X.K F vs ds) {P : D → Prop} {Q : VK} {E : XK} (h : cl g c.W ds P) (hq : ∀ d v F' H', P d → Fr c.W F H F' H' → Dat X.K F' v d → Q v H') : spZ X.K g vs H Q E := by
  obtain ⟨Pd, q, m⟩ := h
  exact ⟨c.W, F, ds, Pd, G, dv, q, fun d p v F' H' f dd => hq d v F' H' (m d p) f dd⟩
section
variable {k : Nat} {f : Addr} {fd : FuncData} {ps : List Str} {g : GX} {dvs : List V} {dds : List D} {ds0 : List Value} {x : Str} {p pos : Pos} {e : Expr} {es : List Expr} {da : DA}
/-- f(e, ..) -/
theorem pd_callZ (F : FnOk X.prog X.w X.K X.mg X.base CX0 k f fd ps (spZ X.K g)) (hr : Room k X.A) (hg : Gl X x) (hm : X.mg x = some (.ref f)) (hk : PySem.W.keepIn X.K (.ref f) = true) (hb : Binds X.K fd ps ds0) (hd : Vals dvs ds0) (hdd : ∀ F, DatL X.K F dvs dds)
    (ha : PDA X c (e :: es) da) (hdb : (x == ("__debug__" : Str)) = false := by decide) (he : starEach (e :: es) X.env = (false, eval e X.env) :: starEach es X.env := by rfl) (hpl : (backTo pos (starEach es X.env)).any (·.1) = false := by rfl) :
    PD X c (.Call (.Name x p) (e :: es) [] pos) (dCl g c.W dds da) := by
  refine ⟨imp (pe_call (E := E0) F hr hg hm hk hb hd pass0 ha.pa hdb he hpl) fun σ H Q q => ?_, mono_dCl ha.mono⟩
  obtain ⟨F1, ρ, a, q⟩ := q
  refine ⟨F1, ρ, a, ha.mono _ _ _ (fun ds q vs F2 H2 f2 d2 => ?_) q⟩
  exact cl_sp f2.good (d2.append (hdd F2)) q fun d v F' H' p f3 dd => p v F' H' (f2.trans f3) dd
/-- o.m(e, ..) -/
@[simp] def dMeth (C : Addr) (m : Str) (g : GX) (W : Option Addr) (dds : List D) (de : DE) (da : DA) : DE := fun ρ P => de ρ fun o => ∃ fs, o = .ins C fs ∧ fs.lookup m = none ∧ da ρ fun ds => cl g W (o :: (ds ++ dds)) P
end
end
section
variable {P : Program} {w : World} {K : PySem.W.Frag} {mg : Str → Option Value} {base : Heap}
/-- the start of a def's slots -/
abbrev slots0 (N : List Str) (ds : List D) : List Sl := ds.map Sl.fz ++ List.replicate (N.length - ds.length) Sl.un
/-- what a def's body does, as its promise -/
def gOf (n : Nat) (N : List Str) (den : Option Addr → DS) : GX := fun W ds P _ => ds.length = n ∧ den W ⟨fun _ => P .non, P, fun _ => False, fun _ => False, fun _ => False⟩ (slots0 N ds)
/-- THE RULE for a def: its promise is what its body does -/
theorem okZ {x qual : Str} {st : Stmt} {f : Addr} {fd : FuncData} {N ps : List Str} {k : Nat} {den : Option Addr → DS} (F : Fun K x qual st f fd) (S : FnScope N ps (defScope st))
    (hbody : ∀ (cdv : Value) (A : Around) (outer : List Env) (s : Shared) (H : Hp) (E : XK) (W : Option Addr) (F0 : Hp), Room k (A.deeper (envOfC qual (defScope st) s.heap.objs.size f cdv)) →
      PSsd ((cxOf CX0 P w K mg base N qual (defScope st) f cdv A outer s H E).nox) ⟨W, F0, H, noX⟩ (defBody st) (den W)) : FnOk P w K mg base CX0 (k + 1) f fd ps (spZ K (gOf ps.length N den)) := by
  refine F.ok S (fun vs H Q E h => ?_) (fun cdv A outer s H vs Q E hr h => ?_)
  · obtain ⟨W, F0, ds, _, _, d, q, _⟩ := h
    rw [d.length]
    exact q.1
  · obtain ⟨W, F0, ds, Pd, G, d, q, k⟩ := h
    exact ⟨_, (hbody cdv A outer s H E W F0 hr).ps, body_in rfl G d k q.2⟩
end
/-! ### an object of one's own -/
section
variable {X : Cx} {c : Dx}
/-- o.f = e -/
@[simp] def dFset (i : Nat) (C : Addr) (f : Str) (de : DE) : DS := fun De ρ => de ρ fun d => ∃ x fs, ρ[i]? = some (.own (.obj x C fs)) ∧ fs.length < 1000 ∧ De.nx (ρ.set i (.own (.obj x C (setF f d fs))))
theorem psd_fset {i : Nat} {C : Addr} {f : Str} {o value : Expr} {de : DE} {pos pos' : Pos} (ho : PE X o (tVar i)) (hC : Cls X.K C) (hn : NoAttr X.K C f) (hv : PD X c value de) (hs : swapsWith value (some (.Attribute o f pos')) pos.line X.env = pure false := by rfl) :
    PSd X c (.Assign [.Attribute o f pos'] value pos) (dFset i C f de) := ⟨impS (ps_fld ho hv.pe hs) fun D σ H q => by
  obtain ⟨F, ρ, De, a, l, q⟩ := q
  refine ⟨F, ρ, a, hv.mono _ _ _ (fun d q v F1 H1 f1 d1 => ?_) q⟩
  obtain ⟨x, fs, e, hl, q⟩ := q
  have a1 := a.fr f1
  obtain ⟨x', as, h1, fr, ho⟩ := a1.sl.own e
  cases ho with
  | @obj _ _ dx vs _ hx hf =>
    obtain ⟨n1, w1, h0⟩ := fr x (by simp)
    refine ⟨_, h1, x, C, dx, vs, rfl, hx, hC, hn, by rw [hf.length]; exact hl, ?_⟩
    exact l.nx _ _ F1 _ q f1.grow ⟨own_upd a1.en n1 w1 h0, a1.sl.change e h1 fr (.obj hx hf) upd_off (.obj upd_same (hf.put d1))⟩⟩
/-- the object is kept from now on -/
@[simp] def dKeepO (i : Nat) (d : DS) : DS := fun De ρ => ∃ x C fs, ρ[i]? = some (.own (.obj x C fs)) ∧ d De (ρ.set i (.fz (.ins C fs)))
end
/-- what __init__ promises: of its arguments, the fields that it leaves -/
abbrev GI := Option Addr → List D → (List (Str × D) → Prop) → Prop
def spI (K : PySem.W.Frag) (C : Addr) (g : GI) : Sp := fun vs H Q _ => ∃ W F H1 p dx us ds Pd, vs = .ref p :: us ∧ Good W F H1 ∧ Good W F H ∧ H p = some (.ins C dx []) ∧ H1 p = none ∧ (∀ y o, H1 y = some o → H y = some o) ∧ DatL K F us ds ∧ g W ds Pd ∧
  ∀ fs, Pd fs → ∀ dx' vs' F' H', Fr W F H1 F' H' → F' p = none → H' p = some (.ins C dx' vs') → DatF K F' vs' fs → Q .non H'
def gInit (C : Addr) (n : Nat) (N : List Str) (den : Option Addr → DS) : GI := fun W ds P => ds.length + 1 = n ∧ ∀ x, den W ⟨fun ρ => ∃ fs, ρ[0]? = some (.own (.obj x C fs)) ∧ P fs, fun _ => False, fun _ => False, fun _ => False, fun _ => False⟩ (.own (.obj x C []) :: (ds.map Sl.fz ++ List.replicate (N.length - n) Sl.un))
section
variable {P : Program} {w : World} {K : PySem.W.Frag} {mg : Str → Option Value} {base : Heap}
theorem slots_init {W : Option Addr} {H0 F H : Hp} {N : List Str} {p C dx : Addr} {us : List V} {ds : List D} (d : DatL K F us ds) (Fp : F p = none) (Wp : W ≠ some p) (h0 : H0 p = none) (hp : H p = some (.ins C dx [])) :
    Slots K W H0 F H (start N (.ref p :: us)) (.own (.obj p C []) :: (ds.map Sl.fz ++ List.replicate (N.length - (ds.length + 1)) Sl.un)) := by
  have s := slots_start (K := K) (W := W) (H0 := H0) (F := F) (H := H) (N := N) (vs := .ref p :: us) (ds := .adr p :: ds) (.cons (.adr p) d)
  have s2 := s.put 0 (o := .obj p C []) (a := p) (as := [p]) (fun q hq => by rw [List.mem_singleton.mp hq]; exact ⟨Fp, Wp, h0⟩) (.obj hp .nil) fun j o2 a2 as2 hj h2 => by
    exfalso
    have hm := List.mem_of_getElem? h2
    rcases List.mem_append.mp hm with z | z
    · obtain ⟨a, _, e⟩ := List.mem_map.mp z
      cases e
    · have := List.eq_of_mem_replicate z
      cases this
  exact s2
theorem okI {x qual : Str} {params : Arguments} {body : List Stmt} {scope : Scope} {dvs : List V} {kws : List (Str × V)} {f C : Addr} {fd : FuncData} {N ps : List Str} {k : Nat} {den : Option Addr → DS} (F : FunD K x qual params body scope dvs kws f fd) (S : FnScope N ps scope) (hN : 0 < N.length)
    (hbody : ∀ (cdv : Value) (A : Around) (outer : List Env) (s : Shared) (H : Hp) (E : XK) (W : Option Addr) (F0 H0 : Hp), Room k (A.deeper (envOfC qual scope s.heap.objs.size f cdv)) →
      PSsd ((cxOf CX0 P w K mg base N qual scope f cdv A outer s H E).nox) ⟨W, F0, H0, noX⟩ body (den W)) : FnOk P w K mg base CX0 (k + 1) f fd ps (spI K C (gInit C ps.length N den)) := by
  refine F.ok S (fun vs H Q E h => ?_) (fun cdv A outer s H vs Q E hr h => ?_)
  · obtain ⟨W, F0, H1, p, dx, us, ds, Pd, rfl, _, _, _, _, _, d, q, _⟩ := h
    rw [List.length_cons, d.length]
    exact q.1
  · obtain ⟨W, F0, H1, p, dx, us, ds, Pd, rfl, G1, G, hp, hp1, hold, hd, hg, kq⟩ := h
    have Fp : F0 p = none := G1.free hp1
    have Wp : W ≠ some p := fun z => by
      obtain ⟨_, i, j, l, e⟩ := G.well p z
      rw [hp] at e
      cases e
    have en : Fr W F0 (fun y => if y = p then none else H y) F0 H := by
      refine ⟨G.sub, Same.refl F0, fun y o e _ => ?_, fun y o e => .inl e, G.well⟩
      by_cases z : y = p
      · rw [if_pos z] at e; cases e
      · rw [if_neg z] at e; exact e
    have h0p : (fun y => if y = p then none else H y) p = none := if_pos rfl
    refine ⟨_, (hbody cdv A outer s H E W F0 (fun y => if y = p then none else H y) hr).ps.nox, F0, _, ⟨fun ρ => ∃ fs, ρ[0]? = some (.own (.obj p C fs)) ∧ Pd fs, fun _ => False, fun _ => False, fun _ => False, fun _ => False⟩, ⟨en, slots_init hd Fp Wp h0p hp⟩, ⟨fun ρ' σ' F' H' p' _ a => ?_, fun _ _ _ _ z => z.elim, fun _ _ _ _ z => z.elim, fun _ _ _ _ z => z.elim, fun _ _ _ _ _ z => z.elim⟩, ?_⟩
    · obtain ⟨fs, e, pf⟩ := p'
      obtain ⟨x', as, e1, fr, ho⟩ := a.sl.own e
      cases ho with
      | @obj _ _ dx' vs' _ hx hf =>
        have e := a.en
        refine kq fs pf dx' vs' F' H' ⟨e.sub, e.grow, fun y o h n => e.keep y o ?_ n, fun y o h => ?_, e.well⟩ (fr p (by simp)).1 hx hf
        · have ny : y ≠ p := ne_of_none h hp1
          show (if y = p then none else H y) = some o
          rw [if_neg ny]
          exact hold y o h
        · rcases e.new y o h with z | z
          · exact .inl z
          · right
            cases q : H1 y with
            | none => rfl
            | some u =>
              have ny : y ≠ p := ne_of_none q hp1
              have z' : (if y = p then none else H y) = none := z
              rw [if_neg ny, hold y u q] at z'
              cases z'
    · have := hg.2 p
      rw [← hg.1] at this
      exact this
end
/-! a new object -/
section
variable {X : Cx} {c : Dx}
theorem made_in {W : Option Addr} {F H : Hp} (G : Good W F H) {x dx C : Addr} (hx : H x = none) (hdx : H dx = none) (n : dx ≠ x) : Good W F (upd (upd H dx (.own x)) x (.ins C dx [])) ∧ (∀ y o, H y = some o → (upd (upd H dx (.own x)) x (.ins C dx [])) y = some o) := by
  have up2 : ∀ {y : Addr} {o : HO}, H y = some o → (upd (upd H dx (.own x)) x (.ins C dx [])) y = some o := fun e => by
    rw [upd_ne (ne_of_none e hx), upd_ne (ne_of_none e hdx)]
    exact e
  refine ⟨⟨fun y o e => up2 (G.sub _ _ e), fun y hw => ?_⟩, fun y o e => up2 e⟩
  obtain ⟨n1, i, j, l, e⟩ := G.well y hw
  exact ⟨n1, i, j, l, up2 e⟩
section
variable {C f : Addr} {fd : FuncData} {k : Nat} {ps : List Str} {g : GI} {dvs : List V} {dds : List D} {ds0 : List Value} {x : Str} {p pos pos' : Pos} {e : Expr} {es : List Expr} {da : DA} {i : Nat} {y : Str}
/-- C(e, ..), kept at once -/
@[simp] def dMake (C : Addr) (g : GI) (W : Option Addr) (dds : List D) (da : DA) : DE := fun ρ P => da ρ fun ds => ∃ Pf, g W (ds ++ dds) Pf ∧ ∀ fs, Pf fs → P (.ins C fs)
/-- C(e, .., k = v, ..), kept at once -/
@[simp] def dMakeK (C : Addr) (g : GI) (W : Option Addr) (gD : List D → List D → List D) (da dk : DA) : DE := fun ρ P => da ρ fun ds => dk ρ fun es => ∃ Pf, g W (gD ds es) Pf ∧ ∀ fs, Pf fs → P (.ins C fs)
/-- y = C(e, ..), of one's own -/
@[simp] def dNewO (i : Nat) (C : Addr) (g : GI) (W : Option Addr) (dds : List D) (da : DA) : DS := fun De ρ => da ρ fun ds => ∃ Pf, g W (ds ++ dds) Pf ∧ ∀ fs x, Pf fs → De.nx (ρ.set i (.own (.obj x C fs)))
end
end
end DL
set_option Elab.async false
set_option linter.all false
set_option maxRecDepth 100000
set_option maxHeartbeats 2000000
set_option autoImplicit false
/-! operators by what they meet -/
namespace DL
open PySem PySem.Spec PyProof.Rows L2
section
variable {X : Cx} {c : Dx}
/-! + -/
def fAddX : F2 := fun x y P => match x, y with
  | .int i, .int j => P (.int (i + j))
  | .str a, .str b => a.length + b.length ≤ sizeLine ∧ P (.str (a ++ b))
  | .lst l, .lst m => l.length + m.length ≤ sizeLine ∧ P (.lst (l ++ m))
  | .tup l, .tup m => l.length + m.length ≤ sizeLine ∧ P (.tup (l ++ m))
  | _, _ => False
theorem mono_fAddX : Mono2 fAddX := fun x y P P' m h => by
  unfold fAddX at h ⊢
  split at h <;> first | exact m _ h | exact ⟨h.1, m _ h.2⟩ | exact h.elim
def rAddX (K : PySem.W.Frag) : R2 := fun x y H Q => ((rI0 (fun i j => .int (i + j)) x y H Q ∨ (∃ i j, x = .str i ∧ y = .str j ∧ i.length + j.length ≤ sizeLine ∧ Q (.str (i ++ j)) H)) ∨ rCatS K x y H Q) ∨ rCatA K x y H Q
theorem op_addX : OpR X (binaryOp .Add) (rAddX X.K) := ((op_add.or op_add_str).or op_catS).or op_catA
theorem serves_addX : Serves X c (rAddX X.K) fAddX := by
  intro F H x y dx dy P Q G hx hy h q
  unfold fAddX at h
  split at h
  · exact .inl (.inl (.inl (serves_I0 F H x y _ _ P Q G hx hy ⟨_, _, rfl, rfl, h⟩ q)))
  · cases hx
    cases hy
    exact .inl (.inl (.inr ⟨_, _, rfl, rfl, h.1, q _ _ F H h.2 G.rfl (.str _)⟩))
  · exact .inl (.inr (serves_cat F H x y _ _ P Q G hx hy ⟨_, _, rfl, rfl, h.1, h.2⟩ q))
  · exact .inr (serves_catT F H x y _ _ P Q G hx hy ⟨_, _, rfl, rfl, h.1, h.2⟩ q)
  · exact h.elim
theorem pd_addX {a b : Expr} {da db : DE} {pos} (ha : PD X c a da) (hb : PD X c b db) : PD X c (.BinOp a .Add b pos) (dOp fAddX da db) := pd_op op_addX serves_addX mono_fAddX ha hb
/-! & and | of ints -/
/-! x is None, x is True -/
def D.isBl (b : Bool) : D → Bool
  | .bl a => a == b
  | _ => false
def fIsX (n : Bool) : F2 := fun x y P => match y with
  | .non => P (.bl (x.isNon != n))
  | .bl b => P (.bl (x.isBl b != n))
  | _ => False
theorem mono_fIsX {n : Bool} : Mono2 (fIsX n) := fun x y P P' m h => by
  unfold fIsX at h ⊢
  split at h <;> first | exact m _ h | exact h.elim
theorem plain_bl {v : V} {u : Value} {b : Bool} (r : RelV v u) : plainIs u (.bool b) = true := by
  cases v <;> first | (cases r; rfl) | (obtain ⟨t, rfl⟩ := r; rfl)
theorem rel_bl {v : V} {u : Value} {b : Bool} (r : RelV v u) : (u == .bool b) = decide (v = .bl b) := by
  cases v with
  | bl a =>
    cases r
    by_cases e : a = b
    · subst e; simp
    · rw [beq_eq_false_iff_ne.mpr (fun z => e (Value.bool.inj z)), decide_eq_false (fun z => e (V.bl.inj z))]
  | non => cases r; rfl
  | ref _ => cases r; rfl
  | ty _ => cases r; rfl
  | int _ => obtain ⟨t, rfl⟩ := r; rfl
  | str _ => obtain ⟨t, rfl⟩ := r; rfl
  | byt _ => obtain ⟨t, rfl⟩ := r; rfl
  | flt _ => obtain ⟨t, rfl⟩ := r; rfl
theorem op_isB : OpR X (compareOp .Is) (fun x y H Q => ∃ b, y = .bl b ∧ Q (.bl (decide (x = .bl b))) H) := by
  intro pins s σ H x y v u Q I rx ry h
  obtain ⟨b, rfl, q⟩ := h
  cases (show u = Value.bool b from ry)
  exact wpAny_is_plain (plain_bl rx) ⟨.bl _, H, I, congrArg Value.bool (rel_bl rx), q⟩
theorem op_notB : OpR X (compareOp .IsNot) (fun x y H Q => ∃ b, y = .bl b ∧ Q (.bl (!decide (x = .bl b))) H) := by
  intro pins s σ H x y v u Q I rx ry h
  obtain ⟨b, rfl, q⟩ := h
  cases (show u = Value.bool b from ry)
  exact wpAny_isNot_plain (plain_bl rx) ⟨.bl _, H, I, congrArg (fun z => Value.bool (!z)) (rel_bl rx), q⟩
theorem dat_isBl {K : PySem.W.Frag} {F : Hp} {v : V} {d : D} {b : Bool} (h : Dat K F v d) : decide (v = .bl b) = d.isBl b := by
  cases h <;> first | (simp [D.isBl]; done) | (rename_i a; cases a <;> cases b <;> rfl)
theorem serves_isX : Serves X c (fun x y H Q => (y = .non ∧ Q (.bl (decide (x = .non))) H) ∨ ∃ b, y = .bl b ∧ Q (.bl (decide (x = .bl b))) H) (fIsX false) := by
  intro F H x y dx dy P Q G hx hy h q
  unfold fIsX at h
  split at h
  · exact .inl (serves_is F H x y _ _ P Q G hx hy ⟨rfl, h⟩ q)
  · cases hy
    refine .inr ⟨_, rfl, ?_⟩
    rw [dat_isBl hx]
    rw [bxor_f] at h
    exact q _ _ F H h G.rfl (.bl _)
  · exact h.elim
theorem serves_isnotX : Serves X c (fun x y H Q => (y = .non ∧ Q (.bl (!decide (x = .non))) H) ∨ ∃ b, y = .bl b ∧ Q (.bl (!decide (x = .bl b))) H) (fIsX true) := by
  intro F H x y dx dy P Q G hx hy h q
  unfold fIsX at h
  split at h
  · exact .inl (serves_isnot F H x y _ _ P Q G hx hy ⟨rfl, h⟩ q)
  · cases hy
    refine .inr ⟨_, rfl, ?_⟩
    rw [dat_isBl hx]
    rw [bxor_t] at h
    exact q _ _ F H h G.rfl (.bl _)
  · exact h.elim
theorem op_isX : OpR X (compareOp .Is) (fun x y H Q => (y = .non ∧ Q (.bl (decide (x = .non))) H) ∨ ∃ b, y = .bl b ∧ Q (.bl (decide (x = .bl b))) H) := op_isN.or op_isB
theorem op_isnotX : OpR X (compareOp .IsNot) (fun x y H Q => (y = .non ∧ Q (.bl (!decide (x = .non))) H) ∨ ∃ b, y = .bl b ∧ Q (.bl (!decide (x = .bl b))) H) := op_notN.or op_notB
/-! x in a list or tuple of flat things -/
def flatD : D → Bool
  | .non => true
  | .bl _ => true
  | .int _ => true
  | .str _ => true
  | _ => false
def eqF : D → D → Bool
  | .non, .non => true
  | .bl a, .bl b => a == b
  | .bl a, .int b => (if a then 1 else 0) == b
  | .int a, .bl b => a == (if b then 1 else 0)
  | .int a, .int b => a == b
  | .str a, .str b => a == b
  | _, _ => false
def seqD : D → Option (List D)
  | .lst l => some l
  | .tup l => some l
  | _ => none
def fInX (n : Bool) : F2 := fun x y P => ∃ l, seqD y = some l ∧ flatD x = true ∧ l.all flatD = true ∧ P (.bl ((l.any fun z => eqF z x) != n))
/-! len -/
def fLenX : FN := fun ds P => (∃ kvs, ds = [.dct kvs] ∧ P (.int kvs.length)) ∨ fLen ds P
theorem mono_fLenX : MonoF fLenX := fun ds P P' m h => h.elim (fun ⟨k, e, p⟩ => .inl ⟨k, e, m _ p⟩) fun q => .inr (mono_fLen ds P P' m q)
def rLenX (K : PySem.W.Frag) : List V → Hp → VK → Prop := fun xs H Q => (∃ a kvs, xs = [V.ref a] ∧ Rd H a (.dK kvs) ∧ Q (.int kvs.length) H) ∨ ∃ x n, xs = [x] ∧ LenV K x H n ∧ Q (.int n) H
theorem call_lenX : CallR X (.builtin "len") (rLenX X.K) := by
  intro pins s σ H xs us Q I r h
  rcases h with ⟨a, kvs, rfl, ha, q⟩ | h
  · obtain ⟨u, rfl, ru⟩ := vals1 r
    cases ru
    exact d_len I ha fun t s' I' => ⟨.int kvs.length, H, I', ⟨t, rfl⟩, q⟩
  · exact call_len pins s σ H xs us Q I r h
theorem serves_lenX : ServesC X c (rLenX X.K) fLenX := by
  intro F H xs ds P Q G hx h q
  rcases h with ⟨kvs, rfl, p⟩ | h
  · obtain ⟨v, rfl, hv⟩ := datL1 hx
    cases hv with
    | dct hd hk =>
      refine .inl ⟨_, _, rfl, .inr ⟨_, G.sub _ _ hd⟩, ?_⟩
      rw [hk.length]
      exact q _ _ F H p G.rfl (.int _)
  · exact .inr (serves_len F H xs ds P Q G hx h q)
/-! max, min of two ints -/
/-! methods of texts -/
@[simp] def dStr0 (f : Str → D) (ok : Str → Prop) (de : DE) : DE := fun ρ P => de ρ fun x => ∃ s, x = .str s ∧ ok s ∧ P (f s)
theorem mono_dStr0 {f : Str → D} {ok : Str → Prop} {de : DE} (m : Mono de) : Mono (dStr0 f ok de) := fun ρ P P' k => m ρ _ _ fun x ⟨s, e, o, p⟩ => ⟨s, e, o, k _ p⟩
theorem pd_strB {id : String} {name : Str} {o : Expr} {de : DE} {apos cpos : Pos} {f : Str → Bool} (slot : Slot "str" name id) (ty : typeOf (.builtin id) = pure (.type "method_descriptor")) (rule : MtR X id (fun x xs H Q => ∃ a, x = .str a ∧ xs = [] ∧ True ∧ Q (.bl (f a)) H)) (ho : PD X c o de)
    (hbase : attributeBase o name X.env (eval o X.env) = eval o X.env := by rfl) (hline : (apos.endLine == cpos.line) = true := by rfl) : PD X c (.Call (.Attribute o name apos) [] [] cpos) (dStr0 (fun s => .bl (f s)) (fun _ => True) de) := by
  refine ⟨imp (pe_m0 slot ty rule ho.pe hbase hline) fun σ H Q q => ?_, mono_dStr0 ho.mono⟩
  obtain ⟨F, ρ, a, q⟩ := q
  refine ⟨F, ρ, a, ho.mono _ _ _ (fun x q v F1 H1 f1 d1 => ?_) q⟩
  obtain ⟨s, rfl, _, q⟩ := q
  cases d1
  exact ⟨⟨_, rfl⟩, s, rfl, rfl, trivial, q _ F1 H1 f1 (.bl _)⟩
/-! a, b = a list or a tuple -/
@[simp] def setS (t : DGs) : DG := fun d ρ => (seqD d).bind fun ds => t ds ρ
def gSeq (K : PySem.W.Frag) (n : Nat) (t : TGs) : TG := fun v σ H Q => gTup K n t v σ H Q ∨ gLst K n t v σ H Q
theorem pg_seq {es : List Expr} {k : Nat} {pos : Pos} {t : TGs} {n : Nat} (hc : X.calm = true) (h : PGs X es t) (hn : (assignEach es X.env).length = n := by rfl) (hst : (assignEach es X.env).findIdx? (·.1) = none := by rfl) : PG X (.Tuple es k pos) (gSeq X.K n t) := by
  have h1 := pg_tup (pos := pos) (k := k) hc h hn hst
  have h2 := pg_lst (pos := pos) (k := k) hc h hn hst
  exact ⟨fun pins s σ H x v Q I r q => by
    rcases q with q | q
    · exact h1.run pins s σ H x v Q I r q
    · exact h2.run pins s σ H x v Q I r q⟩
theorem pgd_seq {K : PySem.W.Frag} {es : List Expr} {kk : Nat} {pos : Pos} {t : DGs} {ns : List Nat} {u : TGs} {n : Nat} (hK : X.K = K) (hc : X.calm = true) (h : PGds X c es t ns u) (ht : ∀ ds ρ ρ', t ds ρ = some ρ' → ds.length = n)
    (hn : (assignEach es X.env).length = n := by rfl) (hst : (assignEach es X.env).findIdx? (·.1) = none := by rfl) : PGd X c (.Tuple es kk pos) (setS t) ns (gSeq K n u) := by
  subst hK
  refine ⟨pg_seq hc h.pg hn hst, fun F H x d σ ρ ρ' Q G s hd e k => ?_⟩
  cases hd with
  | tup hs hl =>
    exact .inl ⟨_, _, rfl, sqT_mono G.sub hs, hl.length.trans (ht _ _ _ e), h.ok F H _ _ σ ρ ρ' Q G s hl e k⟩
  | lst hs hl =>
    exact .inr ⟨_, _, rfl, .of (G.sub _ _ hs), hl.length.trans (ht _ _ _ e), h.ok F H _ _ σ ρ ρ' Q G s hl e k⟩
  | _ => cases e
/-! truth of lists -/
end
end DL
set_option Elab.async false
set_option linter.all false
set_option maxRecDepth 100000
set_option maxHeartbeats 2000000
set_option autoImplicit false
/-! dicts of one's own, filled -/
namespace DL
open PySem PySem.Spec PyProof.Rows L2
section
variable {X : Cx} {c : Dx}
/-- y = {} -/
@[simp] def dNewD0 (i : Nat) : DS := fun De ρ => De.nx (ρ.set i (.od []))
/-- y = dict(e) -/
@[simp] def dNewDD (i : Nat) (da : DA) : DS := fun De ρ => da ρ fun ds => ∃ kvs, fDictOf ds kvs ∧ (kvs.map (·.1)).Nodup ∧ De.nx (ρ.set i (.od kvs))
/-- y[k] = v -/
@[simp] def dPut (i : Nat) (dk dv : DE) : DS := fun De ρ => dv ρ fun v => ∃ kvs, ρ[i]? = some (.od kvs) ∧ dk ρ fun x => ∃ k, x = kD k ∧ kvs.length < sizeLine ∧ De.nx (ρ.set i (.od (setK k v kvs)))
end
end DL
set_option Elab.async false
set_option linter.all false
set_option maxRecDepth 100000
set_option maxHeartbeats 2000000
set_option autoImplicit false
/-! results of one's own -/
namespace DL
open PySem PySem.Spec PyProof.Rows L2
def OD.frozen : OD → D
  | .lst ds => .lst ds
  | .dct kvs => .dct kvs
  | .box _ C fs f ds => .ins C (fs ++ [(f, .lst ds)])
  | .obj _ C fs => .ins C fs
  | .nest _ _ _ => .non
def OD.noD : OD → Bool
  | .dct _ => false
  | .nest _ _ _ => false
  | _ => true
def NewAt (F H : Hp) (as : List Addr) : Prop := ∀ q ∈ as, F q = none ∧ H q = none
theorem datF_snoc {K : PySem.W.Frag} {F : Hp} {f : Str} {u : V} {y : D} (hu : Dat K F u y) : ∀ {v : List (Str × V)} {d : List (Str × D)}, DatF K F v d → DatF K F (v ++ [(f, u)]) (d ++ [(f, y)])
  | _, _, .nil => .cons hu .nil
  | _, _, .cons h t => .cons h (datF_snoc hu t)
/-- what is new and one's own is kept -/
theorem freeze_own {K : PySem.W.Frag} {W : Option Addr} {H F' H' : Hp} {F : Hp} {o : OD} {x : Addr} {as : List Addr} (f : Fr W F H F' H') (k : OwnAt K F' H' o x as) (n : ∀ q ∈ as, F' q = none ∧ H q = none ∧ W ≠ some q) (nd : o.noD = true) :
    ∃ F2, Fr W F H F2 H' ∧ Same F' F2 ∧ Dat K F2 (.ref x) o.frozen ∧ ∀ q, ¬ q ∈ as → F2 q = F' q := by
  cases k with
  | @lst _ vs ds e d =>
    obtain ⟨n1, n2, w⟩ := n x (by simp)
    exact ⟨_, freeze_new f n2 n1 e w, same_upd n1, .lst upd_same (d.mono (same_upd n1)), fun q hq => upd_ne (fun z => hq (by simp [z]))⟩
  | dct _ _ _ => cases nd
  | nest _ _ _ => cases nd
  | @obj _ C dx vs fs e d =>
    obtain ⟨n1, n2, w⟩ := n x (by simp)
    exact ⟨_, freeze_new f n2 n1 e w, same_upd n1, .ins upd_same (d.mono (same_upd n1)), fun q hq => upd_ne (fun z => hq (by simp [z]))⟩
  | @box _ a C dx vs fs g us ds e d l m =>
    obtain ⟨n1, n2, w⟩ := n x (by simp)
    obtain ⟨m1, m2, v⟩ := n a (by simp)
    have ne : x ≠ a := fun z => by
      rw [z, l] at e
      cases e
    have s1 : Same F' (upd F' a (.lst us)) := same_upd m1
    have f1 := freeze_new f m2 m1 l v
    have n1' : (upd F' a (.lst us)) x = none := by rw [upd_ne ne]; exact n1
    have s2 : Same (upd F' a (.lst us)) (upd (upd F' a (.lst us)) x (.ins C dx (vs ++ [(g, .ref a)]))) := same_upd n1'
    refine ⟨_, freeze_new f1 n2 n1' e w, s1.trans s2, .ins upd_same (datF_snoc (.lst (by rw [upd_ne ne.symm]; exact upd_same) (m.mono (s1.trans s2))) (d.mono (s1.trans s2))), fun q hq => ?_⟩
    have q1 : q ≠ x := fun z => hq (by simp [z])
    have q2 : q ≠ a := fun z => hq (by simp [z])
    rw [upd_ne q1, upd_ne q2]
abbrev DEo := List Sl → (OD → Prop) → Prop
def MonoO (den : DEo) : Prop := ∀ ρ P P', (∀ d, P d → P' d) → den ρ P → den ρ P'
def upO (X : Cx) (c : Dx) (den : DEo) : TE := fun σ H Q => ∃ F ρ, At X.K c F H σ ρ ∧ den ρ fun o => ∀ x as F' H', Fr c.W F H F' H' → OwnAt X.K F' H' o x as → NewAt F' H as → Q (.ref x) H'
structure PDN (X : Cx) (c : Dx) (e : Expr) (den : DEo) : Prop where
  pe : PE X e (upO X c den)
  mono : MonoO den
/-- a promise of something new -/
abbrev GO := Option Addr → List D → (OD → Prop) → Prop
def spO (K : PySem.W.Frag) (g : GO) : Sp := fun vs H Q _ => ∃ W F ds Pd, Good W F H ∧ DatL K F vs ds ∧ g W ds Pd ∧ ∀ o, Pd o → ∀ x as F' H', Fr W F H F' H' → OwnAt K F' H' o x as → NewAt F' H as → Q (.ref x) H'
def clO (g : GO) (W : Option Addr) (ds : List D) (P : OD → Prop) : Prop := ∃ Pd, g W ds Pd ∧ ∀ o, Pd o → P o
theorem clO_of {g : GO} {W : Option Addr} {ds : List D} {P : OD → Prop} (h : g W ds P) : clO g W ds P := ⟨P, h, fun _ p => p⟩
@[simp] def dClO (g : GO) (W : Option Addr) (dds : List D) (da : DA) : DEo := fun ρ P => da ρ fun ds => clO g W (ds ++ dds) P
theorem good_ne {W : Option Addr} {F H : Hp} (G : Good W F H) {q : Addr} (h : H q = none) : W ≠ some q := fun e => by
  obtain ⟨_, i, j, k, z⟩ := G.well q e
  rw [h] at z; cases z
section
variable {X : Cx} {c : Dx}
/-- kept at once -/
@[simp] def dFrz (den : DEo) : DE := fun ρ P => den ρ fun o => o.noD = true ∧ P o.frozen
theorem pd_frz {e : Expr} {den : DEo} (h : PDN X c e den) : PD X c e (dFrz den) := by
  refine ⟨imp h.pe fun σ H Q q => ?_, fun ρ P P' m => h.mono ρ _ _ fun o ⟨a, p⟩ => ⟨a, m _ p⟩⟩
  obtain ⟨F, ρ, a, q⟩ := q
  refine ⟨F, ρ, a, h.mono _ _ _ (fun o q x as F' H' f k n => ?_) q⟩
  obtain ⟨F2, f2, _, d, _⟩ := freeze_own f k (fun q hq => ⟨(n q hq).1, (n q hq).2, good_ne a.good (n q hq).2⟩) q.1
  exact q.2 _ _ _ f2 d
theorem NewAt.back {F H H1 : Hp} {as : List Addr} (n : NewAt F H1 as) (k : ∀ q o, H q = some o → ∃ o', H1 q = some o') : NewAt F H as := fun q hq => ⟨(n q hq).1, by
  cases z : H q with
  | none => rfl
  | some o =>
    obtain ⟨o', e⟩ := k q o z
    rw [(n q hq).2] at e
    cases e⟩
theorem Fr.lives {W : Option Addr} {F H F1 H1 : Hp} (f : Fr W F H F1 H1) : ∀ q o, H q = some o → ∃ o', H1 q = some o' := fun q o e => by
  by_cases w : W = some q
  · obtain ⟨_, i, j, k, z⟩ := f.well q w
    exact ⟨_, z⟩
  · exact ⟨_, f.keep q o e w⟩
section
variable {k : Nat} {f : Addr} {fd : FuncData} {ps : List Str} {g : GO} {dvs : List V} {dds : List D} {ds0 : List Value} {x : Str} {p pos : Pos} {e : Expr} {es : List Expr} {da : DA}
theorem clO_sp {F H : Hp} (G : Good c.W F H) {vs : List V} {ds : List D} (dv : DatL X.K F vs ds) {P : OD → Prop} {Q : VK} {E : XK} (h : clO g c.W ds P) (hq : ∀ o x as F' H', P o → Fr c.W F H F' H' → OwnAt X.K F' H' o x as → NewAt F' H as → Q (.ref x) H') : spO X.K g vs H Q E := by
  obtain ⟨Pd, q, m⟩ := h
  exact ⟨c.W, F, ds, Pd, G, dv, q, fun o p x as F' H' f k n => hq o x as F' H' (m o p) f k n⟩
theorem pdn_call (F : FnOk X.prog X.w X.K X.mg X.base CX0 k f fd ps (spO X.K g)) (hr : Room k X.A) (hg : Gl X x) (hm : X.mg x = some (.ref f)) (hk : PySem.W.keepIn X.K (.ref f) = true) (hb : Binds X.K fd ps ds0) (hd : Vals dvs ds0) (hdd : ∀ F, DatL X.K F dvs dds)
    (ha : PDA X c (e :: es) da) (hdb : (x == ("__debug__" : Str)) = false := by decide) (he : starEach (e :: es) X.env = (false, eval e X.env) :: starEach es X.env := by rfl) (hpl : (backTo pos (starEach es X.env)).any (·.1) = false := by rfl) :
    PDN X c (.Call (.Name x p) (e :: es) [] pos) (dClO g c.W dds da) := by
  refine ⟨imp (pe_call (E := E0) F hr hg hm hk hb hd pass0 ha.pa hdb he hpl) fun σ H Q q => ?_, fun ρ P P' m => ha.mono ρ _ _ fun ds ⟨Pd, q, k⟩ => ⟨Pd, q, fun d p => m _ (k d p)⟩⟩
  obtain ⟨F1, ρ, a, q⟩ := q
  refine ⟨F1, ρ, a, ha.mono _ _ _ (fun ds q vs F2 H2 f2 d2 => ?_) q⟩
  exact clO_sp f2.good (d2.append (hdd F2)) q fun o x as F' H' p f3 k n => p x as F' H' (f2.trans f3) k (n.back f2.lives)
end
/-! statements -/
@[simp] def dSetN (i : Nat) (den : DEo) : DS := fun De ρ => den ρ fun o => De.nx (ρ.set i (.own o))
@[simp] def dRetO (den : DEo) : DS := fun De ρ => den ρ De.ro
theorem psd_retO {e : Expr} {den : DEo} {pos} (h : PDN X c e den) : PSd X c (.Return (some e) pos) (dRetO den) := ⟨impS (ps_ret h.pe) fun D σ H q => by
  obtain ⟨F, ρ, De, a, l, q⟩ := q
  exact ⟨F, ρ, a, h.mono _ _ _ (fun o q x as F' H' f k n => l.ro o x as F' H' q f.grow (a.en.trans f) k fun q hq => ⟨(n q hq).1, entry_none a.en (n q hq).2⟩) q⟩⟩
/-- return x, x of one's own -/
@[simp] def dRetOv (i : Nat) : DS := fun De ρ => ∃ o, ρ[i]? = some (.own o) ∧ De.ro o
/-- what is one's own is seen as kept, while a flat value is reckoned -/
@[simp] def dLend (i : Nat) (de : DE) : DE := fun ρ P => ∃ o, ρ[i]? = some (.own o) ∧ o.noD = true ∧ de (ρ.set i (.fz o.frozen)) fun d => flatD d = true ∧ P d
@[simp] def dLendT (i : Nat) (dt : DT) : DT := fun ρ P => ∃ o, ρ[i]? = some (.own o) ∧ o.noD = true ∧ dt (ρ.set i (.fz o.frozen)) P
theorem at_lend {F H : Hp} {σ : L2.St} {ρ : List Sl} {i : Nat} {o : OD} (a : At X.K c F H σ ρ) (e : ρ[i]? = some (.own o)) (nd : o.noD = true) : ∃ F2, Same F F2 ∧ At X.K c F2 H σ (ρ.set i (.fz o.frozen)) := by
  obtain ⟨x, as, h1, fr, k⟩ := a.sl.own e
  obtain ⟨F2, f2, s2, d2, off⟩ := freeze_own a.en k (fun q hq => ⟨(fr q hq).1, (fr q hq).2.2, (fr q hq).2.1⟩) nd
  exact ⟨F2, s2, f2, set_fz (t := .un) (a.sl.other e h1 k s2 off (fun _ _ => rfl)) h1 d2⟩
theorem flat_any {K : PySem.W.Frag} {F F' : Hp} {v : V} {d : D} (h : Dat K F v d) (f : flatD d = true) : Dat K F' v d := by
  cases h with
  | non => exact .non
  | bl b => exact .bl b
  | int b => exact .int b
  | str b => exact .str b
  | _ => exact absurd f Bool.false_ne_true
theorem fr_less {W : Option Addr} {F F3 F4 H H4 : Hp} (f : Fr W F3 H F4 H4) (s : Same F F3) : Fr W F H F H4 := by
  refine ⟨fun a o e => f.sub _ _ (f.grow _ _ (s _ _ e)), Same.refl F, f.keep, fun a o e => .inl e, fun a hw => ?_⟩
  obtain ⟨n, k⟩ := f.well a hw
  refine ⟨?_, k⟩
  cases q : F a with
  | none => rfl
  | some o =>
    rw [f.grow _ _ (s _ _ q)] at n
    cases n
theorem pd_lend (i : Nat) {e : Expr} {de : DE} (h : PD X c e de) : PD X c e (dLend i de) := by
  refine ⟨imp h.pe fun σ H Q q => ?_, fun ρ P P' m ⟨o, e, nd, q⟩ => ⟨o, e, nd, h.mono _ _ _ (fun d ⟨f, p⟩ => ⟨f, m _ p⟩) q⟩⟩
  obtain ⟨F, ρ, a, o, e, nd, q⟩ := q
  obtain ⟨F2, s2, a2⟩ := at_lend a e nd
  exact ⟨F2, _, a2, h.mono _ _ _ (fun d q v F' H' f dd => q.2 v F H' (fr_less f s2) (flat_any dd q.1)) q⟩
theorem pdt_lend (i : Nat) {e : Expr} {dt : DT} (h : PDT X c e dt) : PDT X c e (dLendT i dt) := by
  refine ⟨impT h.pt fun σ H Q q => ?_, fun ρ P P' m ⟨o, e, nd, q⟩ => ⟨o, e, nd, h.mono _ _ _ m q⟩⟩
  obtain ⟨F, ρ, a, o, e, nd, q⟩ := q
  obtain ⟨F2, s2, a2⟩ := at_lend a e nd
  exact ⟨F2, _, a2, h.mono _ _ _ (fun d q F' H' f => q F H' (fr_less f s2)) q⟩
/-- kept from now on -/
@[simp] def dKeepN (i : Nat) (d : DS) : DS := fun De ρ => ∃ o, ρ[i]? = some (.own o) ∧ o.noD = true ∧ d De (ρ.set i (.fz o.frozen))
/-- x.f.clear() -/
@[simp] def dBclear (i : Nat) (C : Addr) (f : Str) : DS := fun De ρ => ∃ x fs ds, ρ[i]? = some (.own (.box x C fs f ds)) ∧ fs.lookup f = none ∧ De.nx (ρ.set i (.own (.box x C fs f [])))
/-- x.f.append(e) -/
@[simp] def dBapp (i : Nat) (C : Addr) (f : Str) (de : DE) : DS := fun De ρ => ∃ x fs ds, ρ[i]? = some (.own (.box x C fs f ds)) ∧ fs.lookup f = none ∧ de ρ fun y => ds.length < sizeLine ∧ De.nx (ρ.set i (.own (.box x C fs f (ds ++ [y]))))
end
/-! defs that give something new -/
section
variable {P : Program} {w : World} {K : PySem.W.Frag} {mg : Str → Option Value} {base : Heap}
def gOfO (n : Nat) (N : List Str) (den : Option Addr → DS) : GO := fun W ds P => ds.length = n ∧ den W ⟨fun _ => False, fun _ => False, fun _ => False, fun _ => False, P⟩ (slots0 N ds)
theorem okO {x qual : Str} {st : Stmt} {f : Addr} {fd : FuncData} {N ps : List Str} {k : Nat} {den : Option Addr → DS} (F : Fun K x qual st f fd) (S : FnScope N ps (defScope st))
    (hbody : ∀ (cdv : Value) (A : Around) (outer : List Env) (s : Shared) (H : Hp) (E : XK) (W : Option Addr) (F0 : Hp), Room k (A.deeper (envOfC qual (defScope st) s.heap.objs.size f cdv)) →
      PSsd ((cxOf CX0 P w K mg base N qual (defScope st) f cdv A outer s H E).nox) ⟨W, F0, H, noX⟩ (defBody st) (den W)) : FnOk P w K mg base CX0 (k + 1) f fd ps (spO K (gOfO ps.length N den)) := by
  refine F.ok S (fun vs H Q E h => ?_) (fun cdv A outer s H vs Q E hr h => ?_)
  · obtain ⟨W, F0, ds, _, _, d, q, _⟩ := h
    rw [d.length]
    exact q.1
  · obtain ⟨W, F0, ds, Pd, G, d, q, k⟩ := h
    refine ⟨_, (hbody cdv A outer s H E W F0 hr).ps, F0, _, ⟨fun _ => False, fun _ => False, fun _ => False, fun _ => False, Pd⟩, ⟨G.rfl, slots_start d⟩, ⟨fun _ _ _ _ z => z.elim, fun _ _ _ _ z => z.elim, fun _ _ _ _ z => z.elim, fun _ _ _ _ z => z.elim, fun o x as F' H' p _ f kk n => ?_⟩, q.2⟩
    exact k o p x as F' H' f kk fun q hq => n q hq
/-- what gives something new, as one that is kept -/
theorem FnOk.frz {k : Nat} {f : Addr} {fd : FuncData} {ps : List Str} {g : GO} (h : FnOk P w K mg base CX0 k f fd ps (spO K g)) : FnOk P w K mg base CX0 k f fd ps (spZ K fun W ds P _ => g W ds fun o => o.noD = true ∧ P o.frozen) :=
  h.imp fun vs H Q E q => by
    obtain ⟨W, F, ds, Pd, G, d, q, k⟩ := q
    refine ⟨W, F, ds, _, G, d, q, fun o p x as F' H' f kk n => ?_⟩
    obtain ⟨F2, f2, _, dd, _⟩ := freeze_own f kk (fun q hq => ⟨(n q hq).1, (n q hq).2, good_ne G (n q hq).2⟩) p.1
    exact k _ p.2 _ _ _ f2 dd
end
end DL
set_option Elab.async false
set_option linter.all false
set_option maxRecDepth 100000
set_option maxHeartbeats 2000000
set_option autoImplicit false
/-! __init__ that leaves a list of its own; == of one's own; the rest -/
namespace DL
open PySem PySem.Spec PyProof.Rows L2
section
variable {X : Cx} {c : Dx}
theorem putF_new {f : Str} {v : V} : ∀ {vs : List (Str × V)}, (∀ p ∈ vs, p.1 ≠ f) → putF f v vs = vs ++ [(f, v)]
  | [], _ => rfl
  | (g, u) :: r, h => by
    have h1 : g ≠ f := h (g, u) List.mem_cons_self
    simp only [putF, if_neg h1, List.cons_append]
    rw [putF_new fun p hp => h p (List.mem_cons_of_mem _ hp)]
theorem DatF.no {K : PySem.W.Frag} {F : Hp} {f : Str} : ∀ {vs : List (Str × V)} {fs : List (Str × D)}, DatF K F vs fs → (∀ p ∈ fs, p.1 ≠ f) → ∀ p ∈ vs, p.1 ≠ f
  | _, _, .nil, _, p, hp => by cases hp
  | (x, v) :: vs, (_, d) :: ds, .cons h t, n, p, hp => by
    rcases List.mem_cons.mp hp with rfl | hp
    · exact n (x, d) List.mem_cons_self
    · exact DatF.no t (fun q hq => n q (List.mem_cons_of_mem _ hq)) p hp
/-- o.f = list(e) if t else .. -/
@[simp] def dFsetL (i : Nat) (C : Addr) (f : Str) (dt : DT) (de : DE) : DS := fun De ρ => dt ρ fun b => b = true ∧ de ρ fun d => ∃ l x fs, seqD d = some l ∧ ρ[i]? = some (.own (.obj x C fs)) ∧ (∀ p ∈ fs, p.1 ≠ f) ∧ fs.length < 1000 ∧ De.nx (ρ.set i (.own (.box x C fs f l)))
theorem psd_fsetL {i : Nat} {C : Addr} {f : Str} {o t e e2 : Expr} {dt : DT} {de : DE} {te2 : TE} {p cpos ipos pos pos' : Pos} (ho : PE X o (tVar i)) (hC : Cls X.K C) (hn : NoAttr X.K C f) (hg : Gl X "list") (hm : X.mg "list" = none) (ht : PDT X c t dt) (hv : PD X c e de) (h2 : PE X e2 te2)
    (hst : starEach [e] X.env = (false, eval e X.env) :: starEach [] X.env := by rfl) (hpl : (backTo cpos (starEach [] X.env)).any (·.1) = false := by rfl)
    (hs : swapsWith (.IfExp t (.Call (.Name "list" p) [e] [] cpos) e2 ipos) (some (.Attribute o f pos')) pos.line X.env = pure false := by rfl) :
    PSd X c (.Assign [.Attribute o f pos'] (.IfExp t (.Call (.Name "list" p) [e] [] cpos) e2 ipos) pos) (dFsetL i C f dt de) := ⟨impS (ps_fld ho (pe_ifExp ht.pt (pe_callTy call_list_of hg hm (by decide +kernel) (pa_cons hv.pe pa_nil hst) (by decide) (by decide) hst hpl) h2) hs) fun D σ H q => by
  obtain ⟨F, ρ, De, a, l, q⟩ := q
  refine ⟨F, ρ, a, ht.mono _ _ _ (fun b q F1 H1 f1 => ?_) q⟩
  obtain ⟨rfl, q⟩ := q
  have a1 := a.fr f1
  refine ⟨F1, ρ, a1, hv.mono _ _ _ (fun d q v F2 H2 f2 d2 => ?_) q⟩
  obtain ⟨ls, x, fs, es, e, no, hl, q⟩ := q
  have a2 := a1.fr f2
  obtain ⟨x', as, h1, fr, ho⟩ := a2.sl.own e
  have ho' := ho
  cases ho with
  | @obj _ _ dx vs _ hx hf =>
    obtain ⟨n1, w1, h0⟩ := fr x (by simp)
    have key : ∃ p ys, v = .ref p ∧ (SqL X.K H2 p ys ∨ SqT X.K H2 p ys) ∧ DatL X.K F2 ys ls := by
      cases d2 with
      | lst hs hl => cases es; exact ⟨_, _, rfl, .inl (.of (f2.good.sub _ _ hs)), hl⟩
      | tup hs hl => cases es; exact ⟨_, _, rfl, .inr (sqT_mono f2.good.sub hs), hl⟩
      | _ => cases es
    obtain ⟨pa, ys, rfl, hsq, hdl⟩ := key
    refine ⟨pa, ys, rfl, hsq, fun r hr => ?_⟩
    have nrx : x ≠ r := ne_of_none hx hr
    refine ⟨_, h1, x, C, dx, vs, rfl, by rw [upd_ne nrx]; exact hx, hC, hn, by rw [hf.length]; exact hl, ?_⟩
    have en3 := a2.en.trans (f2.good.hid (o := .lst ys) hr)
    refine l.nx _ _ F2 _ q (f1.grow.trans f2.grow) ⟨own_upd en3 n1 w1 h0, ?_⟩
    rw [putF_new (hf.no no)]
    have s3 := a2.sl.fr (f2.good.hid (o := .lst ys) hr)
    -- slot i: first forgotten, then put
    have s4 := s3.other (F1 := F2) (H1 := upd (upd H2 r (.lst ys)) x (.ins C dx (vs ++ [(f, .ref r)]))) e h1 (ho'.fr (f2.good.hid (o := .lst ys) hr) fr) (Same.refl F2) (fun _ _ => rfl) upd_off
    have F2r : F2 r = none := f2.good.free hr
    have s5 := s4.put i (o := .box x C fs f ls) (a := x) (as := [x, r]) (fun q hq => by
      rcases List.mem_cons.mp hq with z | z
      · rw [z]; exact ⟨n1, w1, h0⟩
      · rw [List.mem_singleton.mp z]; exact ⟨F2r, good_ne f2.good hr, entry_none a2.en hr⟩) (.box upd_same hf (by rw [upd_ne nrx.symm, upd_same]) hdl) fun j o2 a2' as2 hj h2 e2 k2 q hq hq2 => by
        rw [set_get_ne hj] at h2
        obtain ⟨cc, cs, e4, fr4, k4⟩ := a2.sl.own h2
        rw [e2] at e4
        cases e4
        have aw : ∀ q ∈ cs, ¬ q ∈ [x] := fun q hq hq2 => a2.sl.apart i j _ _ x a2' [x] cs (Ne.symm hj) e h2 h1 e2 ho' k4 q hq2 hq
        have z := k4.det (o' := o2) k2 fun u e => by
          have m : a2' ∈ cs := by cases k4 <;> simp
          rw [upd_ne (fun z => aw a2' m (by simp [z])), upd_ne (ne_of_none e hr)]
          exact e
        subst z
        rcases List.mem_cons.mp hq with z | z
        · exact aw q hq2 (by simp [z])
        · obtain ⟨u', e⟩ := k4.live q hq2
          rw [List.mem_singleton.mp z, hr] at e
          cases e
    rw [set_self_eq h1, List.set_set] at s5
    exact s5⟩
end
def OD.addr : OD → Option Addr
  | .box x _ _ _ _ => some x
  | .obj x _ _ => some x
  | .nest (x :: _) _ _ => some x
  | _ => none
/-- what __init__ promises that leaves o -/
def spIo (K : PySem.W.Frag) (C : Addr) (g : GO) : Sp := fun vs H Q _ => ∃ W F H1 p dx us ds Pd, vs = .ref p :: us ∧ Good W F H1 ∧ Good W F H ∧ H p = some (.ins C dx []) ∧ H1 p = none ∧ (∀ y o, H1 y = some o → H y = some o) ∧ DatL K F us ds ∧ g W ds Pd ∧
  ∀ o, Pd o → o.addr = some p → ∀ as F' H', Fr W F H1 F' H' → OwnAt K F' H' o p as → NewAt F' H1 as → Q .non H'
def gInitO (C : Addr) (n : Nat) (N : List Str) (den : Option Addr → DS) : GO := fun W ds P => ds.length + 1 = n ∧ ∀ x, den W ⟨fun ρ => ∃ o, ρ[0]? = some (.own o) ∧ o.addr = some x ∧ P o, fun _ => False, fun _ => False, fun _ => False, fun _ => False⟩ (.own (.obj x C []) :: (ds.map Sl.fz ++ List.replicate (N.length - n) Sl.un))
section
variable {P : Program} {w : World} {K : PySem.W.Frag} {mg : Str → Option Value} {base : Heap}
theorem own_addr {K : PySem.W.Frag} {F H : Hp} {o : OD} {x y : Addr} {as : List Addr} (k : OwnAt K F H o x as) (e : o.addr = some y) : x = y := by
  cases k <;> simp [OD.addr] at e <;> exact e
theorem okIo {x qual : Str} {params : Arguments} {body : List Stmt} {scope : Scope} {dvs : List V} {kws : List (Str × V)} {f C : Addr} {fd : FuncData} {N ps : List Str} {k : Nat} {den : Option Addr → DS} (F : FunD K x qual params body scope dvs kws f fd) (S : FnScope N ps scope)
    (hbody : ∀ (cdv : Value) (A : Around) (outer : List Env) (s : Shared) (H : Hp) (E : XK) (W : Option Addr) (F0 H0 : Hp), Room k (A.deeper (envOfC qual scope s.heap.objs.size f cdv)) →
      PSsd ((cxOf CX0 P w K mg base N qual scope f cdv A outer s H E).nox) ⟨W, F0, H0, noX⟩ body (den W)) : FnOk P w K mg base CX0 (k + 1) f fd ps (spIo K C (gInitO C ps.length N den)) := by
  refine F.ok S (fun vs H Q E h => ?_) (fun cdv A outer s H vs Q E hr h => ?_)
  · obtain ⟨W, F0, H1, p, dx, us, ds, Pd, rfl, _, _, _, _, _, d, q, _⟩ := h
    rw [List.length_cons, d.length]
    exact q.1
  · obtain ⟨W, F0, H1, p, dx, us, ds, Pd, rfl, G1, G, hp, hp1, hold, hd, hg, kq⟩ := h
    have Fp : F0 p = none := G1.free hp1
    have Wp : W ≠ some p := good_ne G1 hp1
    have en : Fr W F0 (fun y => if y = p then none else H y) F0 H := by
      refine ⟨G.sub, Same.refl F0, fun y o e _ => ?_, fun y o e => .inl e, G.well⟩
      by_cases z : y = p
      · rw [if_pos z] at e; cases e
      · rw [if_neg z] at e; exact e
    have h0p : (fun y => if y = p then none else H y) p = none := if_pos rfl
    refine ⟨_, (hbody cdv A outer s H E W F0 (fun y => if y = p then none else H y) hr).ps.nox, F0, _, ⟨fun ρ => ∃ o, ρ[0]? = some (.own o) ∧ o.addr = some p ∧ Pd o, fun _ => False, fun _ => False, fun _ => False, fun _ => False⟩, ⟨en, slots_init hd Fp Wp h0p hp⟩, ⟨fun ρ' σ' F' H' p' _ a => ?_, fun _ _ _ _ z => z.elim, fun _ _ _ _ z => z.elim, fun _ _ _ _ z => z.elim, fun _ _ _ _ _ z => z.elim⟩, ?_⟩
    · obtain ⟨o, e, ea, pf⟩ := p'
      obtain ⟨x', as, e1, fr, ho⟩ := a.sl.own e
      have := own_addr ho ea
      subst this
      have e := a.en
      have back : ∀ {y : Addr}, (if y = x' then none else H y) = none → y = x' ∨ H1 y = none := fun {y} z => by
        by_cases ny : y = x'
        · exact .inl ny
        · right
          cases q : H1 y with
          | none => rfl
          | some u =>
            rw [if_neg ny, hold y u q] at z
            cases z
      refine kq o pf ea as F' H' ⟨e.sub, e.grow, fun y o h n => e.keep y o ?_ n, fun y o h => ?_, e.well⟩ ho fun q hq => ⟨(fr q hq).1, ?_⟩
      · have ny : y ≠ x' := ne_of_none h hp1
        show (if y = x' then none else H y) = some o
        rw [if_neg ny]
        exact hold y o h
      · rcases e.new y o h with z | z
        · exact .inl z
        · rcases back z with z | z
          · right; rw [z]; exact hp1
          · exact .inr z
      · rcases back (fr q hq).2.2 with z | z
        · rw [z]; exact hp1
        · exact z
    · have := hg.2 p
      rw [← hg.1] at this
      exact this
end
section
variable {X : Cx} {c : Dx}
variable {C f : Addr} {fd : FuncData} {k : Nat} {ps ks : List Str} {g : GO} {gi : GI} {dvs : List V} {dds : List D} {ds0 : List Value} {x : Str} {p pos pos' : Pos} {e : Expr} {es : List Expr} {da dk : DA} {i n : Nat} {y : Str} {kws : List Keyword}
/-- C(e, ..), new -/
theorem pdn_make (M : Mk X.K C f) (F : FnOk X.prog X.w X.K X.mg X.base CX0 k f fd ps (spIo X.K C g)) (hr : Room (k + 1) X.A) (hg : Gl X x) (hm : X.mg x = some (.ref C)) (hb : Binds X.K fd ps ds0) (hd : Vals dvs ds0) (hdd : ∀ F, DatL X.K F dvs dds)
    (ha : PDA X c (e :: es) da) (hdb : (x == ("__debug__" : Str)) = false := by decide) (he : starEach (e :: es) X.env = (false, eval e X.env) :: starEach es X.env := by rfl) (hpl : (backTo pos (starEach es X.env)).any (·.1) = false := by rfl) :
    PDN X c (.Call (.Name x p) (e :: es) [] pos) (dClO g c.W dds da) := by
  refine ⟨imp (pe_make (E := E0) M F hr hg hm hb hd pass0 ha.pa hdb he hpl) fun σ H Q q => ?_, fun ρ P P' m => ha.mono ρ _ _ fun ds ⟨Pd, q, k⟩ => ⟨Pd, q, fun d p => m _ (k d p)⟩⟩
  obtain ⟨F1, ρ, a, q⟩ := q
  refine ⟨F1, ρ, a, ha.mono _ _ _ (fun ds q vs F2 H2 f2 d2 => ?_) q⟩
  obtain ⟨Pd, q, m⟩ := q
  intro x dx hx hdx ndx
  obtain ⟨G2, old⟩ := made_in f2.good (C := C) hx hdx ndx
  exact ⟨c.W, F2, H2, x, dx, _, _, Pd, rfl, f2.good, G2, upd_same, hx, old, d2.append (hdd F2), q, fun o po ea as F' H' fr ko nw => ⟨rfl, m o po x as F' H' (f2.trans fr) ko (nw.back f2.lives)⟩⟩
/-- y = C(e, .., k = v, ..), of one's own -/
@[simp] def dNewOK (i : Nat) (C : Addr) (g : GI) (W : Option Addr) (n m : Nat) (da dk : DA) : DS := fun De ρ => da ρ fun ds => dk ρ fun es => ds.length = n ∧ es.length = m ∧ ∃ Pf, g W (ds ++ es) Pf ∧ ∀ fs x, Pf fs → De.nx (ρ.set i (.own (.obj x C fs)))
/-- list(range(n)) -/
@[simp] def dListRg (de : DE) : DE := fun ρ P => de ρ fun d => ∃ n : Int, d = .int n ∧ n ≤ 1000 ∧ 0 ≤ n ∧ P (.lst ((List.range n.toNat).map fun (i : Nat) => D.int (i : Int)))
end
/-! == of one's own -/
section
variable {X : Cx} {c : Dx}
def rOwnZ (K : PySem.W.Frag) (C : Addr) (g : GX) (neg : Bool) : R2 := fun x y H Q => ∃ a b dx dy fs gs, x = .ref a ∧ y = .ref b ∧ H a = some (.ins C dx fs) ∧ H b = some (.ins C dy gs) ∧
  spZ K g [x, y] H (fun v H' => ∃ r, v = .bl r ∧ Q (.bl (r != neg)) H') fun _ _ _ => False
section
variable {n : Nat} {C f : Addr} {fd : FuncData} {ps : List Str} {g : GX}
theorem op_eqZ (F : FnOk X.prog X.w X.K X.mg X.base CX0 n f fd ps (spZ X.K g)) (e : EqC X.K C f) (hb : Binds X.K fd ps []) (hr : Room n X.A) : OpR X (compareOp .Eq) (rOwnZ X.K C g false) := by
  intro pins s σ H x y v u Q I rx ry h
  obtain ⟨a, b, dx, dy, fs, gs, rfl, rfl, ha, hb', hsp⟩ := h
  cases rx
  cases ry
  obtain ⟨mA, J, _⟩ := ins_get I.hok ha
  obtain ⟨mB, J', _⟩ := ins_get I.hok hb'
  obtain ⟨od, J, _⟩ := J.look
  obtain ⟨od', J', _⟩ := J'.look
  obtain ⟨m, hF⟩ := I.fr
  show wpAny (model X.prog X.w) X.A (richCompare .Eq (.ref a) (.ref b)) (EP X pins σ Q) X.xe s
  have hl := F.len _ _ _ _ hsp
  have r2 : Vals [V.ref a, V.ref b] [Value.ref a, Value.ref b] := .cons rfl (.cons rfl .nil)
  refine PySem.W.cmp_K (op := .Eq) (tb := .ref C) hr.units0 hF I.ok.mod.kin J J'.type (by simp [PySem.W.notFirst]) e.eq e.fn ?_
  refine wpAny_call (codeAny_mono (F.run X.A X.stack s H ⟨[.ref a, .ref b], []⟩ [.ref a, .ref b] [.ref a, .ref b] _ _ hr I.env0 (by
    have := hb s [.ref a, .ref b] I.kIn (by simpa using hl)
    simpa using this) r2 hsp) fun r s' hq => ?_)
  cases r with
  | error e => exact False.elim hq
  | ok fl =>
    cases fl with
    | ret w =>
      obtain ⟨z, H', I', rz, k, ez, q⟩ := I.after hq
      subst ez
      cases rz
      rw [bxor_f] at q
      exact ⟨.bl _, H', I', rfl, q⟩
    | next => exact False.elim hq
    | brk => exact False.elim hq
    | cont => exact False.elim hq
end
/-- == of two instances of C -/
def fOwnZ (C : Addr) (g : GX) (W : Option Addr) (neg : Bool) : F2 := fun x y P => ∃ fs gs, x = .ins C fs ∧ y = .ins C gs ∧ cl g W [x, y] fun d => ∃ k, d = .bl k ∧ P (.bl (k != neg))
theorem mono_fOwnZ {C : Addr} {g : GX} {W : Option Addr} {neg : Bool} : Mono2 (fOwnZ C g W neg) := fun x y P P' m ⟨fs, gs, a, b, Pd, q, k⟩ => ⟨fs, gs, a, b, Pd, q, fun d p => let ⟨r, e, p⟩ := k d p; ⟨r, e, m _ p⟩⟩
theorem serves_ownZ {C : Addr} {g : GX} {neg : Bool} : Serves X c (rOwnZ X.K C g neg) (fOwnZ C g c.W neg) := by
  intro F H x y dx dy P Q G hx hy h q
  obtain ⟨fs, gs, rfl, rfl, Pd, hg, m⟩ := h
  have hx' := hx
  have hy' := hy
  cases hx with
  | ins h1 h2 =>
    cases hy with
    | ins h3 h4 =>
      refine ⟨_, _, _, _, _, _, rfl, rfl, G.sub _ _ h1, G.sub _ _ h3, c.W, F, [_, _], Pd, G, .cons hx' (.cons hy' .nil), hg, fun d p v F' H' fr dv => ?_⟩
      obtain ⟨k, rfl, p'⟩ := m d p
      cases dv
      exact ⟨k, rfl, q _ _ F' H' p' fr (.bl _)⟩
end
end DL
set_option Elab.async false
set_option linter.all false
set_option maxRecDepth 100000
set_option maxHeartbeats 2000000
set_option autoImplicit false
/-! the script; list(range(n)) -/
namespace DL
open PySem PySem.Spec PyProof.Rows L2
section
variable {X : Cx} {c : Dx}
/-- script[lo:hi] -/
@[simp] def dSlS (te : DE) (tl th : DO) : DE := fun ρ P => te ρ fun x => tl ρ fun l => th ρ fun u => ∃ ns, x = .scr ns ∧ P (.lst (cutD (ns.map D.int) l u))
end
section
variable {P : Program} {w : World} {K : PySem.W.Frag} {mg : Str → Option Value} {base : Heap}
/-- what a law promises -/
def spLawD (K : PySem.W.Frag) : Sp := fun vs H Q _ => ∃ (a : Addr) (ns : List Int), vs = [.ref a] ∧ SqL K H a (ns.map V.int) ∧ ns.length ≤ 63 ∧ ∀ H', Q (.bl true) H'
end
end DL
set_option Elab.async false
set_option linter.all false
set_option maxRecDepth 100000
set_option maxHeartbeats 2000000
set_option autoImplicit false
/-! what is never reached; {k: v for ..} over nothing -/
namespace DL
open PySem PySem.Spec PyProof.Rows L2
section
variable {X : Cx} {c : Dx}
@[simp] def dDc0 (di : DA) : DE := fun ρ P => di ρ fun xs => xs = [] ∧ P (.dct [])
/-! truth of lists and tuples -/
@[simp] def dSeqT (de : DE) : DT := fun ρ P => de ρ fun d => ∃ l, seqD d = some l ∧ P (!l.isEmpty)
theorem empty_dat {K : PySem.W.Frag} {F : Hp} {v : List V} {d : List D} (h : DatL K F v d) : v.isEmpty = d.isEmpty := by cases h <;> rfl
theorem pdt_seq {a : Expr} {da : DE} (h : PD X c a da) (he : ∀ whole, isTrue a X.env whole = (do let v ← whole; standAt a.pos; holding [v] (truthy v)) := by intro _; rfl) : PDT X c a (dSeqT da) := by
  refine ⟨impT (pt_truth h.pe he) fun σ H Q q => ?_, fun ρ P P' m => h.mono ρ _ _ fun x ⟨l, e, p⟩ => ⟨l, e, m _ p⟩⟩
  obtain ⟨F, ρ, a, q⟩ := q
  refine ⟨F, ρ, a, h.mono _ _ _ (fun d q v F1 H1 f1 d1 => ?_) q⟩
  obtain ⟨l, e, q⟩ := q
  cases d1 with
  | lst hs hl => cases e; exact ⟨_, .inl ⟨_, .of (f1.good.sub _ _ hs), by rw [empty_dat hl]⟩, q F1 H1 f1⟩
  | tup hs hl => cases e; exact ⟨_, .inr (.inl ⟨_, sqT_mono f1.good.sub hs, by rw [empty_dat hl]⟩), q F1 H1 f1⟩
  | _ => cases e
end
end DL
set_option Elab.async false
set_option linter.all false
set_option maxRecDepth 100000
set_option maxHeartbeats 4000000
set_option autoImplicit false
namespace DL
open PySem PySem.Spec PyProof.Rows L2
section
variable {X : Cx} {c : Dx}
/-- x, y = a, b, both new and one's own -/
@[simp] def dParN (i j : Nat) (d1 d2 : DEo) : DS := fun De ρ => d1 ρ fun o => d2 ρ fun u => De.nx ((ρ.set i (.own o)).set j (.own u))
end
end DL
set_option Elab.async false
set_option linter.all false
set_option maxRecDepth 100000
set_option maxHeartbeats 1000000
set_option autoImplicit false
/-! type(x) == T, fields of one's own objects, fields of one of two classes, isinstance of an own class for all values -/
namespace DL
open PySem PySem.Spec PyProof.Rows L2
section
theorem slot_type_ne : Slot "type" (cmpInfo .NotEq).2.1 "object.__ne__" :=
  .of (owner := "object") (n := "__ne__") (by rw [typeLookup_type, builtinLookup_eq_fast]; kernel_rfl) (by decide +kernel) (by decide +kernel) (by decide +kernel)
    (by first | exact .inl (by decide +kernel) | exact .inr (by decide +kernel)) (by rw [isSubtype_type]; kernel_rfl)
theorem slot_type_ne_refl : Slot "type" (cmpInfo .NotEq).2.2 "object.__ne__" :=
  .of (owner := "object") (n := "__ne__") (by rw [typeLookup_type, builtinLookup_eq_fast]; kernel_rfl) (by decide +kernel) (by decide +kernel) (by decide +kernel)
    (by first | exact .inl (by decide +kernel) | exact .inr (by decide +kernel)) (by rw [isSubtype_type]; kernel_rfl)
variable {prog : Program} {w : World} {A : Around} {E : Value → Shared → Prop} {s : Shared}
theorem objNe_same {X : String} (hX : ∀ s' : Shared, s'.TypeIs (.type X) "type") {Q : Fin → Shared → Prop} (h : Q (.done (.ret (.bool false))) s) : wpAny (model prog w) A (Builtin.«object.__ne__» ⟨[.type X, .type X], []⟩) Q E s := by
  unfold Builtin.«object.__ne__»
  repeat (first
    | with_reducible refine wpAny_cRoomFor_or (.inl rfl) ?_
    | (refine wpAny_bind (m := callSpecialIfBound? (.type X) (Str.ofString "__eq__") [.type X]) (wpAny_callSpecialIfBound?_slot (hX s) TypeEq.slot_type_eq
        (call_gives TypeEq.slot_type_eq (hX s) F.entry_object_eq (F.args_object_eq_2 _ _) (TypeEq.object_eq_same rfl (by simp)) ?_)))
    | (refine wpAny_bind (m := truthy (.bool _)) (wpAny_truthy_bool ?_))
    | wp_step)
  exact h
theorem objNe_other {X Y : String} (hX : ∀ s' : Shared, s'.TypeIs (.type X) "type") (hne : (Value.type X == Value.type Y) = false) {Q : Fin → Shared → Prop} (h : Q (.done (.ret .notImplemented)) s) : wpAny (model prog w) A (Builtin.«object.__ne__» ⟨[.type X, .type Y], []⟩) Q E s := by
  unfold Builtin.«object.__ne__»
  repeat (first
    | with_reducible refine wpAny_cRoomFor_or (.inl rfl) ?_
    | (refine wpAny_bind (m := callSpecialIfBound? (.type X) (Str.ofString "__eq__") [.type Y]) (wpAny_callSpecialIfBound?_slot (hX s) TypeEq.slot_type_eq
        (call_gives TypeEq.slot_type_eq (hX s) F.entry_object_eq (F.args_object_eq_2 _ _) (TypeEq.object_eq_other rfl hne) (show wpAny _ _ _ _ _ _ from ?_))))
    | wp_step)
  exact h
theorem wpAny_richCompare_ne_same_decline {M : Model} {a b : Value} {T id : String} {k : Bool} {Q : Value → Shared → Prop} (ha : ∀ s' : Shared, s'.TypeIs a T) (hb : ∀ s' : Shared, s'.TypeIs b T)
    (h1 : Slot T (cmpInfo .NotEq).2.1 id) (h2 : Slot T (cmpInfo .NotEq).2.2 id) (hv : [a, b].any Value.onHeap = false) (hk : isSame a b = pure k)
    (hc : wpAny M A (call (.builtin id) [a, b]) (fun v s₁ => v = .notImplemented ∧ wpAny M A (call (.builtin id) [b, a]) (fun v s₂ => v = .notImplemented ∧ Q (.bool (!k)) s₂) E s₁) E s) :
    wpAny M A (richCompare .NotEq a b) Q E s := by
  rcases hi : cmpInfo CmpOp.NotEq with ⟨sym, f, r⟩
  rw [hi] at h1 h2
  simp only [richCompare, hi, (ha s).oneThing_none]
  try with_reducible refine wpAny_holding ?_
  refine wpAny_bind (wpAny_cRoomFor_or (.inl hv) ?_)
  refine wpAny_bind (wpAny_typeOf (ha s) (wpAny_bind (wpAny_typeOf (hb s) ?_)))
  simp only [bne_self_eq_false, Bool.false_eq_true, if_false, pure_bind, Bool.not_false, if_true]
  refine wpAny_bind (m := tryCompare a _ b) (wpAny_tryCompare_declines (ha s) h1 (wpAny_mono hc (fun v s₁ h₁ => ⟨h₁.1, ?_⟩) fun _ _ x => x))
  refine wpAny_bind (m := tryCompare b _ a) (wpAny_tryCompare_declines (hb s₁) h2 (wpAny_mono h₁.2 (fun v s₂ h₂ => ⟨h₂.1, ?_⟩) fun _ _ x => x))
  refine wpAny_bind (wpAny_rule (wpAny_bind (wpAny_of_eq hk (wpAny_pure h₂.2))))
theorem ne_type_same {X : String} (hX : ∀ s' : Shared, s'.TypeIs (.type X) "type") {Q : Value → Shared → Prop} (h : Q (.bool false) s) : wpAny (model prog w) A (compareOp .NotEq (.type X) (.type X)) Q E s := by
  show wpAny _ A (richCompare .NotEq _ _) Q E s
  exact wpAny_richCompare_same (T := "type") (hX s) (hX s) slot_type_ne
    (wpAny_call_entry slot_type_ne (hX s) F.cmpEntry_ne (objNe_same hX ⟨_, rfl, (by intro e; cases e), h⟩) (F.cmpArgs_ne _ _))
theorem ne_type_other {X Y : String} (hX : ∀ s' : Shared, s'.TypeIs (.type X) "type") (hY : ∀ s' : Shared, s'.TypeIs (.type Y) "type") (hne : (Value.type X == Value.type Y) = false) {Q : Value → Shared → Prop} (h : Q (.bool true) s) : wpAny (model prog w) A (compareOp .NotEq (.type X) (.type Y)) Q E s := by
  have hne' : (Value.type Y == Value.type X) = false := by
    rw [Bool.eq_false_iff] at hne ⊢
    intro e
    exact hne (by rw [beq_iff_eq] at e ⊢; exact e.symm)
  show wpAny _ A (richCompare .NotEq _ _) Q E s
  exact wpAny_richCompare_ne_same_decline (T := "type") (k := false) hX hY slot_type_ne slot_type_ne_refl rfl (by rw [isSame_plain rfl, hne])
    (wpAny_call_entry slot_type_ne (hX s) F.cmpEntry_ne (objNe_other hX hne ⟨_, rfl, rfl,
      wpAny_call_entry slot_type_ne_refl (hY s) F.cmpEntry_ne (objNe_other hY hne' ⟨_, rfl, rfl, h⟩) (F.cmpArgs_ne _ _)⟩) (F.cmpArgs_ne _ _))
end
/-! the types whose own type is plainly type -/
theorem meta_of {T : String} (h : T ∈ tnames) : ∀ s' : Shared, s'.TypeIs (.type T) "type" := by
  simp only [tnames, List.mem_cons, List.not_mem_nil, or_false] at h
  rcases h with rfl | rfl | rfl | rfl | rfl | rfl | rfl
  · exact TypeEq.meta_NoneType
  · exact TypeEq.meta_bool
  · exact TypeEq.meta_int
  · exact TypeEq.meta_str
  · exact TypeEq.meta_tuple
  · exact TypeEq.meta_list
  · exact TypeEq.meta_dict
section
variable {X : Cx} {c : Dx}
def rTyCmp (n : Bool) : R2 := fun x y H Q => ∃ a b, x = .ty a ∧ y = .ty b ∧ a ∈ tnames ∧ b ∈ tnames ∧ Q (.bl (decide (a = b) != n)) H
theorem op_eqTy : OpR X (compareOp .Eq) (rTyCmp false) := by
  intro pins s σ H x y v u Q I rx ry h
  obtain ⟨a, b, rfl, rfl, ha, hb, q⟩ := h
  cases (show v = Value.type a from rx)
  cases (show u = Value.type b from ry)
  by_cases e : a = b
  · subst e
    exact TypeEq.eq_type_same (meta_of ha) ⟨.bl true, H, I, rfl, by simpa using q⟩
  · exact TypeEq.eq_type_other (meta_of ha) (meta_of hb) ((ty_beq a b).trans (decide_eq_false e)) ⟨.bl false, H, I, rfl, by simpa [e] using q⟩
theorem op_neTy : OpR X (compareOp .NotEq) (rTyCmp true) := by
  intro pins s σ H x y v u Q I rx ry h
  obtain ⟨a, b, rfl, rfl, ha, hb, q⟩ := h
  cases (show v = Value.type a from rx)
  cases (show u = Value.type b from ry)
  by_cases e : a = b
  · subst e
    exact ne_type_same (meta_of ha) ⟨.bl false, H, I, rfl, by simpa using q⟩
  · exact ne_type_other (meta_of ha) (meta_of hb) ((ty_beq a b).trans (decide_eq_false e)) ⟨.bl true, H, I, rfl, by simpa [e] using q⟩
def fTyCmp (n : Bool) : F2 := fun x y P => ∃ a b, x = .ty a ∧ y = .ty b ∧ a ∈ tnames ∧ b ∈ tnames ∧ P (.bl (decide (a = b) != n))
theorem mono_fTyCmp {n : Bool} : Mono2 (fTyCmp n) := fun _ _ _ _ m ⟨a, b, h1, h2, h3, h4, p⟩ => ⟨a, b, h1, h2, h3, h4, m _ p⟩
theorem serves_tyCmp {n : Bool} : Serves X c (rTyCmp n) (fTyCmp n) := by
  intro F H x y dx dy P Q G hx hy h q
  obtain ⟨a, b, rfl, rfl, h3, h4, p⟩ := h
  cases hx
  cases hy
  exact ⟨a, b, rfl, rfl, h3, h4, q _ _ F H p G.rfl (.bl _)⟩
/-- type(x) -/
def rTypX (K : PySem.W.Frag) : List V → Hp → VK → Prop := fun xs H Q => rTyp K xs H Q ∨ ∃ a, xs = [.ref a] ∧ IsD H a ∧ Q (.ty "dict") H
theorem call_typX : CallR X (.type "type") (rTypX X.K) := by
  intro pins s σ H xs us Q I r h
  rcases h with h | ⟨a, rfl, hd, q⟩
  · exact call_type1 pins s σ H xs us Q I r h
  · obtain ⟨u, rfl, rx⟩ := vals1 r
    cases (show u = Value.ref a from rx)
    exact call_type_of (isD_at I hd).1 (by decide +kernel) ⟨.ty "dict", H, I, rfl, q⟩
def fTyp : FN := fun ds P => ∃ x t, ds = [x] ∧ x.tn = some t ∧ P (.ty t)
theorem mono_fTyp : MonoF fTyp := fun ds P P' m ⟨x, t, a, b, p⟩ => ⟨x, t, a, b, m _ p⟩
theorem serves_typ : ServesC X c (rTypX X.K) fTyp := by
  intro F H xs ds P Q G hx h q
  obtain ⟨x, t, rfl, ht, p⟩ := h
  obtain ⟨v, rfl, h1⟩ := datL1 hx
  have q' := q _ _ F H p G.rfl (.ty t)
  cases h1 with
  | non => cases ht; exact .inl ⟨_, _, rfl, .non, q'⟩
  | bl b => cases ht; exact .inl ⟨_, _, rfl, .bl b, q'⟩
  | int i => cases ht; exact .inl ⟨_, _, rfl, .int i, q'⟩
  | str x => cases ht; exact .inl ⟨_, _, rfl, .str x, q'⟩
  | ty _ => cases ht
  | adr _ => cases ht
  | tup hs _ => cases ht; exact .inl ⟨_, _, rfl, .tup (sqT_mono G.sub hs), q'⟩
  | lst hs _ => cases ht; exact .inl ⟨_, _, rfl, .lst (.of (G.sub _ _ hs)), q'⟩
  | ins _ _ => cases ht
  | dct hs _ => cases ht; exact .inr ⟨_, rfl, .inl ⟨_, .inr ⟨_, G.sub _ _ hs⟩⟩, q'⟩
  | scr _ => cases ht
/-! fields of an object of one's own -/
@[simp] def dOfld (i : Nat) (C : Addr) (f : Str) : DE := fun ρ P => ∃ x fs v, ρ[i]? = some (.own (.obj x C fs)) ∧ fs.lookup f = some v ∧ P v
/-! a field of an instance of one of two classes -/
/-! isinstance(x, C), C an own class: of its instances, and of values of built-in types -/
theorem kitCls_of {K : PySem.W.Frag} {t : Value} {C : Addr} {b : Bool} (h1 : (PySem.W.clsIn K C).isSome = true) (h2 : PySem.W.typeIn K (.ref C) = some (.type "type")) (h3 : PySem.W.subIn K t (.ref C) = some b) : PySem.W.kitCls K t (.ref C) = some b := by
  unfold PySem.W.kitCls
  simp only [h1, h2, h3, Bool.true_and]
  rfl
theorem kitOne_no {K : PySem.W.Frag} {t : String} {C : Addr} (h0 : PySem.W.hasDictIn K C = true) (h2 : PySem.W.typeIn K (.ref C) = some (.type "type")) (h3 : PySem.W.subIn K (.type t) (.ref C) = some false) : PySem.W.kitOne K (.type t) (.ref C) = some false := by
  unfold PySem.W.kitOne
  rw [if_neg (by simp)]
  refine kitCls_of ?_ h2 h3
  unfold PySem.W.hasDictIn at h0
  cases q : PySem.W.clsIn K C with
  | none => rw [q] at h0; cases h0
  | some _ => rfl
structure IsK (K : PySem.W.Frag) (C : Addr) : Prop where
  ins : C8.InsC K C
  no : ∀ t ∈ tnames, PySem.W.kitOne K (.type t) (.ref C) = some false
def fIsK (C : Addr) : FN := fun ds P => (∃ fs, ds = [.ins C fs, .adr C] ∧ P (.bl true)) ∨ ∃ x t, ds = [x, .adr C] ∧ x.tn = some t ∧ P (.bl false)
theorem mono_fIsK {C : Addr} : MonoF (fIsK C) := fun ds P P' m h => h.elim (fun ⟨fs, a, p⟩ => .inl ⟨fs, a, m _ p⟩) fun ⟨x, t, a, b, p⟩ => .inr ⟨x, t, a, b, m _ p⟩
def rIsK (K : PySem.W.Frag) (C : Addr) : List V → Hp → VK → Prop := fun xs H Q => (∃ a dx fs, xs = [.ref a, .ref C] ∧ H a = some (.ins C dx fs) ∧ Q (.bl true) H) ∨ ∃ x t, xs = [x, .ref C] ∧ t ∈ tnames ∧ TyX K H x (.type t) ∧ Q (.bl false) H
theorem call_isK {C : Addr} (k : IsK X.K C) : CallR X (.builtin "isinstance") (rIsK X.K C) := by
  intro pins s σ H xs us Q I r h
  rcases h with h | ⟨x, t, rfl, ht, hx, q⟩
  · exact C8.call_isC k.ins pins s σ H xs us Q I r h
  · exact call_isi pins s σ H _ us Q I r ⟨x, .ref C, .type t, .ref C, false, rfl, .own C, hx, k.no t ht, q⟩
theorem serves_isK {C : Addr} : ServesC X c (rIsK X.K C) (fIsK C) := by
  intro F H xs ds P Q G hx h q
  rcases h with ⟨fs, rfl, p⟩ | ⟨x, t, rfl, ht, p⟩
  · obtain ⟨v, u, rfl, h1, h2⟩ := datL2 hx
    cases h2
    cases h1 with
    | ins hi _ => exact .inl ⟨_, _, _, rfl, G.sub _ _ hi, q _ _ F H p G.rfl (.bl _)⟩
  · obtain ⟨v, u, rfl, h1, h2⟩ := datL2 hx
    cases h2
    exact .inr ⟨v, t, rfl, tn_mem ht, tyx_sub G.sub (tyx_of h1 ht), q _ _ F H p G.rfl (.bl _)⟩
end
end DL
set_option Elab.async false
set_option linter.all false
set_option maxRecDepth 100000
set_option maxHeartbeats 1000000
set_option autoImplicit false
/-! statements, the last of which is shown by hand -/
namespace DL
open PySem PySem.Spec PyProof.Rows L2
end DL
set_option Elab.async false
set_option linter.all false
set_option maxRecDepth 100000
set_option maxHeartbeats 1000000
set_option autoImplicit false
/-! data that can be compared and shown -/
namespace DL
open PySem PySem.Spec PyProof.Rows L2
theorem log_of {i : Int} (h1 : -(10 ^ 50) ≤ i) (h2 : i ≤ 10 ^ 50) : i.natAbs.log2 < 190 := by
  by_cases h : i.natAbs = 0
  · rw [h]; decide
  · rw [Nat.log2_lt h]
    have : i.natAbs ≤ 10 ^ 50 := by omega
    exact Nat.lt_of_le_of_lt this (by decide)
mutual
/-- small ints, short texts -/
def D.fin : D → Bool
  | .non => true
  | .bl _ => true
  | .int i => decide (-(10 ^ 50) ≤ i) && decide (i ≤ 10 ^ 50)
  | .str x => decide (x.cps.size ≤ 10) && PyData.strOk x && PyData.strOk (reprText x)
  | .tup xs => D.finL xs
  | .lst xs => D.finL xs
  | _ => false
def D.finL : List D → Bool
  | [] => true
  | x :: xs => D.fin x && D.finL xs
end
mutual
def D.wt : D → Nat
  | .int _ => 190
  | .str _ => 10
  | .tup xs => D.wtL xs
  | .lst xs => D.wtL xs
  | _ => 0
def D.wtL : List D → Nat
  | [] => 0
  | x :: xs => D.wt x + 1 + D.wtL xs
end
mutual
def D.dep : D → Nat
  | .tup xs => D.depL xs + 1
  | .lst xs => D.depL xs + 1
  | _ => 0
def D.depL : List D → Nat
  | [] => 0
  | x :: xs => max (D.dep x) (D.depL xs)
end
structure PyF (p : PyData) (w d : Nat) : Prop where
  lay : p.canLay0 = true
  lvs : p.leavesShort 1921 = true
  shw : p.showable = true
  wt : p.weight ≤ w
  dep : p.depth ≤ d
  eqv : PyData.eqv p p = true
  txt : PyData.strOk p.shown = true
structure PyFL (p : List PyData) (w d : Nat) : Prop where
  lay : PyData.canLayAll0 p = true
  lvs : PyData.leavesShortAll 1921 p = true
  shw : PyData.showableAll p = true
  wt : PyData.weightAll p ≤ w
  dep : PyData.depthAll p ≤ d
  eqv : PyData.eqvAll p p = true
  txt : ∀ t ∈ PyData.shownAll p, PyData.strOk t = true
theorem ok_app {a b : Str} (h : PyData.strOk a = true) (k : PyData.strOk b = true) : PyData.strOk (a ++ b) = true := by
  show (a.cps ++ b.cps).all _ = true
  rw [Array.all_append]
  simp only [Bool.and_eq_true]
  exact ⟨h, k⟩
theorem ok_int (i : Int) : PyData.strOk (PyData.shown (.int i)) = true := by
  show Array.all _ _ = true
  rw [← Array.all_toList, List.all_eq_true]
  intro c hc
  rw [decide_eq_true_eq]
  refine Nat.lt_of_not_le fun z => ?_
  exact shown_int_free' (k := c) ⟨by omega, by omega⟩ i hc
theorem ok_from : ∀ (ts : List Str) (k : Nat) (acc : Str), PyData.strOk acc = true → (∀ t ∈ ts, PyData.strOk t = true) → PyData.strOk (textFrom k acc ts) = true
  | [], _, acc, h, _ => h
  | t :: r, k, acc, h, ht => by
    refine ok_from r (k + 1) _ (ok_app (ok_app h ?_) (ht t List.mem_cons_self)) fun u hu => ht u (List.mem_cons_of_mem _ hu)
    by_cases q : k > 0
    · rw [if_pos q]; decide +kernel
    · rw [if_neg q]; decide +kernel
theorem ok_list {ts : List Str} (h : ∀ t ∈ ts, PyData.strOk t = true) : PyData.strOk (listText ts) = true := ok_app (ok_from ts 0 _ (by decide +kernel) h) (by decide +kernel)
theorem ok_join : ∀ (ts : List Str), (∀ t ∈ ts, PyData.strOk t = true) → PyData.strOk (Str.join ", " ts) = true
  | [], _ => by decide +kernel
  | [x], h => h x List.mem_cons_self
  | x :: y :: r, h => ok_app (ok_app (h x List.mem_cons_self) (by decide +kernel)) (ok_join (y :: r) fun u hu => h u (List.mem_cons_of_mem _ hu))
theorem ok_tup {ts : List Str} (h : ∀ t ∈ ts, PyData.strOk t = true) : PyData.strOk (tupleText ts) = true := by
  refine ok_app (ok_app (by decide +kernel) (ok_join ts h)) ?_
  by_cases q : (ts.length == 1) = true
  · rw [if_pos q]; decide +kernel
  · rw [if_neg q]; decide +kernel
theorem sh_int {i : Int} (h : i.natAbs.log2 < 190) : (PyData.shown (.int i)).length ≤ 1921 := int_text_len_1921 (i := i) (by omega)
mutual
theorem D.fin_py : ∀ d : D, d.fin = true → ∃ p, d.py = some p ∧ PyF p d.wt d.dep
  | .non, _ => ⟨.none, rfl, ⟨rfl, rfl, rfl, Nat.le_refl _, Nat.le_refl _, rfl, by decide +kernel⟩⟩
  | .bl b, _ => ⟨.bool b, rfl, ⟨rfl, rfl, rfl, Nat.le_refl _, Nat.le_refl _, by simp [PyData.eqv], by cases b <;> decide +kernel⟩⟩
  | .int i, h => by
    simp only [D.fin, Bool.and_eq_true, decide_eq_true_eq] at h
    have l := log_of h.1 h.2
    refine ⟨.int i, rfl, ⟨rfl, by simp only [PyData.leavesShort, decide_eq_true_eq]; exact sh_int l, by simp only [PyData.showable, decide_eq_true_eq]; omega, ?_, Nat.le_refl _, by simp [PyData.eqv], ok_int i⟩⟩
    simp only [PyData.weight, D.wt]
    split <;> omega
  | .str x, h => by
    simp only [D.fin, Bool.and_eq_true, decide_eq_true_eq] at h
    refine ⟨.str x, rfl, ⟨by simpa [PyData.canLay0] using h.1.2, ?_, rfl, by simpa [PyData.weight, D.wt] using h.1.1, Nat.le_refl _, by simp [PyData.eqv], h.2⟩⟩
    exact PyData.leavesShort_of_canLay0 1921 (.str x) (by simpa [PyData.canLay0] using h.1.2) rfl
  | .tup xs, h => by
    obtain ⟨p, e, k⟩ := D.finL_py xs (by simpa [D.fin] using h)
    exact ⟨.tuple p, by simp [D.py, e], ⟨by simpa [PyData.canLay0] using k.lay, by simpa [PyData.leavesShort] using k.lvs, by simpa [PyData.showable] using k.shw, by simpa [PyData.weight, D.wt] using k.wt, by simpa [PyData.depth, D.dep] using k.dep, by simpa [PyData.eqv] using k.eqv, by simpa [PyData.shown] using ok_tup k.txt⟩⟩
  | .lst xs, h => by
    obtain ⟨p, e, k⟩ := D.finL_py xs (by simpa [D.fin] using h)
    exact ⟨.list p, by simp [D.py, e], ⟨by simpa [PyData.canLay0] using k.lay, by simpa [PyData.leavesShort] using k.lvs, by simpa [PyData.showable] using k.shw, by simpa [PyData.weight, D.wt] using k.wt, by simpa [PyData.depth, D.dep] using k.dep, by simpa [PyData.eqv] using k.eqv, by simpa [PyData.shown] using ok_list k.txt⟩⟩
  | .ty _, h => by simp [D.fin] at h
  | .adr _, h => by simp [D.fin] at h
  | .ins _ _, h => by simp [D.fin] at h
theorem D.finL_py : ∀ l : List D, D.finL l = true → ∃ p, D.pyL l = some p ∧ PyFL p (D.wtL l) (D.depL l)
  | [], _ => ⟨[], rfl, ⟨rfl, rfl, rfl, Nat.le_refl _, Nat.le_refl _, rfl, fun t h => by simp [PyData.shownAll] at h⟩⟩
  | x :: xs, h => by
    simp only [D.finL, Bool.and_eq_true] at h
    obtain ⟨p, e, k⟩ := D.fin_py x h.1
    obtain ⟨ps, es, ks⟩ := D.finL_py xs h.2
    refine ⟨p :: ps, by simp [D.pyL, e, es], ⟨by simp [PyData.canLayAll0, k.lay, ks.lay], by simp [PyData.leavesShortAll, k.lvs, ks.lvs], by simp [PyData.showableAll, k.shw, ks.shw], ?_, ?_, by simp [PyData.eqvAll, k.eqv, ks.eqv], fun t ht => ?_⟩⟩
    · have := k.wt
      have := ks.wt
      simp only [PyData.weightAll, D.wtL]
      omega
    · have := k.dep
      have := ks.dep
      simp only [PyData.depthAll, D.depL]
      omega
    · simp only [PyData.shownAll] at ht
      rcases List.mem_cons.mp ht with rfl | ht
      · exact k.txt
      · exact ks.txt t ht
end
theorem fRepr_of {d : D} {P : D → Prop} (hk : ∃ l, d = .lst l ∨ d = .tup l) (h : d.fin = true) (hd : d.dep ≤ 50) (hw : d.wt ≤ 8000) (p : ∀ s : Str, (∃ q, d.py = some q ∧ s = q.shown) → P (.str s)) : fRepr [d] P := by
  obtain ⟨q, e, k⟩ := d.fin_py h
  refine ⟨d, q, rfl, hk, e, k.shw, PyData.hasDict_of_canLay q k.lay, Nat.le_trans k.dep hd, ?_, p _ ⟨q, e, rfl⟩⟩
  have z := PyData.shown_le 1921 (by decide) q k.lvs
  have : q.weight ≤ 8000 := Nat.le_trans k.wt hw
  have : (1921 + 2) * q.weight ≤ 1923 * 8000 := Nat.mul_le_mul (by decide) this
  have : sizeLine = 16777216 := by decide
  omega
/-- what repr tells of data -/
def shD (d : D) : D := match d.py with
  | some p => .str p.shown
  | none => .non
theorem fRepr_sh {d : D} {P : D → Prop} (hk : ∃ l, d = .lst l ∨ d = .tup l) (h : d.fin = true) (hd : d.dep ≤ 50) (hw : d.wt ≤ 8000) (p : P (shD d)) : fRepr [d] P :=
  fRepr_of hk h hd hw fun s ⟨q, e, es⟩ => by
    subst es
    have : shD d = .str q.shown := by unfold shD; rw [e]
    rw [this] at p
    exact p
theorem sh_py {d : D} (h : d.fin = true) : ∃ s : Str, shD d = .str s ∧ PyData.strOk s = true := by
  obtain ⟨q, e, k⟩ := d.fin_py h
  exact ⟨q.shown, by unfold shD; rw [e], k.txt⟩
theorem finL_all {l : List D} : D.finL l = true ↔ ∀ x ∈ l, x.fin = true := by
  induction l with
  | nil => simp [D.finL]
  | cons x r ih => simp [D.finL, ih]
theorem wtL_le {l : List D} {n : Nat} (h : ∀ x ∈ l, x.wt ≤ n) : D.wtL l ≤ l.length * (n + 1) := by
  induction l with
  | nil => simp [D.wtL]
  | cons x r ih =>
    have h1 := h x List.mem_cons_self
    have h2 := ih fun y hy => h y (List.mem_cons_of_mem _ hy)
    simp only [D.wtL, List.length_cons, Nat.add_mul]
    omega
theorem depL_le {l : List D} {n : Nat} (h : ∀ x ∈ l, x.dep ≤ n) : D.depL l ≤ n := by
  induction l with
  | nil => simp [D.depL]
  | cons x r ih =>
    have h1 := h x List.mem_cons_self
    have h2 := ih fun y hy => h y (List.mem_cons_of_mem _ hy)
    simp only [D.depL]
    omega
end DL
set_option Elab.async false
set_option linter.all false
set_option maxRecDepth 100000
set_option maxHeartbeats 1000000
set_option autoImplicit false
/-! f(k = v, ..); a def that shows data, any promise -/
namespace DL
open PySem PySem.Spec PyProof.Rows L2
section
variable {P : Program} {w : World} {K : PySem.W.Frag} {mg : Str → Option Value} {base : Heap}
theorem okGs {x qual : Str} {st : Stmt} {f : Addr} {fd : FuncData} {N ps : List Str} {k : Nat} {sp : Sp} (F : Fun K x qual st f fd) (S : FnScope N ps (defScope st)) (hlen : ∀ vs H Q E, sp vs H Q E → vs.length = ps.length)
    (hbody : ∀ (cdv : Value) (A : Around) (outer : List Env) (s : Shared) (H : Hp) (vs : List V) (Q : VK) (E : XK), A.guards = some [] → Room k (A.deeper (envOfC qual (defScope st) s.heap.objs.size f cdv)) → sp vs H Q E →
      ∃ t, PSs ((cxOf CX0 P w K mg base N qual (defScope st) f cdv A outer s H E).nox) (defBody st) t ∧ t { nx := fun _ H' => Q .non H', rt := Q } (start N vs) H) : FnG P w K mg base (k + 1) f fd ps sp := by
  refine ⟨hlen, fun A outer s H args us vs Q E hg hr e0 hb r hsp => ?_⟩
  obtain ⟨oc, od, kV, doc, pm, an, cdv, ct, osl, rfl, lk, hcd⟩ := F.ex
  have inK : K.In s.heap := e0.mod.kin.keeps fun b o e => (e0.bs b o e).1
  have kinds : ∀ y ∈ ps.zip us, (defScope st).names.lookup y.1 = some .local ∨ ((defScope st).names.lookup y.1 = some .cell ∧ ((cellsFrom (s.heap.objs.size + 1) (defScope st).names []).lookup y.1).isSome = true) := by
    intro y hy
    obtain ⟨y1, y2⟩ := y
    exact (S.par y1 (List.of_mem_zip hy).1).imp id fun q => ⟨q, PySem.W.cellsFrom_some _ _ _ (.inl q)⟩
  apply codeAny_call_function hr.depth (inK _ _ lk) rfl S.co S.gen rfl (PySem.W.codeRec_of inK hcd) (hb _ _ _ _ _)
  apply wpAny_newFunctionEnv_cells S.kind kinds
  intro env he s1 x
  subst he
  refine ⟨(e0.mod.nolimit.keeps fun b o e => (e0.bs b o e).1).keeps x.toInCall.keep, codeAny_func ?_⟩
  have hvs := hlen _ _ _ _ hsp
  obtain ⟨t, hd, hq⟩ := hbody cdv A outer s H vs Q E hg (hr.deeper _) hsp
  have I := inv_start (CX := CX0) (mg := mg) (E := E) S hr.hd e0 hvs r x
  have run := hd.nox.run [] s1 (L2.start N vs) H { nx := fun _ H' => Q .non H', rt := Q } I hq
  refine wpAny_mono run (fun fl s' hs => ?_) fun e s' hs => hs
  cases fl with
  | ret u =>
    obtain ⟨v, σ', H', J, rv, q⟩ := hs
    exact ⟨v, H', J.os, J.bare, J.base, J.hok, rv, q⟩
  | next =>
    obtain ⟨σ', H', J, q⟩ := hs
    exact ⟨.non, H', J.os, J.bare, J.base, J.hok, rfl, q⟩
  | brk =>
    obtain ⟨_, _, _, q⟩ := hs
    exact q.elim
  | cont =>
    obtain ⟨_, _, _, q⟩ := hs
    exact q.elim
end
end DL
set_option Elab.async false
set_option linter.all false
set_option maxRecDepth 100000
set_option maxHeartbeats 1000000
set_option autoImplicit false
/-! three names at once; a derivation that looks at the arguments; keywords in any order -/
namespace DL
open PySem PySem.Spec PyProof.Rows L2
section
variable {X : Cx} {c : Dx}
@[simp] def dPar3 (i j l : Nat) (da : DA) : DS := fun De ρ => da ρ fun ds => ∃ d e g, ds = [d, e, g] ∧ De.nx (((ρ.set i (.fz d)).set j (.fz e)).set l (.fz g))
end
section
variable {X : Cx} {c : Dx} {CX : CXT} {k : Nat} {f : Addr} {fd : FuncData} {ps ks : List Str} {E : XK} {x : Str} {p pos : Pos} {kws : List Keyword} {g : List Value → List Value → List Value} {gV : List V → List V → List V} {gD : List D → List D}
@[simp] def dFnP (g : GX) (c : Dx) (gD : List D → List D) (da : DA) : DE := fun ρ P => da ρ fun ds => g c.W (gD ds) P c.XP
end
end DL
set_option Elab.async false
set_option linter.all false
set_option maxRecDepth 100000
set_option maxHeartbeats 4000000
set_option autoImplicit false
/-! x, y, z = .. where some are new and one's own; stores into a list of one's own; xs.index(y) -/
namespace DL
open PySem PySem.Spec PyProof.Rows L2
/-- what is evaluated, before it is stored -/
def SlN (K : PySem.W.Frag) (F H Hs : Hp) : Sl → V → List Addr → Prop
  | .un, _, _ => False
  | .fz d, x, as => Dat K F x d ∧ as = []
  | .own o, x, as => ∃ a, x = .ref a ∧ OwnAt K F H o a as ∧ NewAt F Hs as
abbrev DEm := List Sl → (Sl → Prop) → Prop
def MonoM (den : DEm) : Prop := ∀ ρ P P', (∀ d, P d → P' d) → den ρ P → den ρ P'
def upM (X : Cx) (c : Dx) (den : DEm) : TE := fun σ H Q => ∃ F ρ, At X.K c F H σ ρ ∧ den ρ fun s => ∀ x as F' H', Fr c.W F H F' H' → SlN X.K F' H' H s x as → Q x H'
structure PDM (X : Cx) (c : Dx) (e : Expr) (den : DEm) : Prop where
  pe : PE X e (upM X c den)
  mono : MonoM den
@[simp] def dMv (de : DE) : DEm := fun ρ P => de ρ fun d => P (.fz d)
@[simp] def dMo (de : DEo) : DEm := fun ρ P => de ρ fun o => P (.own o)
section
variable {X : Cx} {c : Dx} {F H F1 H1 Hs : Hp} {σ : L2.St} {ρ : List Sl}
theorem pdm_v {e : Expr} {de : DE} (h : PD X c e de) : PDM X c e (dMv de) := by
  refine ⟨imp h.pe fun σ H Q q => ?_, fun ρ P P' m => h.mono ρ _ _ fun d => m _⟩
  obtain ⟨F, ρ, a, q⟩ := q
  exact ⟨F, ρ, a, h.mono _ _ _ (fun d q v F' H' f dd => q v [] F' H' f ⟨dd, rfl⟩) q⟩
theorem pdm_o {e : Expr} {de : DEo} (h : PDN X c e de) : PDM X c e (dMo de) := by
  refine ⟨imp h.pe fun σ H Q q => ?_, fun ρ P P' m => h.mono ρ _ _ fun d => m _⟩
  obtain ⟨F, ρ, a, q⟩ := q
  exact ⟨F, ρ, a, h.mono _ _ _ (fun o q x as F' H' f k n => q (.ref x) as F' H' f ⟨x, rfl, k, n⟩) q⟩
/-- [a, ..] of one's own -/
@[simp] def dNlst (da : DA) : DEo := fun ρ P => da ρ fun ds => ds.length ≤ 1000 ∧ P (.lst ds)
theorem pdn_lst {es : List Expr} {da : DA} {pos : Pos} (h : PDA X c es da) : PDN X c (.List es pos) (dNlst da) := by
  refine ⟨imp (pe_lst h.pa) fun σ H Q q => ?_, fun ρ P P' m => h.mono ρ _ _ fun ds q => ⟨q.1, m _ q.2⟩⟩
  obtain ⟨F, ρ, a, q⟩ := q
  refine ⟨F, ρ, a, h.mono _ _ _ (fun ds q vs F1 H1 f1 d1 => ⟨by rw [d1.length]; exact le_line q.1, fun p hp => ?_⟩) q⟩
  have hp0 : H p = none := by
    cases z : H p with
    | none => rfl
    | some u =>
      obtain ⟨w, e⟩ := f1.lives p u z
      rw [hp] at e; cases e
  exact q.2 p [p] F1 _ (f1.trans (f1.good.hid hp)) (.lst upd_same d1) fun q hq => by rw [List.mem_singleton.mp hq]; exact ⟨f1.good.free hp, hp0⟩
/-- none of these addresses lies in a slot -/
def Dj (K : PySem.W.Frag) (F H : Hp) (σ : L2.St) (ρ : List Sl) (as : List Addr) : Prop := ∀ (j : Nat) (o : OD) (a : Addr) (as' : List Addr), ρ[j]? = some (.own o) → σ[j]? = some (some (.ref a)) → OwnAt K F H o a as' → ∀ q ∈ as', ¬ q ∈ as
theorem Dj.start (a : At X.K c F H σ ρ) (f : Fr c.W F H F1 H1) {as : List Addr} (h : ∀ q ∈ as, H q = none) : Dj X.K F1 H1 σ ρ as := by
  intro j o b as' e1 e2 k q hq hq2
  obtain ⟨cc, cs, e4, fr4, k4⟩ := a.sl.own e1
  rw [e2] at e4
  cases e4
  have z := (k4.fr f fr4).det (o' := o) k fun _ e => e
  subst z
  obtain ⟨w, e⟩ := k4.live q hq
  rw [h q hq2] at e
  cases e
theorem Dj.setF {as : List Addr} (h : Dj X.K F H σ ρ as) {i : Nat} {v : V} {d : D} : Dj X.K F H (σ.set i (some v)) (ρ.set i (.fz d)) as := by
  intro j o b as' e1 e2 k
  have n := set_no_own (by intro o z; cases z) e1
  by_cases e : j = i
  · subst e
    have hl : j < ρ.length := by
      have := (List.getElem?_eq_some_iff.mp e1).1
      simpa using this
    rw [List.getElem?_set_self hl] at e1
    cases e1
  · rw [List.getElem?_set_ne (fun z => e z.symm)] at e1 e2
    exact h j o b as' e1 e2 k
theorem Dj.setO {as as1 : List Addr} (h : Dj X.K F H σ ρ as) (len : σ.length = ρ.length) {i : Nat} {a : Addr} {o1 : OD} (k1 : OwnAt X.K F H o1 a as1) (n : ∀ q ∈ as1, ¬ q ∈ as) : Dj X.K F H (σ.set i (some (.ref a))) (ρ.set i (.own o1)) as := by
  intro j o b as' e1 e2 k
  by_cases e : j = i
  · subst e
    have hl : j < ρ.length := by
      have := (List.getElem?_eq_some_iff.mp e1).1
      simpa using this
    have hl2 : j < σ.length := by rw [len]; exact hl
    rw [List.getElem?_set_self hl] at e1
    rw [List.getElem?_set_self hl2] at e2
    cases e1
    cases e2
    have z := k1.det (o' := o1) k fun _ e => e
    subst z
    exact n
  · rw [List.getElem?_set_ne (fun z => e z.symm)] at e1 e2
    exact h j o b as' e1 e2 k
/-- evaluated at some time behind the start, and still so -/
structure SlV (X : Cx) (c : Dx) (F H Hs : Hp) (s : Sl) (x : V) (as : List Addr) : Prop where
  at_ : SlN X.K F H Hs s x as
  fr : Free c.W c.H0 F as
  live : ∀ q ∈ as, ∃ w, H q = some w
  none_ : ∀ q ∈ as, Hs q = none
theorem SlV.of (a : At X.K c F Hs σ ρ) {s : Sl} {x : V} {as : List Addr} (h : SlN X.K F1 H1 Hs s x as) : SlV X c F1 H1 Hs s x as := by
  cases s with
  | un => exact h.elim
  | fz d =>
    obtain ⟨h1, rfl⟩ := h
    exact ⟨⟨h1, rfl⟩, (fun q h => nomatch h), (fun q h => nomatch h), (fun q h => nomatch h)⟩
  | own o =>
    obtain ⟨b, rfl, k, n⟩ := h
    exact ⟨⟨b, rfl, k, n⟩, fun q hq => ⟨(n q hq).1, good_ne a.good (n q hq).2, entry_none a.en (n q hq).2⟩, k.live, fun q hq => (n q hq).2⟩
theorem SlV.step {s : Sl} {x : V} {as : List Addr} (h : SlV X c F H Hs s x as) (f : Fr c.W F H F1 H1) : SlV X c F1 H1 Hs s x as := by
  have fr' : Free c.W c.H0 F1 as := fun q hq => ⟨by
    obtain ⟨w, e⟩ := h.live q hq
    exact own_free f (h.fr q hq).1 e, (h.fr q hq).2.1, (h.fr q hq).2.2⟩
  have lv : ∀ q ∈ as, ∃ w, H1 q = some w := fun q hq => by
    obtain ⟨w, e⟩ := h.live q hq
    exact f.lives q w e
  cases s with
  | un => exact h.at_.elim
  | fz d => exact ⟨⟨h.at_.1.mono f.grow, h.at_.2⟩, fr', lv, h.none_⟩
  | own o =>
    obtain ⟨b, e, k, n⟩ := h.at_
    exact ⟨⟨b, e, k.fr f h.fr, fun q hq => ⟨(fr' q hq).1, h.none_ q hq⟩⟩, fr', lv, h.none_⟩
/-- a store -/
theorem SlV.put {s : Sl} {x : V} {as : List Addr} (h : SlV X c F H Hs s x as) (sl : Slots X.K c.W c.H0 F H σ ρ) (d : Dj X.K F H σ ρ as) (i : Nat) : Slots X.K c.W c.H0 F H (σ.set i (some x)) (ρ.set i s) := by
  cases s with
  | un => exact h.at_.elim
  | fz d => exact sl.set i h.at_.1
  | own o =>
    obtain ⟨b, rfl, k, n⟩ := h.at_
    exact sl.put i h.fr k fun j o2 a2 as2 _ e1 e2 k2 q hq hq2 => d j o2 a2 as2 e1 e2 k2 q hq2 hq
theorem SlV.dj {s : Sl} {x : V} {as as2 : List Addr} (h : SlV X c F H Hs s x as) (len : σ.length = ρ.length) (d : Dj X.K F H σ ρ as2) (n : ∀ q ∈ as, ¬ q ∈ as2) (i : Nat) : Dj X.K F H (σ.set i (some x)) (ρ.set i s) as2 := by
  cases s with
  | un => exact h.at_.elim
  | fz _ => exact d.setF
  | own o =>
    obtain ⟨b, rfl, k, _⟩ := h.at_
    exact d.setO len k n
theorem SlV.apart {s s2 : Sl} {x x2 : V} {as as2 : List Addr} {H2 F2 : Hp} (h : SlV X c F H Hs s x as) (k : SlN X.K F2 H2 H s2 x2 as2) : ∀ q ∈ as, ¬ q ∈ as2 := by
  intro q hq hq2
  obtain ⟨w, e⟩ := h.live q hq
  cases s2 with
  | un => exact k.elim
  | fz _ => rw [k.2] at hq2; cases hq2
  | own o =>
    obtain ⟨_, _, _, n⟩ := k
    rw [(n q hq2).2] at e
    cases e
theorem SlN.back {s : Sl} {x : V} {as : List Addr} {F2 H2 : Hp} (h : SlN X.K F2 H2 H s x as) (l : ∀ q o, Hs q = some o → ∃ o', H q = some o') : SlN X.K F2 H2 Hs s x as := by
  cases s with
  | un => exact h.elim
  | fz _ => exact h
  | own o =>
    obtain ⟨b, e, k, n⟩ := h
    exact ⟨b, e, k, n.back l⟩
/-- x, y = a, b -/
@[simp] def dParM2 (i j : Nat) (d1 d2 : DEm) : DS := fun De ρ => d1 ρ fun s => d2 ρ fun t => De.nx ((ρ.set i s).set j t)
/-- x, y, z = a, b, e -/
@[simp] def dParM3 (i j m : Nat) (d1 d2 d3 : DEm) : DS := fun De ρ => d1 ρ fun s => d2 ρ fun t => d3 ρ fun u => De.nx (((ρ.set i s).set j t).set m u)
theorem psd_parM3 {i j m : Nat} {x y z : Str} {a b e : Expr} {d1 d2 d3 : DEm} {px py pz pt pos : Pos} {kt k2 pt2} (hc : X.calm = true) (hN : X.N.Nodup) (hi : X.N[i]? = some x) (hj : X.N[j]? = some y) (hm : X.N[m]? = some z) (hij : i ≠ j) (him : i ≠ m) (hjm : j ≠ m)
    (hx : X.env.scope.names.lookup x = some .local) (hy : X.env.scope.names.lookup y = some .local) (hz : X.env.scope.names.lookup z = some .local) (ha : PDM X c a d1) (hb : PDM X c b d2) (he : PDM X c e d3)
    (hw : swappedStores [.Tuple [.Name x px, .Name y py, .Name z pz] kt pt] (.Tuple [a, b, e] k2 pt2) X.env = pure (some [x, y, z]))
    (hs : swapsWithSole [.Tuple [.Name x px, .Name y py, .Name z pz] kt pt] (.Tuple [a, b, e] k2 pt2) pos.line X.env = pure false := by rfl)
    (h1 : starEach [a, b, e] X.env = (false, eval a X.env) :: starEach [b, e] X.env := by rfl) (h2 : starEach [b, e] X.env = (false, eval b X.env) :: starEach [e] X.env := by rfl) (h3 : starEach [e] X.env = (false, eval e X.env) :: starEach [] X.env := by rfl) :
    PSd X c (.Assign [.Tuple [.Name x px, .Name y py, .Name z pz] kt pt] (.Tuple [a, b, e] k2 pt2) pos) (dParM3 i j m d1 d2 d3) := ⟨impS (ps_par3 hc hN hi hj hm hij him hjm hx hy hz (pa_cons ha.pe (pa_cons hb.pe (pa_cons he.pe pa_nil h3) h2) h1) hw hs) fun D σ H q => by
  obtain ⟨F, ρ, De, a, l, q⟩ := q
  refine ⟨F, ρ, a, ha.mono _ _ _ (fun o q x1 as1 F1 H1 f1 k1 => ?_) q⟩
  have a1 := a.fr f1
  refine ⟨F1, ρ, a1, hb.mono _ _ _ (fun u q x2 as2 F2 H2 f2 k2 => ?_) q⟩
  have a2 := a1.fr f2
  refine ⟨F2, ρ, a2, he.mono _ _ _ (fun w q x3 as3 F3 H3 f3 k3 => ?_) q⟩
  have a3 := a2.fr f3
  have g12 := f1.trans f2
  have g := g12.trans f3
  have v1 := SlV.of a k1
  have v2 := SlV.of a (k2.back f1.lives)
  have v3 := SlV.of a (k3.back g12.lives)
  have v1' := v1.step f2
  have v1'' := v1'.step f3
  have v2' := v2.step f3
  have j1 := Dj.start (σ := σ) (ρ := ρ) a g v1.none_
  have j2 := Dj.start (σ := σ) (ρ := ρ) a g v2.none_
  have j3 := Dj.start (σ := σ) (ρ := ρ) a g v3.none_
  have s1 := v1''.put a3.sl j1 i
  have j2' := v1''.dj a3.sl.len j2 (v1.apart k2) i
  have s2 := v2'.put s1 j2' j
  have j3' := v1''.dj a3.sl.len j3 (v1'.apart k3) i
  have j3'' := v2'.dj s1.len j3' (v2.apart k3) j
  exact ⟨_, _, _, rfl, l.nx _ _ F3 H3 q g.grow ⟨a3.en, v3.put s2 j3'' m⟩⟩⟩
end
end DL
set_option Elab.async false
set_option linter.all false
set_option maxRecDepth 100000
set_option maxHeartbeats 4000000
set_option autoImplicit false
/-! stores into a list of one's own; xs.index(y) of ints -/
namespace DL
open PySem PySem.Spec PyProof.Rows L2
theorem DatL.set {K : PySem.W.Frag} {F : Hp} {v : V} {d : D} (h : Dat K F v d) : ∀ {vs : List V} {ds : List D} (j : Nat), DatL K F vs ds → DatL K F (vs.set j v) (ds.set j d)
  | _, _, _, .nil => .nil
  | _, _, 0, .cons _ k => .cons h k
  | _, _, j + 1, .cons a k => .cons a (DatL.set h j k)
section
variable {X : Cx} {c : Dx}
/-- y[k] = v -/
@[simp] def dLput (i : Nat) (dk dv : DE) : DS := fun De ρ => dv ρ fun v => ∃ ds, ρ[i]? = some (.ow ds) ∧ dk ρ fun x => ∃ k j, x = .int k ∧ ixN ds.length k = some j ∧ De.nx (ρ.set i (.ow (ds.set j v)))
theorem psd_lput {i : Nat} {o k v : Expr} {dk dv : DE} {pos pos' : Pos} (ho : PE X o (tVar i)) (hk : PD X c k dk) (hv : PD X c v dv) (hs : swapsWithSole [.Subscript o k pos'] v pos.line X.env = pure false := by rfl) (hw : swappedStores [.Subscript o k pos'] v X.env = pure none := by rfl)
    (h1 : (assignEach [.Subscript o k pos'] X.env).map (·.2) = [assign (.Subscript o k pos') X.env] := by rfl)
    (ha : ∀ v, assign (.Subscript o k pos') X.env v = (do
      let ov ← holding [v] (eval o X.env)
      let iv ← holding [v, ov] (eval k X.env)
      standAt pos'
      holding [v, ov, iv] (setItem ov iv v)
      release [v, ov, iv] []) := by intro _; rfl) :
    PSd X c (.Assign [.Subscript o k pos'] v pos) (dLput i dk dv) := ⟨impS (ps_asg hv.pe (pg_sub ho hk.pe set_list ha) hs hw h1) fun D σ H q => by
  obtain ⟨F, ρ, De, a, l, q⟩ := q
  refine ⟨F, ρ, a, hv.mono _ _ _ (fun y q u F1 H1 f1 d1 => ?_) q⟩
  have a1 := a.fr f1
  obtain ⟨ds, e, q⟩ := q
  obtain ⟨p, _, h1, _⟩ := a1.sl.own e
  refine ⟨_, h1, F1, ρ, a1, hk.mono _ _ _ (fun x q w F2 H2 f2 d2 => ?_) q⟩
  obtain ⟨k, j, rfl, hj, q⟩ := q
  cases d2
  have a2 := a1.fr f2
  obtain ⟨p', as, h2, fr, ho⟩ := a2.sl.own e
  rw [h1] at h2
  cases h2
  cases ho with
  | @lst _ vs _ hp hd =>
    obtain ⟨n1, w1, h0⟩ := fr p (by simp)
    refine ⟨p, vs, k, j, rfl, rfl, hp, by rw [hd.length]; exact hj, ?_⟩
    exact l.nx _ _ F2 _ q (f1.grow.trans f2.grow) ⟨own_upd a2.en n1 w1 h0, a2.sl.change e h1 fr (.lst hp hd) upd_off (.lst upd_same (hd.set (d1.mono f2.grow) j))⟩⟩
/-- xs.index(y), ints -/
@[simp] def dIndex (de : DE) (dy : DE) : DE := fun ρ P => de ρ fun x => ∃ ns : List Int, x = .lst (ns.map D.int) ∧ dy ρ fun y => ∃ i : Int, y = .int i ∧ i ∈ ns ∧ P (.int (ns.idxOf i : Nat))
end
end DL
set_option Elab.async false
set_option linter.all false
set_option maxRecDepth 100000
set_option maxHeartbeats 1000000
set_option autoImplicit false
/-! defs that show data (repr), calls by names, a well (a list of three ints that draws change) -/
namespace DL
open PySem PySem.Spec PyProof.Rows L2
section
variable {P : Program} {w : World} {K : PySem.W.Frag} {mg : Str → Option Value} {base : Heap}
/-- as okZ, from callers around whom nothing is being shown -/
theorem okZG {x qual : Str} {st : Stmt} {f : Addr} {fd : FuncData} {N ps : List Str} {k : Nat} {den : Option Addr → DS} (F : Fun K x qual st f fd) (S : FnScope N ps (defScope st))
    (hbody : ∀ (cdv : Value) (A : Around) (outer : List Env) (s : Shared) (H : Hp) (E : XK) (W : Option Addr) (F0 : Hp), A.guards = some [] → Room k (A.deeper (envOfC qual (defScope st) s.heap.objs.size f cdv)) →
      PSsd ((cxOf CX0 P w K mg base N qual (defScope st) f cdv A outer s H E).nox) ⟨W, F0, H, noX⟩ (defBody st) (den W)) : FnG P w K mg base (k + 1) f fd ps (spZ K (gOf ps.length N den)) := by
  refine okGs F S (fun vs H Q E h => ?_) (fun cdv A outer s H vs Q E hg hr h => ?_)
  · obtain ⟨W, F0, ds, _, _, d, q, _⟩ := h
    rw [d.length]
    exact q.1
  · obtain ⟨W, F0, ds, Pd, G, d, q, k⟩ := h
    exact ⟨_, (hbody cdv A outer s H E W F0 hg hr).ps, body_in rfl G d k q.2⟩
end
section
variable {X : Cx} {c : Dx} {k : Nat} {f : Addr} {fd : FuncData} {ps ks : List Str} {x : Str} {p pos : Pos} {e : Expr} {es : List Expr} {kws : List Keyword} {g : GX} {da : DA}
/-- what stands at these places -/
def permOf {α : Type} (is : List Nat) (l : List α) : List α := is.filterMap fun i => l[i]?
/-- f(k = e, ..) -/
@[simp] def dClP (g : GX) (W : Option Addr) (is : List Nat) (da : DA) : DE := fun ρ P => da ρ fun ds => cl g W (permOf is ds) P
end
/-! a well -/
theorem well_upd {W : Option Addr} {F H : Hp} {wa : Addr} {i j k : Int} (G : DL.Good W F H) (hw : W = some wa) : DL.Fr W F H F (upd H wa (.lst [.int i, .int j, .int k])) := by
  obtain ⟨n, _⟩ := G.well wa hw
  refine ⟨fun y o e => ?_, Same.refl F, fun y o e h => ?_, fun y o e => .inl e, fun y hy => ?_⟩
  · have : y ≠ wa := fun z => by rw [z, n] at e; cases e
    rw [upd_ne this]
    exact G.sub _ _ e
  · have : y ≠ wa := fun z => h (by rw [hw, z])
    rw [upd_ne this]
    exact e
  · rw [hw] at hy
    cases hy
    exact ⟨n, i, j, k, upd_same⟩
theorem fr_weak {W : Option Addr} {F H F' H' : Hp} (G : DL.Good W F H) (f : DL.Fr none (fun _ => none) H F' H') : DL.Fr W F H F H' := by
  have kp : ∀ y o, H y = some o → H' y = some o := fun y o e => f.keep y o e (fun z => nomatch z)
  refine ⟨fun y o e => kp _ _ (G.sub _ _ e), Same.refl F, fun y o e _ => kp _ _ e, fun y o e => .inl e, fun y hy => ?_⟩
  obtain ⟨n, i, j, k, e⟩ := G.well y hy
  exact ⟨n, i, j, k, kp _ _ e⟩
theorem good0 {H : Hp} : DL.Good none (fun _ => none) H := ⟨fun _ _ e => (nomatch e), fun _ e => (nomatch e)⟩
/-- a new well, of what a law's k-th turn draws -/
def spSource (K : PySem.W.Frag) : Sp := fun vs H Q _ => ∃ (a : Addr) (ns : List Int) (k : Nat), vs = [.ref a, .int (k : Int)] ∧ SqL K H a (ns.map V.int) ∧ ns.length ≤ 63 ∧ k < 100 ∧ ∀ (H2 : Hp) (l : Addr) (i j : Int), Same H H2 → H2 l = none → Q (.ref l) (upd H2 l (.lst [.int i, .int j, .int 0]))
end DL
set_option Elab.async false
set_option linter.all false
set_option maxRecDepth 100000
set_option maxHeartbeats 1000000
set_option autoImplicit false
set_option Elab.async false
set_option linter.all false
set_option maxRecDepth 100000
set_option maxHeartbeats 1000000
set_option autoImplicit false
/-! {**d, k: v} -/
namespace DL
open PySem PySem.Spec PyProof.Rows L2
section
variable {X : Cx} {c : Dx}
@[simp] def dUpk (de dk dv : DE) : DE := fun ρ P => de ρ fun d => ∃ kvs : List (Key × D), d = .dct kvs ∧ kvs.length + 1 ≤ sizeLine ∧ dk ρ fun x => dv ρ fun y => ∃ key : Key, x = kD key ∧ P (.dct (mergeD (mergeD [] kvs) [(key, y)]))
/-- list(e), a list of one's own -/
@[simp] def dNlistof (de : DE) : DEo := fun ρ P => de ρ fun d => ∃ l, (d = .lst l ∨ d = .tup l) ∧ P (.lst l)
theorem pdn_listof {p pos : Pos} {e : Expr} {de : DE} (hg : Gl X "list") (hm : X.mg "list" = none) (h : PD X c e de) (he : starEach [e] X.env = (false, eval e X.env) :: starEach [] X.env := by rfl) (hpl : (backTo pos (starEach [] X.env)).any (·.1) = false := by rfl) :
    PDN X c (.Call (.Name "list" p) [e] [] pos) (dNlistof de) := by
  refine ⟨imp (pe_callTy call_list_of hg hm (by decide +kernel) (pa_cons h.pe pa_nil he) (by decide) (by decide) he hpl) fun σ H Q q => ?_, fun ρ P P' m => h.mono ρ _ _ fun ds ⟨l, e, q⟩ => ⟨l, e, m _ q⟩⟩
  obtain ⟨F, ρ, a, q⟩ := q
  refine ⟨F, ρ, a, h.mono _ _ _ (fun d q v F1 H1 f1 d1 => ?_) q⟩
  obtain ⟨l, hl, q⟩ := q
  have fin : ∀ (ys : List V) p, DatL X.K F1 ys l → H1 p = none → Q (.ref p) (upd H1 p (.lst ys)) := fun ys p dl hp => by
    have hp0 : H p = none := by
      cases z : H p with
      | none => rfl
      | some u =>
        obtain ⟨w, e⟩ := f1.lives p u z
        rw [hp] at e; cases e
    exact q p [p] F1 _ (f1.trans (f1.good.hid hp)) (.lst upd_same dl) fun q hq => by rw [List.mem_singleton.mp hq]; exact ⟨f1.good.free hp, hp0⟩
  rcases hl with rfl | rfl
  · cases d1 with
    | lst hs hl => exact ⟨_, _, rfl, .inl (SqL.of (f1.good.sub _ _ hs)), fun p hp => fin _ p hl hp⟩
  · cases d1 with
    | tup hs hl => exact ⟨_, _, rfl, .inr (sqT_mono f1.good.sub hs), fun p hp => fin _ p hl hp⟩
/-- y[k], y a list of one's own -/
@[simp] def dOitem (i : Nat) (dk : DE) : DE := fun ρ P => ∃ ds, ρ[i]? = some (.ow ds) ∧ dk ρ fun x => ∃ k : Int, x = .int k ∧ ∃ d, atI ds k = some d ∧ P d
theorem pd_oitem {i : Nat} {o k : Expr} {dk : DE} {pos : Pos} (ho : PE X o (tVar i)) (hk : PD X c k dk) (hs : PlainIx k) : PD X c (.Subscript o k pos) (dOitem i dk) := by
  refine ⟨imp (pe_ix ix_list ho hk.pe hs) fun σ H Q q => ?_, fun ρ P P' m ⟨ds, e, q⟩ => ⟨ds, e, hk.mono ρ _ _ (fun x ⟨k, e1, d, e2, p⟩ => ⟨k, e1, d, e2, m _ p⟩) q⟩⟩
  obtain ⟨F, ρ, a, ds, e, q⟩ := q
  obtain ⟨p, _, h1, _⟩ := a.sl.own e
  refine ⟨_, h1, F, ρ, a, hk.mono _ _ _ (fun x q w F2 H2 f2 d2 => ?_) q⟩
  obtain ⟨k, rfl, d, ed, q⟩ := q
  cases d2
  have a2 := a.fr f2
  obtain ⟨p', as, h2, fr, ho⟩ := a2.sl.own e
  rw [h1] at h2
  cases h2
  cases ho with
  | @lst _ vs _ hp hd =>
    obtain ⟨v, ev, dv⟩ := datL_atI hd ed
    exact ⟨p, vs, k, v, rfl, rfl, SqL.of hp, ev, q v F2 H2 f2 dv⟩
/-- continue -/
@[simp] def dCont : DS := fun De ρ => De.ct ρ
end
end DL
set_option Elab.async false
set_option linter.all false
set_option maxRecDepth 100000
set_option maxHeartbeats 1000000
set_option autoImplicit false
/-! == of the same data, lists, tuples and dicts within each other -/
namespace DL
open PySem PySem.Spec PyProof.Rows L2
end DL
set_option Elab.async false
set_option linter.all false
set_option maxRecDepth 100000
set_option maxHeartbeats 1000000
set_option autoImplicit false
/-! while; dicts of one's own: read, updated; texts repeated; `in` of a dict or a list -/
namespace DL
open PySem PySem.Spec PyProof.Rows L2
section
variable {X : Cx} {c : Dx}
/-- y[k], y a dict of one's own -/
@[simp] def dOdget (i : Nat) (dk : DE) : DE := fun ρ P => ∃ kvs, ρ[i]? = some (.od kvs) ∧ dk ρ fun x => ∃ k, x = kD k ∧ ∃ d, getK k kvs = some d ∧ P d
/-- k in y, y a dict of one's own -/
@[simp] def dOdin (n : Bool) (i : Nat) (dk : DE) : DE := fun ρ P => ∃ kvs, ρ[i]? = some (.od kvs) ∧ dk ρ fun x => ∃ k, x = kD k ∧ P (.bl ((getK k kvs).isSome != n))
@[simp] def dUpd (i : Nat) (de : DE) : DS := fun De ρ => ∃ kvs, ρ[i]? = some (.od kvs) ∧ de ρ fun y => ∃ more, y = .dct more ∧ kvs.length + more.length ≤ sizeLine ∧ De.nx (ρ.set i (.od (mergeD kvs more)))
/-- {} of one's own -/
@[simp] def dNdct : DEo := fun _ P => P (.dct [])
end
end DL
set_option Elab.async false
set_option linter.all false
set_option maxRecDepth 100000
set_option maxHeartbeats 1000000
set_option autoImplicit false
/-! sum of ints, in a list or a tuple; calls by places and names -/
namespace DL
open PySem PySem.Spec PyProof.Rows L2
section
variable {X : Cx} {c : Dx}
/-- so many by places, so many by names -/
def posKw {α : Type} (n m : Nat) (us ws : List α) : List α := if us.length = n ∧ ws.length = m then us ++ ws else []
variable {k n m : Nat} {f : Addr} {fd : FuncData} {ps ks : List Str} {x : Str} {p pos : Pos} {e : Expr} {es : List Expr} {kws : List Keyword} {g : GX} {da dk : DA}
/-- f(e, .., k = v, ..) -/
@[simp] def dClK (g : GX) (W : Option Addr) (n m : Nat) (da dk : DA) : DE := fun ρ P => da ρ fun ds => dk ρ fun es => cl g W (posKw n m ds es) P
/-- the truth of an int -/
@[simp] def dIntT (de : DE) : DT := fun ρ P => de ρ fun d => ∃ i : Int, d = .int i ∧ P (i != 0)
end
end DL
set_option Elab.async false
set_option linter.all false
set_option maxRecDepth 100000
set_option maxHeartbeats 1000000
set_option autoImplicit false
/-! t[::-1] of a tuple -/
namespace DL
open PySem PySem.Spec PyProof.Rows L2
section
variable {X : Cx} {c : Dx}
@[simp] def dRevT (de : DE) : DE := fun ρ P => de ρ fun d => ∃ xs, d = .tup xs ∧ P (.tup xs.reverse)
end
end DL
set_option Elab.async false
set_option linter.all false
set_option maxRecDepth 100000
set_option maxHeartbeats 1000000
set_option autoImplicit false
/-! sorted of data that are alike -/
namespace DL
open PySem PySem.Spec PyProof.Rows L2
/-- less or equal, by what the second tells -/
def leZ {α : Type} (k : α → PyData) : α → α → Bool := PySem.W.sortLe (listOrd itemOrd) false fun z => PySem.W.keyToks (k z)
section
variable {X : Cx} {c : Dx}
def rSortD (K : PySem.W.Frag) : List V → Hp → VK → Prop := fun vs H Q => ∃ (a : Addr) (zs : List (V × PyData)), vs = [V.ref a] ∧ SqL K H a (zs.map Prod.fst) ∧ (∀ z ∈ zs, Dp K H z.1 z.2) ∧
  PySem.W.AllAlike (zs.map Prod.snd) ∧ PySem.W.Sortable (zs.map Prod.snd) ∧ (∀ z ∈ zs, z.2.depth ≤ 60) ∧ ∀ p, H p = none → Q (.ref p) (upd H p (.lst ((zs.mergeSort (leZ Prod.snd)).map Prod.fst)))
theorem each_rel : ∀ {zs : List (V × PyData)} {its : List Value}, Vals (zs.map Prod.fst) its → PySem.W.EachIs (fun u z => RelV z.1 u) its zs
  | [], _, h => by cases h; exact .nil
  | z :: zs, _, h => by
    cases h with
    | cons r t => exact .cons r (each_rel t)
theorem rel_each : ∀ {zs : List (V × PyData)} {its : List Value}, PySem.W.EachIs (fun u z => RelV z.1 u) its zs → Vals (zs.map Prod.fst) its
  | _, _, .nil => .nil
  | _, _, .cons r t => .cons r (rel_each t)
theorem each_imp {α β : Type} {R R' : α → β → Prop} : ∀ {as : List α} {bs : List β}, PySem.W.EachIs R as bs → (∀ a b, b ∈ bs → R a b → R' a b) → PySem.W.EachIs R' as bs
  | _, _, .nil, _ => .nil
  | _, _, .cons r t, h => .cons (h _ _ (List.mem_cons_self ..) r) (each_imp t fun a b hb => h a b (List.mem_cons_of_mem _ hb))
theorem each_map {α β γ : Type} {R : α → γ → Prop} (f : β → γ) : ∀ {as : List α} {bs : List β}, PySem.W.EachIs (fun a b => R a (f b)) as bs → PySem.W.EachIs R as (bs.map f)
  | _, _, .nil => .nil
  | _, _, .cons r t => .cons r (each_map f t)
theorem cr_sortD (hu : X.A.units + 64 < cLine) : CallR X (.builtin "sorted") (rSortD X.K) := by
  intro pins s σ H vs us Q I r h
  obtain ⟨a, zs, rfl, hs, hd, ha, hk, hp, q⟩ := h
  obtain ⟨its, rv, hl, hz⟩ := I.list hs
  rw [Vals.ref1 r]
  have e0 : PySem.W.EachIs (fun u z => RelV z.1 u) its zs := each_rel rv
  have hlen : its.length ≤ sizeLine := by rw [← rv.length]; exact hz
  have keep : ∀ b o, s.heap.get? b = some o → (PySem.W.sortingHeap (PySem.W.copyHeap s.heap its) (s.heap.objs.size + 1) its).get? b = some o := fun b o e => PySem.W.sorting_copy_old e
  have e1 : PySem.W.EachIs (fun u z => ∃ as, Reads (PySem.W.sortingHeap (PySem.W.copyHeap s.heap its) (s.heap.objs.size + 1) its) u z.2 as) its zs := each_imp e0 fun u z hm ru => by
    obtain ⟨as, rr⟩ := Dp.reads I z.2 z.1 u (hd z hm) ru
    exact ⟨as, PySem.W.reads_keeps keep rr⟩
  have e2 := each_map (R := fun u d => ∃ as, Reads (PySem.W.sortingHeap (PySem.W.copyHeap s.heap its) (s.heap.objs.size + 1) its) u d as) Prod.snd e1
  refine PySem.W.sorted_vals hl.isList (PySem.W.SortsAt.data (s := { s with heap := PySem.W.sortingHeap (PySem.W.copyHeap s.heap its) (s.heap.objs.size + 1) its }) e2 ha hk fun d hm => ?_) hlen ?_
  · obtain ⟨z, hz, rfl⟩ := List.mem_map.mp hm
    have := hp z hz
    show X.A.units + 1 + 1 + z.2.depth < cLine
    omega
  · have e3 : PySem.W.EachIs (fun u z => (PySem.W.dataKind (PySem.W.sortingHeap (PySem.W.copyHeap s.heap its) (s.heap.objs.size + 1) its) (zs.map Prod.snd)).keyOf u = some (PySem.W.keyToks z.2)) its zs := each_imp e1 fun u z hm ⟨as, rr⟩ => PySem.W.dataKind_some ha (List.mem_map.mpr ⟨z, hm, rfl⟩) rr
    have e4 := PySem.W.sortVals_each (κ := PySem.W.dataKind (PySem.W.sortingHeap (PySem.W.copyHeap s.heap its) (s.heap.objs.size + 1) its) (zs.map Prod.snd)) (rev := false) (fun z : V × PyData => PySem.W.keyToks z.2) e0 e3
    obtain ⟨ep, he'⟩ := PyProof.Rows.sortedAll_at s.heap its (PySem.W.sortVals (PySem.W.dataKind (PySem.W.sortingHeap (PySem.W.copyHeap s.heap its) (s.heap.objs.size + 1) its) (zs.map Prod.snd)) false its its).toArray
    have hlen2 : ((zs.mergeSort (leZ Prod.snd)).map Prod.fst).length ≤ sizeLine := by
      rw [List.length_map, (List.mergeSort_perm _ _).length_eq]
      rw [List.length_map] at hz
      exact hz
    exact ⟨.ref _, upd H (s.heap.objs.size + 1) (.lst ((zs.mergeSort (leZ Prod.snd)).map Prod.fst)), I.laid (t' := s.toks) (fun _ _ => PyProof.Rows.sortedAll_old) (Nat.le_succ _) ⟨hlen2, _, ep, rel_each e4, he'⟩, rfl, q _ (I.hok.fresh (Nat.le_succ _))⟩
/-- the data of a text, a number, a tuple, a list -/
def pyOf (d : D) : PyData := d.py.getD .none
def sortD (ds : List D) : List D := ds.mergeSort (leZ pyOf)
structure SortOk (ds : List D) : Prop where
  py : ∀ d ∈ ds, ∃ p, d.py = some p ∧ p.depth ≤ 60
  al : ∀ d ∈ ds, ∀ e ∈ ds, PySem.W.alike (pyOf d) (pyOf e) = true
  so : PySem.W.Sortable (ds.map pyOf)
def fSort : FN := fun ds P => ∃ l, ds = [.lst l] ∧ SortOk l ∧ P (.lst (sortD l))
theorem mono_fSort : MonoF fSort := fun ds P P' m ⟨l, a, b, p⟩ => ⟨l, a, b, m _ p⟩
theorem datL_zip {K : PySem.W.Frag} {F : Hp} : ∀ {vs : List V} {ds : List D}, DatL K F vs ds → ∀ z ∈ vs.zip ds, Dat K F z.1 z.2
  | _, _, .nil, _, h => by cases h
  | _, _, .cons r t, z, h => by
    rw [List.zip_cons_cons] at h
    rcases List.mem_cons.mp h with rfl | h
    · exact r
    · exact datL_zip t z h
theorem zip_datL {K : PySem.W.Frag} {F : Hp} : ∀ {zs : List (V × D)}, (∀ z ∈ zs, Dat K F z.1 z.2) → DatL K F (zs.map Prod.fst) (zs.map Prod.snd)
  | [], _ => .nil
  | z :: zs, h => .cons (h _ (List.mem_cons_self ..)) (zip_datL fun z hz => h z (List.mem_cons_of_mem _ hz))
theorem serves_sortD : ServesC X c (rSortD X.K) fSort := by
  intro F H xs ds P Q G hx h q
  obtain ⟨l, rfl, ok, p⟩ := h
  obtain ⟨v, rfl, hv⟩ := datL1 hx
  cases hv with
  | @lst a vs _ hs hl =>
    have hlen : vs.length = l.length := hl.length
    have m1 : (vs.zip l).map Prod.fst = vs := List.map_fst_zip (Nat.le_of_eq hlen)
    have m2 : (vs.zip l).map Prod.snd = l := List.map_snd_zip (Nat.le_of_eq hlen.symm)
    have hz := datL_zip hl
    let f : V × D → V × PyData := fun z => (z.1, pyOf z.2)
    have f1 : ((vs.zip l).map f).map Prod.fst = vs := by
      rw [List.map_map]
      exact m1
    have f2 : ((vs.zip l).map f).map Prod.snd = l.map pyOf := by
      rw [List.map_map]
      conv => rhs; rw [← m2, List.map_map]
      rfl
    have f3 : ((vs.zip l).mergeSort (leZ fun z => pyOf z.2)).map f = ((vs.zip l).map f).mergeSort (leZ Prod.snd) := PySem.W.sort_maps f fun a _ b _ => rfl
    have f4 : ((vs.zip l).mergeSort (leZ fun z => pyOf z.2)).map Prod.snd = sortD l := by
      have := PySem.W.sort_maps (r := leZ fun z : V × D => pyOf z.2) (s := leZ pyOf) (l := vs.zip l) Prod.snd fun a _ b _ => rfl
      rw [m2] at this
      exact this
    have al : PySem.W.AllAlike (l.map pyOf) := fun d hd e he => by
      obtain ⟨x, hx, rfl⟩ := List.mem_map.mp hd
      obtain ⟨y, hy, rfl⟩ := List.mem_map.mp he
      exact ok.al x hx y hy
    refine ⟨a, (vs.zip l).map f, rfl, by rw [f1]; exact SqL.of (G.sub _ _ hs), fun z hm => ?_, by rw [f2]; exact al, by rw [f2]; exact ok.so, fun z hm => ?_, fun t ht => ?_⟩
    · obtain ⟨y, hy, rfl⟩ := List.mem_map.mp hm
      obtain ⟨pd, e, _⟩ := ok.py y.2 (List.of_mem_zip hy).2
      have e2 : pyOf y.2 = pd := by unfold pyOf; rw [e]; rfl
      show Dp X.K H y.1 (pyOf y.2)
      rw [e2]
      exact Dp.mono G.sub (dat_dp (hz y hy) e)
    · obtain ⟨y, hy, rfl⟩ := List.mem_map.mp hm
      obtain ⟨pd, e, h60⟩ := ok.py y.2 (List.of_mem_zip hy).2
      have e2 : pyOf y.2 = pd := by unfold pyOf; rw [e]; rfl
      show (pyOf y.2).depth ≤ 60
      rw [e2]
      exact h60
    · have d1 : DatL X.K F (((vs.zip l).mergeSort (leZ fun z => pyOf z.2)).map Prod.fst) (sortD l) := by
        rw [← f4]
        exact zip_datL fun z hm => hz z ((List.mergeSort_perm _ _).mem_iff.mp hm)
      have e5 : (((vs.zip l).map f).mergeSort (leZ Prod.snd)).map Prod.fst = ((vs.zip l).mergeSort (leZ fun z => pyOf z.2)).map Prod.fst := by
        rw [← f3, List.map_map]
        rfl
      rw [e5]
      refine q _ _ _ _ p (G.laid ht) (.lst upd_same (d1.mono (G.laid (o := .lst _) ht).grow))
end
/-! == and != of the same data, ints as great as one likes -/
mutual
def D.shp : D → Bool
  | .non => true
  | .bl _ => true
  | .int _ => true
  | .str x => PyData.strOk x
  | .tup xs => D.shpL xs
  | .lst xs => D.shpL xs
  | _ => false
def D.shpL : List D → Bool
  | [] => true
  | x :: xs => D.shp x && D.shpL xs
end
mutual
theorem D.shp_py : ∀ d : D, d.shp = true → ∃ p, d.py = some p ∧ p.canLay0 = true ∧ p.depth ≤ d.dep ∧ PyData.eqv p p = true
  | .non, _ => ⟨.none, rfl, rfl, Nat.le_refl _, rfl⟩
  | .bl b, _ => ⟨.bool b, rfl, rfl, Nat.le_refl _, by simp [PyData.eqv]⟩
  | .int i, _ => ⟨.int i, rfl, rfl, Nat.le_refl _, by simp [PyData.eqv]⟩
  | .str x, h => ⟨.str x, rfl, by simpa [PyData.canLay0, D.shp] using h, Nat.le_refl _, by simp [PyData.eqv]⟩
  | .tup xs, h => by
    obtain ⟨p, e, k1, k2, k3⟩ := D.shpL_py xs (by simpa [D.shp] using h)
    exact ⟨.tuple p, by simp [D.py, e], by simpa [PyData.canLay0] using k1, by simpa [PyData.depth, D.dep] using k2, by simpa [PyData.eqv] using k3⟩
  | .lst xs, h => by
    obtain ⟨p, e, k1, k2, k3⟩ := D.shpL_py xs (by simpa [D.shp] using h)
    exact ⟨.list p, by simp [D.py, e], by simpa [PyData.canLay0] using k1, by simpa [PyData.depth, D.dep] using k2, by simpa [PyData.eqv] using k3⟩
  | .ty _, h => by simp [D.shp] at h
  | .adr _, h => by simp [D.shp] at h
  | .ins _ _, h => by simp [D.shp] at h
  | .dct _, h => by simp [D.shp] at h
  | .scr _, h => by simp [D.shp] at h
theorem D.shpL_py : ∀ ds : List D, D.shpL ds = true → ∃ p, D.pyL ds = some p ∧ PyData.canLayAll0 p = true ∧ PyData.depthAll p ≤ D.depL ds ∧ PyData.eqvAll p p = true
  | [], _ => ⟨[], rfl, rfl, Nat.le_refl _, rfl⟩
  | x :: xs, h => by
    rw [D.shpL, Bool.and_eq_true] at h
    obtain ⟨p, e, k1, k2, k3⟩ := D.shp_py x h.1
    obtain ⟨ps, es, j1, j2, j3⟩ := D.shpL_py xs h.2
    refine ⟨p :: ps, by simp [D.pyL, e, es], by simp [PyData.canLayAll0, k1, j1], ?_, by simp [PyData.eqvAll, k3, j3]⟩
    simp only [PyData.depthAll, D.depL]
    omega
end
theorem fEq_shp {n : Bool} {d : D} {P : D → Prop} (h : d.shp = true) (hd : d.dep ≤ 64) (p : P (.bl (true != n))) : fEq n d d P := by
  obtain ⟨q, e, k1, k2, k3⟩ := d.shp_py h
  refine ⟨q, q, e, e, ?_, ?_, by rw [k3]; exact p⟩ <;>
  · simp only [SeqAt.shaped, Bool.and_eq_true, decide_eq_true_eq]
    exact ⟨k1, Nat.le_trans k2 hd⟩
theorem shpL_mem : ∀ {ds : List D}, D.shpL ds = true ↔ ∀ d ∈ ds, d.shp = true
  | [] => by simp [D.shpL]
  | d :: ds => by rw [D.shpL, Bool.and_eq_true, shpL_mem (ds := ds)]; simp
theorem depL_mem {n : Nat} : ∀ {ds : List D}, (∀ d ∈ ds, d.dep ≤ n) → D.depL ds ≤ n
  | [], _ => Nat.zero_le _
  | d :: ds, h => by
    have h1 := h d (List.mem_cons_self ..)
    have h2 := depL_mem (ds := ds) fun x hx => h x (List.mem_cons_of_mem _ hx)
    simp only [D.depL]
    omega
end DL
set_option Elab.async false
set_option linter.all false
set_option maxRecDepth 100000
set_option maxHeartbeats 1000000
set_option autoImplicit false
/-! a list that is lent: a def that adds to its first argument, and calls itself -/
namespace DL.Lent
open PySem PySem.Spec PyProof.Rows L2 DL
def NoOwn (ρ : List Sl) : Prop := ∀ (i : Nat) (o : OD), ρ[i]? ≠ some (.own o)
structure FrL (W : Option Addr) (a : Addr) (F H F' H' : Hp) : Prop where
  sub : Same F' H'
  grow : Same F F'
  keep : ∀ b o, H b = some o → W ≠ some b → b ≠ a → H' b = some o
  new : ∀ b o, F' b = some o → F b = some o ∨ H b = none
  well : ∀ b, W = some b → F' b = none ∧ WellAt H' b
  nf : F' a = none
abbrev GP := List D → List D → (List D → Prop) → Prop
structure AtL (X : Cx) (c : Dx) (a : Addr) (F H : Hp) (σ : L2.St) (ρ : List Sl) (ds : List D) : Prop where
  at_ : At X.K c F H σ ρ
  s0 : σ[0]? = some (some (.ref a))
  nf : F a = none
  w : c.W ≠ some a
  h0 : c.H0 a = none
  no : NoOwn ρ
  own : ∃ us, H a = some (.lst us) ∧ DatL X.K F us ds
section
variable {X : Cx} {c : Dx} {a : Addr} {F H F1 H1 : Hp} {σ : L2.St} {ρ : List Sl} {ds : List D}
theorem AtL.fr (x : AtL X c a F H σ ρ ds) (f : Fr c.W F H F1 H1) : AtL X c a F1 H1 σ ρ ds := by
  obtain ⟨us, e, d⟩ := x.own
  exact ⟨x.at_.fr f, x.s0, own_free f x.nf e, x.w, x.h0, x.no, us, f.keep _ _ e x.w, d.mono f.grow⟩
theorem paired_imp {α β : Type} {R R' : α → β → Prop} : ∀ {as : List α} {bs : List β}, Paired R as bs → (∀ a b, b ∈ bs → R a b → R' a b) → Paired R' as bs
  | _, _, .nil, _ => .nil
  | _, _, .cons r t, h => .cons (h _ _ (List.mem_cons_self ..) r) (paired_imp t fun a b hb => h a b (List.mem_cons_of_mem _ hb))
theorem slots_noOwn {K : PySem.W.Frag} {W : Option Addr} {H0 : Hp} (s : Slots K W H0 F H σ ρ) (n : NoOwn ρ) (e : Same F F1) : Slots K W H0 F1 H1 σ ρ := by
  refine ⟨paired_imp s.at_ fun x y hy r => ?_, fun i j o1 o2 a1 a2 as1 as2 _ h => absurd h (n i o1)⟩
  cases r with
  | un => exact .un _
  | fz d => exact .fz (d.mono e)
  | own fr ow =>
    obtain ⟨i, hi⟩ := List.mem_iff_getElem?.mp hy
    exact absurd hi (n i _)
/-- behind a call that adds to the list -/
theorem AtL.put (x : AtL X c a F H σ ρ ds) {us' : List V} {ds' : List D} (f : FrL c.W a F H F1 H1) (e : H1 a = some (.lst us')) (d : DatL X.K F1 us' ds') : AtL X c a F1 H1 σ ρ ds' := by
  refine ⟨⟨⟨f.sub, x.at_.en.grow.trans f.grow, fun b o h n => ?_, fun b o h => ?_, f.well⟩, slots_noOwn x.at_.sl x.no f.grow⟩, x.s0, f.nf, x.w, x.h0, x.no, us', e, d⟩
  · exact f.keep b o (x.at_.en.keep b o h n) n (fun z => by rw [z, x.h0] at h; cases h)
  · rcases f.new b o h with h1 | h1
    · exact x.at_.en.new b o h1
    · cases z : c.H0 b with
      | none => exact .inr rfl
      | some u =>
        by_cases w : c.W = some b
        · have := (f.well b w).1
          rw [h] at this
          cases this
        · have := x.at_.en.keep b u z w
          rw [h1] at this
          cases this
end
abbrev EL := List Sl → List D → Prop
abbrev DSL := EL → List Sl → List D → Prop
section
variable {X : Cx} {c : Dx} {a : Addr}
@[simp] def lSkip : DSL := fun De ρ ds => De ρ ds
@[simp] def lSeq (p q : DSL) : DSL := fun De ρ ds => p (fun ρ' ds' => q De ρ' ds') ρ ds
@[simp] def lNever : DSL := fun _ _ _ => False
@[simp] def lIf (t : DT) (p q : DSL) : DSL := fun De ρ ds => t ρ fun k => if k = true then p De ρ ds else q De ρ ds
/-- found.append(e) -/
@[simp] def lApp (de : DE) : DSL := fun De ρ ds => de ρ fun y => ds.length < sizeLine ∧ De ρ (ds ++ [y])
/-- for tg in e: .. -/
def lLoop (set : DG) (body : DSL) (De : EL) : List D → List Sl → List D → Prop
  | [], ρ, ds => De ρ ds
  | d :: r, ρ, ds => ∃ ρ1, set d ρ = some ρ1 ∧ NoOwn ρ1 ∧ body (fun ρ' ds' => lLoop set body De r ρ' ds') ρ1 ds
@[simp] def lFor (di : DA) (set : DG) (body : DSL) : DSL := fun De ρ ds => di ρ fun xs => lLoop set body De xs ρ ds
end
end DL.Lent
set_option Elab.async false
set_option linter.all false
set_option maxRecDepth 100000
set_option maxHeartbeats 1000000
set_option autoImplicit false
/-! lent lists: the calls, the rule for a def; name += e -/
namespace DL.Lent
open PySem PySem.Spec PyProof.Rows L2 DL
section
variable {X : Cx} {c : Dx} {a : Addr}
variable {k : Nat} {f : Addr} {fd : FuncData} {ps : List Str} {g : GP} {x : Str} {p pos : Pos} {o : Expr} {es : List Expr} {da : DA}
/-- f(found, e, ..) within such a def -/
@[simp] def lCall (g : GP) (da : DA) : DSL := fun De ρ ds => da ρ fun es => ∃ Pd, g es ds Pd ∧ ∀ ds', Pd ds' → De ρ ds'
/-- f(y, e, ..), y a list of one's own -/
@[simp] def dPut (i : Nat) (g : GP) (da : DA) : DS := fun De ρ => ∃ ds, ρ[i]? = some (.ow ds) ∧ da ρ fun es => ∃ Pd, g es ds Pd ∧ ∀ ds', Pd ds' → De.nx (ρ.set i (.ow ds'))
/-- name += e, ints -/
@[simp] def dAugI (i : Nat) (de : DE) : DS := fun De ρ => ∃ m, ρ[i]? = some (.fz (.int m)) ∧ de ρ fun d => ∃ n, d = .int n ∧ De.nx (ρ.set i (.fz (.int (m + n))))
end
section
variable {X : Cx} {c : Dx} {k n m : Nat} {f : Addr} {fd : FuncData} {ps ks : List Str} {x : Str} {p pos : Pos} {e : Expr} {es : List Expr} {kws : List Keyword} {g : GX} {da dk : DA} {dvs : List V} {dds : List D}
/-- f(e, .., k = v, ..), the others by default -/
@[simp] def dClN (g : GX) (W : Option Addr) (n m : Nat) (dds : List D) (da dk : DA) : DE := fun ρ P => da ρ fun ds => dk ρ fun es => ds.length = n ∧ es.length = m ∧ cl g W (ds ++ es ++ dds) P
end
@[simp] theorem noOwn_nil : NoOwn [] = True := eq_true fun i o h => by cases h
@[simp] theorem noOwn_fz {d : D} {ρ : List Sl} : NoOwn (.fz d :: ρ) = NoOwn ρ := propext ⟨fun h i o e => h (i + 1) o e, fun h i o e => by
  cases i with
  | zero => cases e
  | succ i => exact h i o e⟩
@[simp] theorem noOwn_un {ρ : List Sl} : NoOwn (.un :: ρ) = NoOwn ρ := propext ⟨fun h i o e => h (i + 1) o e, fun h i o e => by
  cases i with
  | zero => cases e
  | succ i => exact h i o e⟩
end DL.Lent
set_option Elab.async false
set_option linter.all false
set_option maxRecDepth 100000
set_option maxHeartbeats 1000000
set_option autoImplicit false
/-! isinstance of an own object that is of another class -/
namespace DL.Lent
open PySem PySem.Spec PyProof.Rows L2 DL
end DL.Lent
set_option Elab.async false
set_option linter.all false
set_option maxRecDepth 100000
set_option maxHeartbeats 1000000
set_option autoImplicit false
/-! [e for .. in .. for .. in ..] over data -/
namespace DL
open PySem PySem.Spec PyProof.Rows L2
def dComp2 (set : DG) (di1 : DA) (set1 : DG) (de : DE) (vs1 : List Nat) (ρ : List Sl) : List D → List D → (List D → Prop) → Prop
  | [], acc, P => P acc
  | x :: r, acc, P => ∃ ρ1, set x ρ = some ρ1 ∧ Lent.NoOwn ρ1 ∧ di1 ρ1 fun ys => acc.length + ys.length ≤ sizeLine ∧ dComp set1 dYes de (dWipe ρ1 vs1) ys acc fun acc' => dComp2 set di1 set1 de vs1 ρ r acc' P
@[simp] def dLc2 (di : DA) (set : DG) (di1 : DA) (set1 : DG) (de : DE) (vs vs1 : List Nat) : DE := fun ρ P => di ρ fun xs => dComp2 set di1 set1 de vs1 (dWipe ρ vs) xs [] fun ys => P (.lst ys)
section
variable {X : Cx} {c : Dx}
/-- range(i, j, c) -/
@[simp] def dItR3 (da : DA) : DA := fun ρ P => da ρ fun ds => ∃ (i j k : Int) (n : Nat), ds = [.int i, .int j, .int k] ∧ RgC i j k n ∧ P ((List.range n).map fun (m : Nat) => D.int (i + (m : Int) * k))
/-- d.get(k) -/
@[simp] def dGet1 (da db : DE) : DE := fun ρ P => da ρ fun x => ∃ kvs, x = .dct kvs ∧ db ρ fun y => ∃ k, y = kD k ∧ P ((getK k kvs).getD .non)
end
end DL
namespace DL.Lent
open PySem PySem.Spec PyProof.Rows L2 DL
section
variable {X : Cx} {c : Dx} {a : Addr} {x : Str} {e : Expr} {de : DE} {pos : Pos}
/-- name = e, within a def that adds to its first argument -/
@[simp] def lSet (i : Nat) (de : DE) : DSL := fun De ρ ds => de ρ fun d => De (ρ.set i (.fz d)) ds
/-- name += e, ints -/
@[simp] def lAug (i : Nat) (de : DE) : DSL := fun De ρ ds => ∃ m, ρ[i]? = some (.fz (.int m)) ∧ de ρ fun d => ∃ n, d = .int n ∧ De (ρ.set i (.fz (.int (m + n)))) ds
end
section
variable {X : Cx} {c : Dx} {k n m : Nat} {f : Addr} {fd : FuncData} {ps ks : List Str} {x : Str} {p pos : Pos} {e : Expr} {es : List Expr} {kws : List Keyword} {g : GX} {da dk : DA}
/-- f(e, .., k = v, ..), all written, in another order -/
@[simp] def dClP (g : GX) (W : Option Addr) (n m : Nat) (is : List Nat) (da dk : DA) : DE := fun ρ P => da ρ fun ds => dk ρ fun es => ds.length = n ∧ es.length = m ∧ cl g W (ds ++ permOf is es) P
end
end DL.Lent
set_option Elab.async false
set_option linter.all false
set_option maxRecDepth 100000
set_option maxHeartbeats 1000000
set_option autoImplicit false
/-! k in d over data, where k may be None -/
namespace DL
open PySem PySem.Spec PyProof.Rows L2
end DL
set_option Elab.async false
set_option linter.all false
set_option maxRecDepth 100000
set_option maxHeartbeats 1000000
set_option autoImplicit false
/-! s[k] and s[a:b] of a text -/
namespace DL
open PySem PySem.Spec PyProof.Rows L2
section
variable {X : Cx} {c : Dx}
@[simp] def dSlC (te : DE) (tl th : DO) : DE := fun ρ P => te ρ fun x => tl ρ fun l => th ρ fun u => ∃ z, x = .str z ∧ z.length ≤ sizeLine ∧ P (.str (cutS z l u))
end
end DL
set_option Elab.async false
set_option linter.all false
set_option maxRecDepth 100000
set_option maxHeartbeats 1000000
set_option autoImplicit false
/-! zip of two lists, or of two tuples -/
namespace DL
open PySem PySem.Spec PyProof.Rows L2
section
variable {X : Cx} {c : Dx}
def zipD : List D → List D → List D
  | x :: xs, y :: ys => .tup [x, y] :: zipD xs ys
  | _, _ => []
@[simp] def dZip (da : DA) : DA := fun ρ P => da ρ fun ds => ∃ xs ys, (ds = [.lst xs, .lst ys] ∨ ds = [.tup xs, .tup ys]) ∧ P (zipD xs ys)
end
end DL
set_option Elab.async false
set_option linter.all false
set_option maxRecDepth 100000
set_option maxHeartbeats 1000000
set_option autoImplicit false
/-! a list * an int -/
namespace DL
open PySem PySem.Spec PyProof.Rows L2
end DL
set_option Elab.async false
set_option linter.all false
set_option maxRecDepth 100000
set_option maxHeartbeats 1000000
set_option autoImplicit false
/-! max of three ints -/
namespace DL
open PySem PySem.Spec PyProof.Rows L2
section
variable {X : Cx} {c : Dx}
def fMax3 : FN := fun ds P => ∃ i j k, ds = [.int i, .int j, .int k] ∧ P (.int (max (max i j) k))
end
@[simp] theorem fMax3_eval {i j k : Int} {P : D → Prop} : fMax3 [.int i, .int j, .int k] P = P (.int (max (max i j) k)) := by
  apply propext
  constructor
  · rintro ⟨a, b, c, e, p⟩
    cases e
    exact p
  · exact fun p => ⟨_, _, _, rfl, p⟩
section
variable {X : Cx} {c : Dx}
/-- a + b of lists, one's own -/
@[simp] def dNcat (da db : DE) : DEo := fun ρ P => da ρ fun x => db ρ fun y => ∃ l m, x = .lst l ∧ y = .lst m ∧ l.length + m.length ≤ 1000 ∧ P (.lst (l ++ m))
end
end DL
set_option Elab.async false
set_option linter.all false
set_option maxRecDepth 100000
set_option maxHeartbeats 3200000
set_option autoImplicit false
/-! things of one's own within each other: kept -/
namespace DL
open PySem PySem.Spec PyProof.Rows L2
def NK.D (k : NK) (ds : List D) : D := match k with
  | .lst => .lst ds
  | .dct ks => .dct (ks.zip ds)
  | .tup => .tup ds
  | .ins C fs => .ins C (fs.zip ds)
mutual
def OT.D : OT → D
  | .fz d => d
  | .node k ts => k.D (OT.Ds ts)
def OT.Ds : List OT → List D
  | [] => []
  | t :: r => t.D :: OT.Ds r
end
/-- what slot i holds for itself, things within each other, is kept from now on -/
@[simp] def dKeepT (i : Nat) (d : DS) : DS := fun De ρ => ∃ as k ts, ρ[i]? = some (.own (.nest as k ts)) ∧ d De (ρ.set i (.fz (k.D (OT.Ds ts))))
/-- a thing of one's own as a tree -/
def OD.tree : OD → Option (NK × List OT)
  | .lst ds => some (.lst, ds.map .fz)
  | .dct kvs => some (.dct (kvs.map (·.1)), kvs.map fun p => .fz p.2)
  | .nest _ k ts => some (k, ts)
  | _ => none
theorem trees_fz {K : PySem.W.Frag} {F H : Hp} : ∀ {vs : List V} {ds : List D}, DatL K F vs ds → TreesAt K F H vs (ds.map .fz) []
  | _, _, .nil => .nil
  | _, _, .cons h t => .cons (as := []) (bs := []) (.fz h) (trees_fz t) (fun q hq => by cases hq)
theorem datK_vals {K : PySem.W.Frag} {F : Hp} : ∀ {vs : List (Key × V)} {ds : List (Key × D)}, DatK K F vs ds → DatL K F (vs.map (·.2)) (ds.map (·.2)) ∧ (ds.map (·.1)).zip (vs.map (·.2)) = vs
  | _, _, .nil => ⟨.nil, rfl⟩
  | _, _, .cons h t => by
    obtain ⟨a, b⟩ := datK_vals t
    refine ⟨.cons h a, ?_⟩
    rw [List.map_cons, List.map_cons, List.zip_cons_cons, b]
theorem OwnAt.tree {K : PySem.W.Frag} {F H : Hp} {o : OD} {a : Addr} {as : List Addr} {k : NK} {ts : List OT} (h : OwnAt K F H o a as) (e : o.tree = some (k, ts)) : ∃ bs, TreeAt K F H (.ref a) (.node k ts) bs ∧ ∀ q ∈ bs, q ∈ as := by
  cases h with
  | lst hp hd =>
    cases e
    exact ⟨[a], .node hp (trees_fz hd) (by simp), fun q hq => hq⟩
  | @dct _ vs ds hp hd nd =>
    cases e
    obtain ⟨d1, e1⟩ := datK_vals hd
    have t := trees_fz (H := H) d1
    rw [List.map_map] at t
    refine ⟨[a], .node (k := .dct _) ⟨by rw [e1]; exact hp, ?_, nd⟩ t (by simp), fun q hq => hq⟩
    rw [List.length_map, List.length_map, hd.length]
  | nest t b l =>
    cases e
    exact ⟨_, t, b⟩
  | box _ _ _ _ => cases e
  | obj _ _ => cases e
end DL
set_option Elab.async false
set_option linter.all false
set_option maxRecDepth 100000
set_option maxHeartbeats 3200000
set_option autoImplicit false
/-! things of one's own within each other: places -/
namespace DL
open PySem PySem.Spec PyProof.Rows L2
/-- what stands at a path -/
def OT.at : List Nat → OT → Option OT
  | [], t => some t
  | _ :: _, .fz _ => none
  | n :: r, .node _ ts => ts[n]?.bind (OT.at r)
/-- a node in the place of what stands at a path -/
def OT.put (k' : NK) (us : List OT) : List Nat → OT → OT
  | [], _ => .node k' us
  | _ :: _, .fz d => .fz d
  | n :: r, .node k ts => .node k (match ts[n]? with | some t => ts.set n (OT.put k' us r t) | none => ts)
def kidsV : HO → List V
  | .lst vs => vs
  | .tup vs => vs
  | .dK kvs => kvs.map (·.2)
  | .ins _ _ fs => fs.map (·.2)
  | _ => []
def pathV (H : Hp) : List Nat → V → Option V
  | [], v => some v
  | n :: r, .ref a => (H a).bind fun o => (kidsV o)[n]?.bind (pathV H r)
  | _ :: _, _ => none
theorem NK.at.kids {k : NK} {H : Hp} {a : Addr} {vs : List V} (h : k.at H a vs) : ∃ o, H a = some o ∧ kidsV o = vs := by
  cases k with
  | lst => exact ⟨_, h, rfl⟩
  | tup => exact ⟨_, h, rfl⟩
  | dct ks => exact ⟨_, h.1, List.map_snd_zip (Nat.le_of_eq h.2.1.symm)⟩
  | ins C fs =>
    obtain ⟨dx, e, l⟩ := h
    exact ⟨_, e, List.map_snd_zip (Nat.le_of_eq l.symm)⟩
section
variable {K : PySem.W.Frag} {F H H1 : Hp}
theorem TreesAt.get : ∀ {vs : List V} {ts : List OT} {as : List Addr}, TreesAt K F H vs ts as → ∀ {n : Nat} {t : OT}, ts[n]? = some t → ∃ v bs, vs[n]? = some v ∧ TreeAt K F H v t bs ∧ ∀ q ∈ bs, q ∈ as
  | _, _, _, .nil, n, t, e => by simp at e
  | _, _, _, .cons a b d, 0, t, e => by
    simp at e
    subst e
    exact ⟨_, _, rfl, a, fun q hq => List.mem_append_left _ hq⟩
  | _, _, _, .cons a b d, n + 1, t, e => by
    obtain ⟨v, bs, h1, h2, h3⟩ := b.get (n := n) (t := t) (by simpa using e)
    exact ⟨v, bs, by simpa using h1, h2, fun q hq => List.mem_append_right _ (h3 q hq)⟩
theorem TreesAt.set : ∀ {vs : List V} {ts : List OT} {as : List Addr}, TreesAt K F H vs ts as → ∀ {n : Nat} {t t' : OT}, ts[n]? = some t →
    (∀ v bs, vs[n]? = some v → TreeAt K F H v t bs → (∀ q ∈ bs, q ∈ as) → (∃ bs', TreeAt K F H1 v t' bs' ∧ ∀ q ∈ bs', q ∈ bs) ∧ ∀ q, ¬ q ∈ bs → H1 q = H q) → ∃ as', TreesAt K F H1 vs (ts.set n t') as' ∧ ∀ q ∈ as', q ∈ as
  | _, _, _, .nil, n, t, t', e, _ => by simp at e
  | _, _, _, .cons (as := as) (bs := bs) a b d, 0, t, t', e, h => by
    simp at e
    subst e
    obtain ⟨⟨bs', t1, s1⟩, off⟩ := h _ _ rfl a fun q hq => List.mem_append_left _ hq
    refine ⟨bs' ++ bs, .cons t1 (b.move (Same.refl F) fun q hq => off q fun z => d q z hq) (fun q hq z => d q (s1 q hq) z), fun q hq => ?_⟩
    rcases List.mem_append.mp hq with hq | hq
    · exact List.mem_append_left _ (s1 q hq)
    · exact List.mem_append_right _ hq
  | _, _, _, .cons (as := as) (bs := bs) a b d, n + 1, t, t', e, h => by
    have e' : _ := (by simpa using e : _)
    obtain ⟨w, cs, g1, g2, g3⟩ := b.get e'
    obtain ⟨_, off⟩ := h w cs (by simpa using g1) g2 fun q hq => List.mem_append_right _ (g3 q hq)
    obtain ⟨as', t2, s2⟩ := b.set (t' := t') e' fun v bs2 h1 h2 h3 => h v bs2 (by simpa using h1) h2 fun q hq => List.mem_append_right _ (h3 q hq)
    refine ⟨as ++ as', .cons (a.move (Same.refl F) fun q hq => off q fun z => d q hq (g3 q z)) t2 (fun q hq z => d q hq (s2 q z)), fun q hq => ?_⟩
    rcases List.mem_append.mp hq with hq | hq
    · exact List.mem_append_left _ hq
    · exact List.mem_append_right _ (s2 q hq)
/-- another node at a path -/
theorem TreeAt.put {p : Addr} {o : HO} {k' : NK} {us : List OT} {ws : List V} (hk : k'.at (upd H p o) p ws) : ∀ (r : List Nat) {v : V} {t : OT} {as : List Addr} {k : NK} {ts0 : List OT}, TreeAt K F H v t as → OT.at r t = some (.node k ts0) → pathV H r v = some (.ref p) →
    (∀ bs, TreeAt K F H (.ref p) (.node k ts0) (p :: bs) → (∀ q ∈ p :: bs, q ∈ as) → ∃ cs, TreesAt K F (upd H p o) ws us cs ∧ (∀ q ∈ cs, q ∈ bs) ∧ ¬ p ∈ cs) →
    (∃ as', TreeAt K F (upd H p o) v (OT.put k' us r t) as' ∧ ∀ q ∈ as', q ∈ as) ∧ p ∈ as
  | [], v, t, as, k, ts0, h, e, ev, hc => by
    cases e
    cases ev
    cases h with
    | @node _ _ _ _ bs h1 h2 h3 =>
      obtain ⟨cs, c1, c2, c3⟩ := hc bs (.node h1 h2 h3) fun q hq => hq
      refine ⟨⟨p :: cs, .node hk c1 c3, fun q hq => ?_⟩, List.mem_cons_self ..⟩
      rcases List.mem_cons.mp hq with rfl | hq
      · exact List.mem_cons_self ..
      · exact List.mem_cons_of_mem _ (c2 q hq)
  | n :: r, _, _, _, k, ts0, .fz _, e, _, _ => by cases e
  | n :: r, _, _, _, k, ts0, .node (a := a) (k := kk) (ts := tts) (as := as) h1 h2 h3, e, ev, hc => by
    obtain ⟨t, e1, e2⟩ := Option.bind_eq_some_iff.mp e
    obtain ⟨o1, ho, eo⟩ := h1.kids
    obtain ⟨v, bs, g1, g2, g3⟩ := h2.get e1
    have ev2 : pathV H r v = some (.ref p) := by
      have z : (H a).bind (fun o => (kidsV o)[n]?.bind (pathV H r)) = some (.ref p) := ev
      rw [ho] at z
      have z2 : (kidsV o1)[n]?.bind (pathV H r) = some (.ref p) := z
      rw [eo, g1] at z2
      exact z2
    have ih := TreeAt.put hk r g2 e2 ev2 fun bs2 t2 s2 => hc bs2 t2 fun q hq => List.mem_cons_of_mem _ (g3 q (s2 q hq))
    have pin : p ∈ as := g3 p ih.2
    have ne : ¬ a = p := fun z => h3 (z ▸ pin)
    obtain ⟨as', t2, s2⟩ := h2.set (H1 := upd H p o) (t' := OT.put k' us r t) e1 fun v' bs' h1' h2' h3' => by
      rw [g1] at h1'
      cases h1'
      have ih2 := TreeAt.put hk r h2' e2 ev2 fun bs2 t2 s2 => hc bs2 t2 fun q hq => List.mem_cons_of_mem _ (h3' q (s2 q hq))
      exact ⟨ih2.1, fun q hq => upd_ne fun z => hq (z ▸ ih2.2)⟩
    refine ⟨⟨a :: as', ?_, fun q hq => ?_⟩, List.mem_cons_of_mem _ pin⟩
    · have e3 : OT.put k' us (n :: r) (.node kk tts) = .node kk (tts.set n (OT.put k' us r t)) := by simp only [OT.put, e1]
      rw [e3]
      exact .node (h1.move (upd_ne ne)) t2 fun z => h3 (s2 a z)
    · rcases List.mem_cons.mp hq with rfl | hq
      · exact List.mem_cons_self ..
      · exact List.mem_cons_of_mem _ (s2 q hq)
end
end DL
set_option Elab.async false
set_option linter.all false
set_option maxRecDepth 100000
set_option maxHeartbeats 3200000
set_option autoImplicit false
/-! things of one's own within each other: expressions that tell a place -/
namespace DL
open PySem PySem.Spec PyProof.Rows L2
abbrev DPl := List Sl → (Nat → List Nat → Prop) → Prop
section
variable {X : Cx} {c : Dx}
/-- x, a thing of one's own -/
@[simp] def dPl0 (i : Nat) : DPl := fun ρ P => (∃ as k ts, ρ[i]? = some (.own (.nest as k ts))) ∧ P i []
/-- e[k], e the place of a dict -/
@[simp] def dPlK (dp : DPl) (dk : DE) : DPl := fun ρ P => dp ρ fun i r => dk ρ fun x => ∃ key as k ts ks us n, x = kD key ∧ ρ[i]? = some (.own (.nest as k ts)) ∧ OT.at r (.node k ts) = some (.node (.dct ks) us) ∧ ks[n]? = some key ∧ P i (r ++ [n])
end
end DL
set_option Elab.async false
set_option linter.all false
set_option maxRecDepth 100000
set_option maxHeartbeats 3200000
set_option autoImplicit false
/-! things of one's own within each other: a dict at a place is changed -/
namespace DL
open PySem PySem.Spec PyProof.Rows L2
/-- a dict of data as a node -/
def dkK (kvs : List (Key × D)) : NK := .dct (kvs.map (·.1))
def dkT (kvs : List (Key × D)) : List OT := kvs.map fun p => .fz p.2
def OD.putD (as : List Addr) (k : NK) (ts : List OT) (r : List Nat) (kvs : List (Key × D)) : OD := match OT.put (dkK kvs) (dkT kvs) r (.node k ts) with
  | .node k2 ts2 => .nest as k2 ts2
  | .fz _ => .nest as k ts
section
variable {X : Cx} {c : Dx}
/-- e.update(d), e the place of a dict of data -/
@[simp] def dPupd (dp : DPl) (de : DE) : DS := fun De ρ => dp ρ fun i r => ∃ as k ts kvs, ρ[i]? = some (.own (.nest as k ts)) ∧ OT.at r (.node k ts) = some (.node (dkK kvs) (dkT kvs)) ∧ de ρ fun y => ∃ more, y = .dct more ∧ kvs.length + more.length ≤ sizeLine ∧ De.nx (ρ.set i (.own (OD.putD as k ts r (mergeD kvs more))))
/-- e[k] = v, e the place of a dict of data -/
@[simp] def dPput (dp : DPl) (dk dv : DE) : DS := fun De ρ => dv ρ fun y => dp ρ fun i r => dk ρ fun x => ∃ key as k ts kvs, x = kD key ∧ ρ[i]? = some (.own (.nest as k ts)) ∧ OT.at r (.node k ts) = some (.node (dkK kvs) (dkT kvs)) ∧ kvs.length < sizeLine ∧ De.nx (ρ.set i (.own (OD.putD as k ts r (setK key y kvs))))
/-- e[k], e the place of a list -/
@[simp] def dPlI (dp : DPl) (dk : DE) : DPl := fun ρ P => dp ρ fun i r => dk ρ fun x => ∃ as k ts us, ∃ n : Nat, x = .int (n : Int) ∧ ρ[i]? = some (.own (.nest as k ts)) ∧ OT.at r (.node k ts) = some (.node .lst us) ∧ n < us.length ∧ P i (r ++ [n])
end
end DL
set_option Elab.async false
set_option linter.all false
set_option maxRecDepth 100000
set_option maxHeartbeats 3200000
set_option autoImplicit false
/-! things of one's own within each other: x.append(y), y of one's own -/
namespace DL
open PySem PySem.Spec PyProof.Rows L2
theorem TreesAt.snoc {K : PySem.W.Frag} {F H : Hp} {v : V} {t : OT} {bs : List Addr} (h2 : TreeAt K F H v t bs) : ∀ {vs : List V} {ts : List OT} {as : List Addr}, TreesAt K F H vs ts as → (∀ q ∈ as, ¬ q ∈ bs) → ∃ cs, TreesAt K F H (vs ++ [v]) (ts ++ [t]) cs ∧ ∀ q ∈ cs, q ∈ as ∨ q ∈ bs
  | _, _, _, .nil, _ => ⟨bs ++ [], .cons h2 .nil (fun q _ hq => by cases hq), fun q hq => .inr (by simpa using hq)⟩
  | _, _, _, .cons (as := a1) (bs := a2) a b d, n => by
    obtain ⟨cs, h, s⟩ := TreesAt.snoc h2 b fun q hq => n q (List.mem_append_right _ hq)
    refine ⟨a1 ++ cs, .cons a h (fun q hq z => ?_), fun q hq => ?_⟩
    · rcases s q z with z | z
      · exact d q hq z
      · exact n q (List.mem_append_left _ hq) z
    · rcases List.mem_append.mp hq with hq | hq
      · exact .inl (List.mem_append_left _ hq)
      · rcases s q hq with z | z
        · exact .inl (List.mem_append_right _ z)
        · exact .inr z
section
variable {X : Cx} {c : Dx}
/-- x.append(y): y is x's from now on -/
@[simp] def dAppO (i j : Nat) : DS := fun De ρ => i ≠ j ∧ ∃ oi oj k' us ts, ρ[i]? = some (.own oi) ∧ oi.tree = some (.lst, ts) ∧ ρ[j]? = some (.own oj) ∧ oj.tree = some (k', us) ∧ ts.length < sizeLine ∧ ∀ as, De.nx ((ρ.set j .un).set i (.own (.nest as .lst (ts ++ [.node k' us]))))
end
end DL
set_option Elab.async false
set_option linter.all false
set_option maxRecDepth 100000
set_option maxHeartbeats 3200000
set_option autoImplicit false
/-! things of one's own within each other: return {k: x, l: y}; y[k], a, b = .. -/
namespace DL
open PySem PySem.Spec PyProof.Rows L2
section
variable {X : Cx} {c : Dx}
/-- return {k: x, l: y}, x and y of one's own -/
@[simp] def dRetDsp2 (k1 k2 : Str) (i j : Nat) : DS := fun De ρ => i ≠ j ∧ ∃ oi oj ki kj ti tj, ρ[i]? = some (.own oi) ∧ oi.tree = some (ki, ti) ∧ ρ[j]? = some (.own oj) ∧ oj.tree = some (kj, tj) ∧ ∀ as, De.ro (.nest as (.dct [Sum.inr k1, Sum.inr k2]) [.node ki ti, .node kj tj])
/-- y[n], a, b = .. : y a list of one's own -/
@[simp] def dAsgW (i n j m : Nat) (de : DE) : DS := fun De ρ => de ρ fun d => ∃ u v w ds, d = .tup [u, v, w] ∧ ρ[i]? = some (.ow ds) ∧ n < ds.length ∧ De.nx (((ρ.set i (.ow (ds.set n u))).set j (.fz v)).set m (.fz w))
end
end DL
set_option Elab.async false
set_option linter.all false
set_option maxRecDepth 100000
set_option maxHeartbeats 3200000
set_option autoImplicit false
/-! != of tuples whose items are equal, own classes too -/
namespace DL
open PySem PySem.Spec PyProof.Rows L2
/-! tuples of flat values and of instances of C -/
end DL
set_option Elab.async false
set_option linter.all false
set_option maxRecDepth 100000
set_option maxHeartbeats 2000000
set_option autoImplicit false
/-! enumerate(a text) -/
namespace DL
open PySem PySem.Spec PyProof.Rows L2
section
variable {X : Cx} {c : Dx}
/-- enumerate(a text) -/
@[simp] def dEnS (de : DE) : DA := fun ρ P => de ρ fun d => ∃ x, d = .str x ∧ P (enumD 0 (signsD x))
end
end DL
set_option Elab.async false
set_option linter.all false
set_option maxRecDepth 100000
set_option maxHeartbeats 3200000
set_option autoImplicit false
/-! things of one's own within each other: tuples and instances; seen as kept; lists within, emptied -/
namespace DL
open PySem PySem.Spec PyProof.Rows L2
/-! kept, where no dict lies within -/
def NK.noD : NK → Bool
  | .dct _ => false
  | _ => true
mutual
def OT.noD : OT → Bool
  | .fz _ => true
  | .node k ts => k.noD && OT.noDs ts
def OT.noDs : List OT → Bool
  | [] => true
  | t :: r => t.noD && OT.noDs r
end
section
variable {X : Cx} {c : Dx}
/-- what slot i holds for itself, things within each other, is seen as kept in a test -/
@[simp] def dLendTN (i : Nat) (dt : DT) : DT := fun ρ P => ∃ as k ts, ρ[i]? = some (.own (.nest as k ts)) ∧ (OT.node k ts).noD = true ∧ dt (ρ.set i (.fz (k.D (OT.Ds ts)))) P
/-! a box as a tree -/
def OD.treeB : OD → Option (NK × List OT)
  | .box _ C fs f ds => some (.ins C (fs.map (·.1) ++ [f]), (fs.map fun p => .fz p.2) ++ [.node .lst (ds.map .fz)])
  | o => o.tree
theorem datF_vals {K : PySem.W.Frag} {F : Hp} : ∀ {vs : List (Str × V)} {fs : List (Str × D)}, DatF K F vs fs → DatL K F (vs.map (·.2)) (fs.map (·.2)) ∧ (fs.map (·.1)).zip (vs.map (·.2)) = vs
  | _, _, .nil => ⟨.nil, rfl⟩
  | _, _, .cons h t => by
    obtain ⟨a, b⟩ := datF_vals t
    refine ⟨.cons h a, ?_⟩
    rw [List.map_cons, List.map_cons, List.zip_cons_cons, b]
theorem TreesAt.app {K : PySem.W.Frag} {F H : Hp} {v : V} {t : OT} {bs : List Addr} (h2 : TreeAt K F H v t bs) : ∀ {vs : List V} {ts : List OT}, TreesAt K F H vs ts [] → TreesAt K F H (vs ++ [v]) (ts ++ [t]) bs := fun {vs ts} h => by
  have key : ∀ (vs : List V) (ts : List OT) (as : List Addr), TreesAt K F H vs ts as → as = [] → TreesAt K F H (vs ++ [v]) (ts ++ [t]) bs := by
    intro vs
    induction vs with
    | nil =>
      intro ts as h _
      cases h
      have := TreesAt.cons h2 .nil (fun q _ hq => by cases hq)
      rw [List.append_nil] at this
      exact this
    | cons u vs ih =>
      intro ts as h e
      cases h with
      | @cons _ _ a1 _ _ a2 x y d =>
        obtain ⟨e1, e2⟩ := List.append_eq_nil_iff.mp e
        subst e1
        have := TreesAt.cons x (ih _ _ y e2) (fun q hq => by cases hq)
        exact this
  exact key vs ts [] h rfl
theorem OwnAt.treeB {K : PySem.W.Frag} {F H : Hp} {o : OD} {a : Addr} {as : List Addr} {k : NK} {ts : List OT} (h : OwnAt K F H o a as) (e : o.treeB = some (k, ts)) : ∃ bs, TreeAt K F H (.ref a) (.node k ts) bs ∧ ∀ q ∈ bs, q ∈ as := by
  cases h with
  | lst hp hd => exact (OwnAt.lst hp hd).tree e
  | dct hp hd nd => exact (OwnAt.dct hp hd nd).tree e
  | nest t b l => exact (OwnAt.nest t b l).tree e
  | obj _ _ => cases e
  | @box x b C dx vs fs f us ds hx hd hl hm =>
    cases e
    obtain ⟨d1, e1⟩ := datF_vals hd
    have t := trees_fz (H := H) d1
    rw [List.map_map] at t
    have ne : a ≠ b := fun z => by rw [z, hl] at hx; cases hx
    have hl' : NK.lst.at H b us := hl
    have tb : TreeAt K F H (.ref b) (.node .lst (ds.map .fz)) [b] := .node hl' (trees_fz hm) (by simp)
    have tt := TreesAt.app tb t
    have len : (fs.map (·.1)).length = (vs.map (·.2)).length := by rw [List.length_map, List.length_map, hd.length]
    refine ⟨[a, b], .node (k := .ins C _) ⟨dx, ?_, by simp only [List.length_append, len, List.length_cons, List.length_nil]⟩ tt (by simpa using ne), fun q hq => hq⟩
    rw [List.zip_append len, e1]
    exact hx
/-! return x, y: x something new -/
@[simp] def dRetTup2 (den : DEo) (de : DE) : DS := fun De ρ => den ρ fun o => ∃ k ts, o.treeB = some (k, ts) ∧ de ρ fun d => ∀ as, De.ro (.nest as .tup [.node k ts, .fz d])
end
end DL
set_option Elab.async false
set_option linter.all false
set_option maxRecDepth 100000
set_option maxHeartbeats 3200000
set_option autoImplicit false
/-! things of one's own within each other: places in tuples and instances; a list within is emptied -/
namespace DL
open PySem PySem.Spec PyProof.Rows L2
section
variable {X : Cx} {c : Dx}
/-- e[k], e the place of a tuple -/
@[simp] def dPlT (dp : DPl) (dk : DE) : DPl := fun ρ P => dp ρ fun i r => dk ρ fun x => ∃ as k ts us, ∃ n : Nat, x = .int (n : Int) ∧ ρ[i]? = some (.own (.nest as k ts)) ∧ OT.at r (.node k ts) = some (.node .tup us) ∧ n < us.length ∧ P i (r ++ [n])
/-- e.f, e the place of an instance -/
@[simp] def dPlF (C : Addr) (f : Str) (dp : DPl) : DPl := fun ρ P => dp ρ fun i r => ∃ as k ts fs us, ρ[i]? = some (.own (.nest as k ts)) ∧ OT.at r (.node k ts) = some (.node (.ins C fs) us) ∧ f ∈ fs ∧ P i (r ++ [fs.idxOf f])
def OD.putL (as : List Addr) (k : NK) (ts : List OT) (r : List Nat) (us : List OT) : OD := match OT.put .lst us r (.node k ts) with
  | .node k2 ts2 => .nest as k2 ts2
  | .fz _ => .nest as k ts
/-- e.clear(), e the place of a list -/
@[simp] def dPclear (dp : DPl) : DS := fun De ρ => dp ρ fun i r => ∃ as k ts us, ρ[i]? = some (.own (.nest as k ts)) ∧ OT.at r (.node k ts) = some (.node .lst us) ∧ De.nx (ρ.set i (.own (OD.putL as k ts r [])))
end
end DL
set_option Elab.async false
set_option linter.all false
set_option maxRecDepth 100000
set_option maxHeartbeats 3200000
set_option autoImplicit false
/-! y = [.. for ..], a list of one's own -/
namespace DL
open PySem PySem.Spec PyProof.Rows L2
section
variable {X : Cx} {c : Dx}
@[simp] def dLcN (di : DA) (set : DG) (tt : DT) (de : DE) (vs : List Nat) : DEo := fun ρ P => di ρ fun xs => xs.length < sizeLine ∧ dComp set tt de (dWipe ρ vs) xs [] fun ys => P (.lst ys)
end
end DL
set_option Elab.async false
set_option linter.all false
set_option maxRecDepth 100000
set_option maxHeartbeats 3200000
set_option autoImplicit false
/-! instances of one's own with lists of their own: fields set and read, lists at places filled -/
namespace DL
open PySem PySem.Spec PyProof.Rows L2
def OD.treeO : OD → Option (NK × List OT)
  | .obj _ C fs => some (.ins C (fs.map (·.1)), fs.map fun p => .fz p.2)
  | o => o.treeB
theorem OwnAt.treeO {K : PySem.W.Frag} {F H : Hp} {o : OD} {a : Addr} {as : List Addr} {k : NK} {ts : List OT} (h : OwnAt K F H o a as) (e : o.treeO = some (k, ts)) : ∃ bs, TreeAt K F H (.ref a) (.node k ts) bs ∧ ∀ q ∈ bs, q ∈ as := by
  cases h with
  | lst hp hd => exact (OwnAt.lst hp hd).treeB e
  | dct hp hd nd => exact (OwnAt.dct hp hd nd).treeB e
  | nest t b l => exact (OwnAt.nest t b l).treeB e
  | box a b c d => exact (OwnAt.box a b c d).treeB e
  | @obj x C dx vs fs hx hd =>
    cases e
    obtain ⟨d1, e1⟩ := datF_vals hd
    have t := trees_fz (H := H) d1
    rw [List.map_map] at t
    exact ⟨[a], .node (k := .ins C _) ⟨dx, by rw [e1]; exact hx, by rw [List.length_map, List.length_map, hd.length]⟩ t (by simp), fun q hq => hq⟩
section
variable {X : Cx} {c : Dx}
/-- x.f = e, a new field -/
@[simp] def dNset (i : Nat) (C : Addr) (f : Str) (de : DE) : DS := fun De ρ => de ρ fun d => ∃ o fs ts x, ρ[i]? = some (.own o) ∧ o.treeO = some (.ins C fs, ts) ∧ o.addr = some x ∧ ¬ f ∈ fs ∧ fs.length < 1000 ∧ ∀ as, De.nx (ρ.set i (.own (.nest (x :: as) (.ins C (fs ++ [f])) (ts ++ [.fz d]))))
/-- x.f = something new, a new field -/
@[simp] def dNsetN (i : Nat) (C : Addr) (f : Str) (den : DEo) : DS := fun De ρ => den ρ fun o2 => ∃ k2 us, o2.treeO = some (k2, us) ∧ ∃ o fs ts x, ρ[i]? = some (.own o) ∧ o.treeO = some (.ins C fs, ts) ∧ o.addr = some x ∧ ¬ f ∈ fs ∧ fs.length < 1000 ∧ ∀ as, De.nx (ρ.set i (.own (.nest (x :: as) (.ins C (fs ++ [f])) (ts ++ [.node k2 us]))))
/-- x.f, kept data within what is one's own -/
@[simp] def dNfld (i : Nat) (C : Addr) (f : Str) : DE := fun ρ P => ∃ o fs ts d, ρ[i]? = some (.own o) ∧ o.treeO = some (.ins C fs, ts) ∧ f ∈ fs ∧ ts[fs.idxOf f]? = some (.fz d) ∧ P d
end
end DL
set_option Elab.async false
set_option linter.all false
set_option maxRecDepth 100000
set_option maxHeartbeats 3200000
set_option autoImplicit false
/-! lists of one's own at places: filled, read -/
namespace DL
open PySem PySem.Spec PyProof.Rows L2
section
variable {X : Cx} {c : Dx}
/-- e.append(y), e the place of a list -/
@[simp] def dPapp (dp : DPl) (de : DE) : DS := fun De ρ => dp ρ fun i r => ∃ as k ts us, ρ[i]? = some (.own (.nest as k ts)) ∧ OT.at r (.node k ts) = some (.node .lst us) ∧ us.length < sizeLine ∧ de ρ fun y => De.nx (ρ.set i (.own (OD.putL as k ts r (us ++ [.fz y]))))
/-- e.extend(l), e the place of a list -/
@[simp] def dPext (dp : DPl) (de : DE) : DS := fun De ρ => dp ρ fun i r => ∃ as k ts us, ρ[i]? = some (.own (.nest as k ts)) ∧ OT.at r (.node k ts) = some (.node .lst us) ∧ de ρ fun y => ∃ es, y = .lst es ∧ us.length + es.length ≤ sizeLine ∧ De.nx (ρ.set i (.own (OD.putL as k ts r (us ++ es.map .fz))))
/-- e[k], e the place of a list: kept data -/
@[simp] def dPitem (dp : DPl) (dk : DE) : DE := fun ρ P => dp ρ fun i r => dk ρ fun x => ∃ as k ts us, ∃ n : Nat, ∃ d, x = .int (n : Int) ∧ ρ[i]? = some (.own (.nest as k ts)) ∧ OT.at r (.node k ts) = some (.node .lst us) ∧ us[n]? = some (.fz d) ∧ P d
end
end DL
set_option Elab.async false
set_option linter.all false
set_option maxRecDepth 100000
set_option maxHeartbeats 3200000
set_option autoImplicit false
/-! < of data that are alike; xs.count(y) -/
namespace DL
open PySem PySem.Spec PyProof.Rows L2
section
variable {X : Cx} {c : Dx}
def rLtD (K : PySem.W.Frag) : R2 := fun x y H Q => ∃ d e, Dp K H x d ∧ Dp K H y e ∧ PySem.W.alike d e = true ∧ d ≠ .none ∧ d.depth ≤ 60 ∧ Q (.bl (PySem.W.dataLt d e)) H
theorem op_ltD (hu : X.A.units + 64 < cLine) : OpR X (compareOp .Lt) (rLtD X.K) := by
  intro pins s σ H x y v u Q I rx ry h
  obtain ⟨d, e, hd, he, ha, hn, h60, q⟩ := h
  obtain ⟨as, r1⟩ := Dp.reads I d x v hd rx
  obtain ⟨bs, r2⟩ := Dp.reads I e y u he ry
  exact PySem.W.rcLt_alike d e X.A s v u as bs r1 r2 ha hn (by omega) X.prog X.w X.xe (EP X pins σ Q) ⟨.bl _, H, I, rfl, q⟩
/-- x < y, alike -/
def fLtD : F2 := fun x y P => (∃ p, x.py = some p) ∧ (∃ p, y.py = some p) ∧ PySem.W.alike (pyOf x) (pyOf y) = true ∧ pyOf x ≠ .none ∧ (pyOf x).depth ≤ 60 ∧ P (.bl (PySem.W.dataLt (pyOf x) (pyOf y)))
theorem mono_fLtD : Mono2 fLtD := fun x y P P' m ⟨a, b, c, d, e, p⟩ => ⟨a, b, c, d, e, m _ p⟩
theorem py_of {x : D} {p : PyData} (h : x.py = some p) : pyOf x = p := by unfold pyOf; rw [h]; rfl
theorem serves_ltD : Serves X c (rLtD X.K) fLtD := by
  intro F H x y dx dy P Q G hx hy h q
  obtain ⟨⟨p, e1⟩, ⟨p2, e2⟩, ha, hn, h60, r⟩ := h
  rw [py_of e1, py_of e2] at ha r
  rw [py_of e1] at hn h60
  exact ⟨p, p2, Dp.mono G.sub (dat_dp hx e1), Dp.mono G.sub (dat_dp hy e2), ha, hn, h60, q _ _ F H r G.rfl (.bl _)⟩
/-- xs.count(y) -/
def rCntD (K : PySem.W.Frag) : V → List V → Hp → VK → Prop := fun x xs H Q => ∃ (p : Addr) (vs : List V) (ds : List PyData) (y : V) (e : PyData), x = .ref p ∧ xs = [y] ∧ SqL K H p vs ∧ vs.length = ds.length ∧ (∀ (i : Nat) v d, vs[i]? = some v → ds[i]? = some d → Dp K H v d) ∧ Dp K H y e ∧ (∀ d ∈ ds, d.canLay0 = true) ∧ e.canLay0 = true ∧ e.depth ≤ 60 ∧ Q (.int (ds.countP fun d => d.eqv e : Nat)) H
theorem count_eq {h : Heap} {e : PyData} : ∀ {its : List Value} {ds : List PyData}, its.length = ds.length → (∀ (i : Nat) v d, its[i]? = some v → ds[i]? = some d → d.canLay0 = true ∧ ∃ as, Reads h v d as) → its.countP (fun y => (SeqAt.readOf h y).eqv e) = ds.countP fun d => d.eqv e
  | [], [], _, _ => rfl
  | [], _ :: _, l, _ => by simp at l
  | _ :: _, [], l, _ => by simp at l
  | v :: its, d :: ds, l, k => by
    obtain ⟨c, as, r⟩ := k 0 v d rfl rfl
    rw [List.countP_cons, List.countP_cons, count_eq (its := its) (ds := ds) (by simpa using l) fun i v d a b => k (i + 1) v d (by simpa using a) (by simpa using b), SeqAt.readOf_eq c r]
theorem mt_cntD (hu : X.A.units + 64 < cLine) : MtR X "list.count" (rCntD X.K) := by
  intro pins s σ H x xs v us Q I rx rxs h
  obtain ⟨p, vs, ds, y, e, rfl, rfl, hs, hl, hd, he, hc, hce, h60, q⟩ := h
  cases rx
  cases rxs with
  | @cons _ u _ _ ru rr =>
    cases rr
    obtain ⟨its, rv, pl, _⟩ := I.list hs
    obtain ⟨bs, rb⟩ := Dp.reads I e y u he ru
    have li := rv.length
    have each : ∀ (i : Nat) w d, its[i]? = some w → ds[i]? = some d → d.canLay0 = true ∧ ∃ as, Reads s.heap w d as := fun i w d ew ed => by
      have hi : i < vs.length := by
        have := (List.getElem?_eq_some_iff.mp ed).1
        omega
      obtain ⟨u2, hu2, ru2⟩ := rv.get (List.getElem?_eq_getElem hi)
      rw [ew] at hu2
      cases hu2
      exact ⟨hc d (List.mem_of_getElem? ed), Dp.reads I d _ w (hd i _ d (List.getElem?_eq_getElem hi) ed) ru2⟩
    have hu' : X.A.in1.units + 61 < cLine := by
      show X.A.units + 1 + 61 < cLine
      omega
    obtain ⟨⟨c1, dd1, dat1, sl1⟩, n1, g1, q1, q2, q3⟩ := pl
    simp only at q1 q2 q3
    subst q1 q2 q3
    refine call_meets (T := "list") PySem.F.slot_list_count ⟨_, g1, rfl⟩ PySem.F.entry_list_count (PySem.F.args_list_count_2 _ _) (SeqAt.list_countAt p its.toArray n1 none sl1 u fun w => (SeqAt.readOf s.heap w).eqv e) ⟨g1, fun w hw => ?_, ?_⟩
    · obtain ⟨i, hi, ew⟩ := List.getElem_of_mem (show w ∈ its by simpa using hw)
      have hi2 : i < ds.length := by omega
      obtain ⟨c, as, r⟩ := each i w ds[i] (by rw [List.getElem?_eq_getElem hi, ew]) (List.getElem?_eq_getElem hi2)
      rw [SeqAt.readOf_eq c r]
      exact SeqAt.eqAt_reads ds[i] e X.A.in1 s w u as bs r rb c hce (by have := Nat.min_le_right ds[i].depth e.depth; omega)
    · have ec := count_eq (h := s.heap) (e := e) (its := its) (ds := ds) (by omega) each
      refine ⟨_, H, I.kept (t' := s.toks + 1) (fun _ _ h => h), ?_, q⟩
      refine ⟨s.toks, ?_⟩
      show Value.int _ _ = _
      simp only [List.toList_toArray]
      rw [ec]
/-- xs.count(y), data -/
def okPy (d : D) : Prop := ∃ p, d.py = some p ∧ p.canLay0 = true ∧ p.depth ≤ 60
@[simp] def dCount (de dy : DE) : DE := fun ρ P => de ρ fun x => ∃ ds, x = .lst ds ∧ (∀ d ∈ ds, okPy d) ∧ dy ρ fun y => okPy y ∧ P (.int (ds.countP fun d => (pyOf d).eqv (pyOf y) : Nat))
theorem pd_count {o e : Expr} {de dy : DE} {apos cpos : Pos} (hu : X.A.units + 64 < cLine) (ho : PD X c o de) (he : PD X c e dy) (hst : starEach [e] X.env = [(false, eval e X.env)] := by rfl)
    (hbase : attributeBase o "count" X.env (eval o X.env) = eval o X.env := by rfl)
    (hfew : ((backTo cpos (starEach [e] X.env)).all (fun x => !x.1) && (backToKw cpos (keywordEach [] X.env)).all (fun x => x.1.isSome)
      && decide ([e].length + ([] : List Keyword).length + (if ([] : List Keyword).isEmpty then 0 else 1) < 30)) = true := by rfl)
    (hline : (apos.endLine == cpos.line) = true := by rfl) : PD X c (.Call (.Attribute o "count" apos) [e] [] cpos) (dCount de dy) := by
  refine ⟨imp (pe_bm PySem.F.plainAttrs_list PySem.F.slot_list_count PySem.F.type_list_count (mt_cntD hu) ho.pe (pa_cons he.pe pa_nil hst) hbase hfew hline hst) fun σ H Q q => ?_, fun ρ P P' m => ho.mono ρ _ _ fun x ⟨ds, e, k, q⟩ => ⟨ds, e, k, he.mono ρ _ _ (fun y ⟨a, p⟩ => ⟨a, m _ p⟩) q⟩⟩
  obtain ⟨F, ρ, a, q⟩ := q
  refine ⟨F, ρ, a, ho.mono _ _ _ (fun x q v F1 H1 f1 d1 => ?_) q⟩
  obtain ⟨ds, rfl, hk, q⟩ := q
  cases d1 with
  | @lst al vs _ hs hl =>
    refine ⟨.inl ⟨rfl, _, SqL.of (f1.good.sub _ _ hs)⟩, F1, ρ, a.fr f1, he.mono _ _ _ (fun y q u F2 H2 f2 d2 => ?_) q⟩
    obtain ⟨⟨pe, e1, e2, e3⟩, q⟩ := q
    refine ⟨al, vs, ds.map pyOf, u, pe, rfl, rfl, SqL.of (f2.good.sub _ _ (f2.grow _ _ hs)), by rw [List.length_map, hl.length], fun i v d ev ed => ?_, Dp.mono f2.good.sub (dat_dp d2 e1), fun d hd => ?_, e2, e3, ?_⟩
    · rw [List.getElem?_map] at ed
      obtain ⟨y', ey, rfl⟩ := Option.map_eq_some_iff.mp ed
      obtain ⟨u', eu, du⟩ := hl.get ey
      rw [ev] at eu
      cases eu
      obtain ⟨pp, h1, _⟩ := hk y' (List.mem_of_getElem? ey)
      rw [py_of h1]
      exact Dp.mono (fun b o h => f2.good.sub _ _ (f2.grow _ _ h)) (dat_dp du h1)
    · obtain ⟨y', hy, rfl⟩ := List.mem_map.mp hd
      obtain ⟨pp, h1, h2, _⟩ := hk y' hy
      rw [py_of h1]
      exact h2
    · have e9 : (ds.map pyOf).countP (fun d => d.eqv pe) = ds.countP fun d => (pyOf d).eqv (pyOf y) := by
        rw [List.countP_map, py_of e1]
        rfl
      rw [e9]
      exact q _ F2 H2 (f1.trans f2) (.int _)
end
end DL
set_option Elab.async false
set_option linter.all false
set_option maxRecDepth 100000
set_option maxHeartbeats 3200000
set_option autoImplicit false
/-! xs[::-1]; sorted(..) as a list of one's own; f(..).append(y); kept, if it is one's own -/
namespace DL
open PySem PySem.Spec PyProof.Rows L2
section
variable {X : Cx} {c : Dx}
def tRevL (K : PySem.W.Frag) (te : TE) : TE := fun σ H Q => te σ H fun x H1 => ∃ a xs, x = .ref a ∧ SqL K H1 a xs ∧ ∀ p, H1 p = none → Q (.ref p) (upd H1 p (.lst xs.reverse))
theorem pe_revL {e : Expr} {te : TE} {k : Nat} {p1 p2 p3 pos : Pos} (he : PE X e te) : PE X (.Subscript e (.Slice none none (some (.UnaryOp .USub (.Constant (.int 1) k p1) p2)) p3) pos) (tRevL X.K te) := by
  refine ⟨fun pins s σ H Q I h => ?_⟩
  refine Subscript_ (thn (he.run pins s σ H _ I h) fun v s1 ⟨x, H1, I1, r1, q1⟩ => ?_)
  obtain ⟨a, xs, ex, hx, q⟩ := q1
  subst ex
  cases r1
  have hst : PO X (some (.UnaryOp .USub (.Constant (.int 1) k p1) p2)) (tPart (tUn (rU fun i => .int (-i)) (tC (.int 1)))) := po_some (pe_un un_neg pe_int)
  refine wpAny_Slice (thn (po_none.run pins s1 σ H1 (fun o H2 => o = none ∧ H2 = H1) I1 ⟨rfl, rfl⟩) fun vl s2 ⟨l, H2, I2, pl, el, e2⟩ => ?_)
  subst el e2
  refine thn (po_none.run pins s2 σ H2 (fun o H3 => o = none ∧ H3 = H2) I2 ⟨rfl, rfl⟩) fun vu s3 ⟨u, H3, I3, pu, eu, e3⟩ => ?_
  subst eu e3
  refine thn (hst.run pins s3 σ H3 (fun o H4 => o = some (-1) ∧ H4 = H3) I3 ⟨1, rfl, -1, rfl, rfl, rfl⟩) fun vs s4 ⟨o, H4, I4, ps, eo, e4⟩ => ?_
  subst eo e4
  have I5 : Inv X pins σ H4 { s4 with heap := s4.heap.push { cls := .type "slice", data := .fields #[vl, vu, vs] } } := I4.kept (t' := s4.toks) fun b ob q => Heap.get?_push_of_some _ q
  obtain ⟨its, r, ht, hz⟩ := I5.list hx
  have hlen := r.length
  show wpAny (model X.prog X.w) X.A (subscriptTail e (.Slice none none (some (.UnaryOp .USub (.Constant (.int 1) k p1) p2)) p3) (.ref a) (.ref s4.heap.objs.size)) (EP X pins σ Q) X.xe { s4 with heap := s4.heap.push { cls := .type "slice", data := .fields #[vl, vu, vs] } }
  refine tail_any (ops := [.ref a, .ref s4.heap.objs.size]) ht.isList.typeIs (PySem.slot_list_getitem.lookup) ?_ (by with_unfolding_all rfl)
  refine PySem.wpAny_getItem_list_slice ht.isList (Heap.IsSliceOf.new _ vl vu vs) pl pu ps (by decide) ?_ (by rw [List.size_toArray]; omega)
  rw [PySem.W.krv_pick]
  refine ⟨.ref _, _, I5.laid (t' := s4.toks) (o := .lst xs.reverse) (fun b ob q => Heap.get?_push_of_some _ q) (Nat.le_refl _) ?_, rfl, q _ (I5.hok.fresh (Nat.le_refl _))⟩
  exact ⟨by rw [List.length_reverse]; exact hz, its.reverse, _, r.reverse, Heap.get?_push_size _ rfl⟩
@[simp] def dRevL (de : DE) : DE := fun ρ P => de ρ fun d => ∃ xs, d = .lst xs ∧ P (.lst xs.reverse)
theorem pd_revL {e : Expr} {de : DE} {k : Nat} {p1 p2 p3 pos : Pos} (he : PD X c e de) : PD X c (.Subscript e (.Slice none none (some (.UnaryOp .USub (.Constant (.int 1) k p1) p2)) p3) pos) (dRevL de) := by
  refine ⟨imp (pe_revL he.pe) fun σ H Q q => ?_, fun ρ P P' m => he.mono ρ _ _ fun x ⟨xs, e, p⟩ => ⟨xs, e, m _ p⟩⟩
  obtain ⟨F, ρ, a, q⟩ := q
  refine ⟨F, ρ, a, he.mono _ _ _ (fun x q v F1 H1 f1 d1 => ?_) q⟩
  obtain ⟨xs, rfl, p⟩ := q
  cases d1 with
  | lst hs hl =>
    exact ⟨_, _, rfl, SqL.of (f1.good.sub _ _ hs), fun t ht => p _ _ _ (f1.trans (f1.good.laid ht)) (.lst upd_same (hl.reverse.mono (f1.good.laid (o := .lst _) ht).grow))⟩
/-- kept from now on, if it is a list of one's own; or kept data already -/
@[simp] def dKeepA (i : Nat) (d : DS) : DS := fun De ρ => (∃ x, ρ[i]? = some (.fz x) ∧ d De ρ) ∨ ∃ ds, ρ[i]? = some (.own (.lst ds)) ∧ d De (ρ.set i (.fz (.lst ds)))
theorem pssd_keepA (i : Nat) {sts : List Stmt} {d : DS} (h : PSsd X c sts d) : PSsd X c sts (dKeepA i d) := ⟨impSs h.ps fun D σ H q => by
  obtain ⟨F, ρ, De, a, l, q⟩ := q
  rcases q with ⟨x, _, q⟩ | ⟨ds, e, q⟩
  · exact ⟨F, ρ, De, a, l, q⟩
  · obtain ⟨F2, s2, a2⟩ := at_lend a e rfl
    exact ⟨F2, _, De, a2, l.grow s2, q⟩⟩
/-- lent, if it is a list of one's own; or kept data already -/
@[simp] def dLendTA (i : Nat) (dt : DT) : DT := fun ρ P => (∃ x, ρ[i]? = some (.fz x) ∧ dt ρ P) ∨ dLendT i dt ρ P
theorem pdt_lendA (i : Nat) {e : Expr} {dt : DT} (h : PDT X c e dt) : PDT X c e (dLendTA i dt) := by
  refine ⟨impT h.pt fun σ H Q q => ?_, fun ρ P P' m q => ?_⟩
  · obtain ⟨F, ρ, a, q⟩ := q
    rcases q with ⟨x, _, q⟩ | ⟨o, e, nd, q⟩
    · exact ⟨F, ρ, a, q⟩
    · obtain ⟨F2, s2, a2⟩ := at_lend a e nd
      exact ⟨F2, _, a2, h.mono _ _ _ (fun d q F' H' f => q F H' (fr_less f s2)) q⟩
  · rcases q with ⟨x, e, q⟩ | q
    · exact .inl ⟨x, e, h.mono _ _ _ m q⟩
    · obtain ⟨o, e, nd, q⟩ := q
      exact .inr ⟨o, e, nd, h.mono _ _ _ m q⟩
/-- f(..).append(y): what is new is dropped -/
@[simp] def dNapp (den : DEo) (de : DE) : DS := fun De ρ => den ρ fun o => ∃ ds, o = .lst ds ∧ ds.length < sizeLine ∧ de ρ fun _ => De.nx ρ
theorem psd_napp {o e : Expr} {den : DEo} {de : DE} {apos cpos pos : Pos} (ho : PDN X c o den) (h : PD X c e de) (hst : starEach [e] X.env = [(false, eval e X.env)] := by rfl)
    (hbase : attributeBase o "append" X.env (eval o X.env) = eval o X.env := by rfl)
    (hfew : ((backTo cpos (starEach [e] X.env)).all (fun x => !x.1) && (backToKw cpos (keywordEach [] X.env)).all (fun x => x.1.isSome)
      && decide ([e].length + ([] : List Keyword).length + (if ([] : List Keyword).isEmpty then 0 else 1) < 30)) = true := by rfl)
    (hline : (apos.endLine == cpos.line) = true := by rfl) (hs : swapsWith (.Call (.Attribute o "append" apos) [e] [] cpos) none pos.line X.env = pure false := by rfl) :
    PSd X c (.Expr (.Call (.Attribute o "append" apos) [e] [] cpos) pos) (dNapp den de) := ⟨impS (ps_expr (pe_bm PySem.F.plainAttrs_list PySem.F.slot_list_append PySem.F.type_list_append mt_append ho.pe (pa_cons h.pe pa_nil hst) hbase hfew hline hst) hs) fun D σ H q => by
  obtain ⟨F, ρ, De, a, l, q⟩ := q
  refine ⟨F, ρ, a, ho.mono _ _ _ (fun o q x as F1 H1 f1 k1 nw => ?_) q⟩
  obtain ⟨ds, rfl, hl, q⟩ := q
  cases k1 with
  | @lst _ vs _ hp hd =>
    obtain ⟨n1, h0⟩ := nw x (by simp)
    have w : c.W ≠ some x := good_ne a.good h0
    have a1 := a.fr f1
    refine ⟨.inl ⟨rfl, _, SqL.of hp⟩, F1, ρ, a1, h.mono _ _ _ (fun y q v F2 H2 f2 dd => ?_) q⟩
    have hp2 : H2 x = some (.lst vs) := f2.keep _ _ hp w
    have n2 : F2 x = none := own_free f2 n1 hp
    refine ⟨x, vs, v, rfl, rfl, hp2, by rw [hd.length]; exact hl, ?_⟩
    have f := upd_own (o' := .lst (vs ++ [v])) (f1.trans f2) h0 n2 w
    exact l.nx _ _ F2 _ q (f1.grow.trans f2.grow) (a.fr f)⟩
/-! sorted(..), a list of one's own -/
theorem sort_core {F H : Hp} {v : V} {l : List D} {Q : VK} (G : Good c.W F H) (hv : Dat X.K F v (.lst l)) (ok : SortOk l) (q : ∀ t us, H t = none → DatL X.K F us (sortD l) → Q (.ref t) (upd H t (.lst us))) : rSortD X.K [v] H Q := by
  cases hv with
  | @lst a vs _ hs hl =>
    have hlen : vs.length = l.length := hl.length
    have m1 : (vs.zip l).map Prod.fst = vs := List.map_fst_zip (Nat.le_of_eq hlen)
    have m2 : (vs.zip l).map Prod.snd = l := List.map_snd_zip (Nat.le_of_eq hlen.symm)
    have hz := datL_zip hl
    let f : V × D → V × PyData := fun z => (z.1, pyOf z.2)
    have f1 : ((vs.zip l).map f).map Prod.fst = vs := by
      rw [List.map_map]
      exact m1
    have f2 : ((vs.zip l).map f).map Prod.snd = l.map pyOf := by
      rw [List.map_map]
      conv => rhs; rw [← m2, List.map_map]
      rfl
    have f3 : ((vs.zip l).mergeSort (leZ fun z => pyOf z.2)).map f = ((vs.zip l).map f).mergeSort (leZ Prod.snd) := PySem.W.sort_maps f fun a _ b _ => rfl
    have f4 : ((vs.zip l).mergeSort (leZ fun z => pyOf z.2)).map Prod.snd = sortD l := by
      have := PySem.W.sort_maps (r := leZ fun z : V × D => pyOf z.2) (s := leZ pyOf) (l := vs.zip l) Prod.snd fun a _ b _ => rfl
      rw [m2] at this
      exact this
    have al : PySem.W.AllAlike (l.map pyOf) := fun d hd e he => by
      obtain ⟨x, hx, rfl⟩ := List.mem_map.mp hd
      obtain ⟨y, hy, rfl⟩ := List.mem_map.mp he
      exact ok.al x hx y hy
    refine ⟨a, (vs.zip l).map f, rfl, by rw [f1]; exact SqL.of (G.sub _ _ hs), fun z hm => ?_, by rw [f2]; exact al, by rw [f2]; exact ok.so, fun z hm => ?_, fun t ht => ?_⟩
    · obtain ⟨y, hy, rfl⟩ := List.mem_map.mp hm
      obtain ⟨pd, e, _⟩ := ok.py y.2 (List.of_mem_zip hy).2
      have e2 : pyOf y.2 = pd := by unfold pyOf; rw [e]; rfl
      show Dp X.K H y.1 (pyOf y.2)
      rw [e2]
      exact Dp.mono G.sub (dat_dp (hz y hy) e)
    · obtain ⟨y, hy, rfl⟩ := List.mem_map.mp hm
      obtain ⟨pd, e, h60⟩ := ok.py y.2 (List.of_mem_zip hy).2
      have e2 : pyOf y.2 = pd := by unfold pyOf; rw [e]; rfl
      show (pyOf y.2).depth ≤ 60
      rw [e2]
      exact h60
    · have d1 : DatL X.K F (((vs.zip l).mergeSort (leZ fun z => pyOf z.2)).map Prod.fst) (sortD l) := by
        rw [← f4]
        exact zip_datL fun z hm => hz z ((List.mergeSort_perm _ _).mem_iff.mp hm)
      have e5 : (((vs.zip l).map f).mergeSort (leZ Prod.snd)).map Prod.fst = ((vs.zip l).mergeSort (leZ fun z => pyOf z.2)).map Prod.fst := by
        rw [← f3, List.map_map]
        rfl
      rw [e5]
      exact q _ _ ht d1
@[simp] def dNsort (de : DE) : DEo := fun ρ P => de ρ fun x => ∃ l, x = .lst l ∧ SortOk l ∧ P (.lst (sortD l))
theorem pdn_sort {p pos : Pos} {e : Expr} {de : DE} (hu : X.A.units + 64 < cLine) (hg : Gl X "sorted") (hm : X.mg "sorted" = none) (hbt : bootBuiltins "sorted" = some (.builtin "sorted")) (he : PD X c e de)
    (hst : starEach [e] X.env = [(false, eval e X.env)] := by rfl) (hs1 : starEach [e] X.env = (false, eval e X.env) :: starEach [] X.env := by rfl) (hpl : (backTo pos (starEach [] X.env)).any (·.1) = false := by rfl) : PDN X c (.Call (.Name "sorted" p) [e] [] pos) (dNsort de) := by
  refine ⟨imp (pe_callB (cr_sortD hu) hg hm hbt (pa_cons he.pe pa_nil hst) (by decide) (by decide) hs1 hpl) fun σ H Q q => ?_, fun ρ P P' m => he.mono ρ _ _ fun x ⟨l, e, ok, p⟩ => ⟨l, e, ok, m _ p⟩⟩
  obtain ⟨F, ρ, a, q⟩ := q
  refine ⟨F, ρ, a, he.mono _ _ _ (fun x q v F1 H1 f1 d1 => ?_) q⟩
  obtain ⟨l, rfl, ok, q⟩ := q
  refine sort_core f1.good d1 ok fun t us ht hl => ?_
  exact q t [t] F1 _ (f1.trans (f1.good.hid ht)) (.lst upd_same hl) fun b hb => by
    rw [List.mem_singleton.mp hb]
    refine ⟨f1.good.free ht, ?_⟩
    cases z : H t with
    | none => rfl
    | some u =>
      obtain ⟨w, e⟩ := f1.lives t u z
      rw [ht] at e; cases e
/-! a list of one's own is seen as kept while something is reckoned that holds no list -/
mutual
def noL : D → Bool
  | .tup l => noLs l
  | .non => true | .bl _ => true | .int _ => true | .str _ => true | .ty _ => true | .adr _ => true
  | .lst _ => false | .ins _ _ => false | .dct _ => false | .scr _ => false
def noLs : List D → Bool
  | [] => true
  | d :: r => noL d && noLs r
end
def cutH (a : Addr) (F : Hp) : Hp := fun b => if b = a then none else F b
theorem cutH_ne {a b : Addr} {F : Hp} (h : b ≠ a) : cutH a F b = F b := if_neg h
theorem sqT_cut {K : PySem.W.Frag} {F : Hp} {a b : Addr} {us vs : List V} (h : F a = some (.lst us)) (s : SqT K F b vs) : SqT K (cutH a F) b vs := by
  rcases s with (s | ⟨o, s⟩) | s
  · refine .inl (.inl ?_)
    rw [cutH_ne fun e => ?_]
    · exact s
    · rw [e, h] at s; cases s
  · refine .inl (.inr ⟨o, ?_⟩)
    rw [cutH_ne fun e => ?_]
    · exact s
    · rw [e, h] at s; cases s
  · exact .inr s
mutual
theorem dat_cutL {K : PySem.W.Frag} {F : Hp} {a : Addr} {us : List V} (h : F a = some (.lst us)) : ∀ (d : D) (v : V), noL d = true → Dat K F v d → Dat K (cutH a F) v d
  | .non, _, _, .non => .non
  | .bl b, _, _, .bl _ => .bl b
  | .int b, _, _, .int _ => .int b
  | .str b, _, _, .str _ => .str b
  | .ty b, _, _, .ty _ => .ty b
  | .adr b, _, _, .adr _ => .adr b
  | .tup l, _, n, .tup s r => .tup (sqT_cut h s) (datL_cutL h l _ (by rwa [noL] at n) r)
theorem datL_cutL {K : PySem.W.Frag} {F : Hp} {a : Addr} {us : List V} (h : F a = some (.lst us)) : ∀ (ds : List D) (vs : List V), noLs ds = true → DatL K F vs ds → DatL K (cutH a F) vs ds
  | [], _, _, .nil => .nil
  | d :: r, _, n, .cons x y => by
    rw [noLs, Bool.and_eq_true] at n
    exact .cons (dat_cutL h d _ n.1 x) (datL_cutL h r _ n.2 y)
end
@[simp] def dLendNL (i : Nat) (de : DE) : DE := fun ρ P => ∃ ds, ρ[i]? = some (.own (.lst ds)) ∧ de (ρ.set i (.fz (.lst ds))) fun d => noL d = true ∧ P d
theorem pd_lendNL (i : Nat) {e : Expr} {de : DE} (h : PD X c e de) : PD X c e (dLendNL i de) := by
  refine ⟨imp h.pe fun σ H Q q => ?_, fun ρ P P' m ⟨o, e, q⟩ => ⟨o, e, h.mono _ _ _ (fun d ⟨f, p⟩ => ⟨f, m _ p⟩) q⟩⟩
  obtain ⟨F, ρ, a, ds, e, q⟩ := q
  obtain ⟨x, as, h1, fr, k⟩ := a.sl.own e
  cases k with
  | @lst _ vs _ h5 h6 =>
    obtain ⟨h2, h3, h4⟩ := fr x (by simp)
    have g : Same F (upd F x (.lst vs)) := same_upd h2
    refine ⟨upd F x (.lst vs), _, ⟨freeze_new a.en h4 h2 h5 h3, set_fz (t := .un) (a.sl.other e h1 (.lst h5 h6) g upd_off (fun _ _ => rfl)) h1 (.lst upd_same (h6.mono g))⟩, h.mono _ _ _ (fun d q v F' H' f dd => ?_) q⟩
    have hx : F' x = some (.lst vs) := f.grow _ _ upd_same
    refine q.2 v (cutH x F') H' ⟨fun b o z => ?_, fun b o z => ?_, f.keep, fun b o z => ?_, fun b w => ?_⟩ (dat_cutL hx d v q.1 dd)
    · by_cases z1 : b = x
      · rw [z1, cutH, if_pos rfl] at z; cases z
      · rw [cutH_ne z1] at z
        exact f.sub _ _ z
    · have z1 : b ≠ x := ne_of_none z h2
      rw [cutH_ne z1]
      exact f.grow _ _ (g _ _ z)
    · by_cases z1 : b = x
      · rw [z1, cutH, if_pos rfl] at z; cases z
      · rw [cutH_ne z1] at z
        rcases f.new _ _ z with y | y
        · rw [upd_ne z1] at y
          exact .inl y
        · exact .inr y
    · obtain ⟨n, k⟩ := f.well b w
      refine ⟨?_, k⟩
      by_cases z1 : b = x
      · rw [z1, cutH, if_pos rfl]
      · rw [cutH_ne z1]
        exact n
end
end DL
set_option Elab.async false
set_option linter.all false
set_option maxRecDepth 100000
set_option maxHeartbeats 2000000
set_option autoImplicit false
/-! the kinds of values, boxes and marks, as functions of data -/
namespace DL
open PySem L2
/-! ### promises by functions of so many arguments -/
def gF1 (f : D → Option D) : GX := lift0 fun _ ds P => ∃ x d, ds = [x] ∧ f x = some d ∧ P d
def gF2 (f : D → D → Option D) : GX := lift0 fun _ ds P => ∃ x y d, ds = [x, y] ∧ f x y = some d ∧ P d
def gF3 (f : D → D → D → Option D) : GX := lift0 fun _ ds P => ∃ x y z d, ds = [x, y, z] ∧ f x y z = some d ∧ P d
section
variable {W : Option Addr} {P : D → Prop} {XP : Addr → List (Str × D) → Prop} {a b c : D}
@[simp] theorem gF1_eval {f : D → Option D} : gF1 f W [a] P XP = ∃ d, f a = some d ∧ P d := by
  apply propext
  constructor
  · rintro ⟨x, d, h, e, p⟩
    cases h
    exact ⟨d, e, p⟩
  · rintro ⟨d, e, p⟩
    exact ⟨a, d, rfl, e, p⟩
@[simp] theorem gF2_eval {f : D → D → Option D} : gF2 f W [a, b] P XP = ∃ d, f a b = some d ∧ P d := by
  apply propext
  constructor
  · rintro ⟨x, y, d, h, e, p⟩
    cases h
    exact ⟨d, e, p⟩
  · rintro ⟨d, e, p⟩
    exact ⟨a, b, d, rfl, e, p⟩
@[simp] theorem gF3_eval {f : D → D → D → Option D} : gF3 f W [a, b, c] P XP = ∃ d, f a b c = some d ∧ P d := by
  apply propext
  constructor
  · rintro ⟨x, y, z, d, h, e, p⟩
    cases h
    exact ⟨d, e, p⟩
  · rintro ⟨d, e, p⟩
    exact ⟨a, b, c, d, rfl, e, p⟩
end
/-! ### comprehensions and the like, by what one turn does -/
theorem dComp_rel {set : DG} {de : DE} {ρ : List Sl} (R : D → Prop) : ∀ (xs : List D) (_ : ∀ x ∈ xs, ∀ P : D → Prop, (∀ y, R y → P y) → ∃ ρ1, set x ρ = some ρ1 ∧ de ρ1 P) (acc : List D) (P : List D → Prop), (∀ ys : List D, ys.length = xs.length → (∀ y ∈ ys, R y) → P (acc ++ ys)) → dComp set dYes de ρ xs acc P
  | [], _, acc, P, p => by
    have := p [] rfl (fun y hy => by cases hy)
    simpa [dComp] using this
  | x :: r, h, acc, P, p => by
    obtain ⟨ρ1, e, q⟩ := h x List.mem_cons_self (fun y => dComp set dYes de ρ r (acc ++ [y]) P) (fun y hy => dComp_rel R r (fun z hz => h z (List.mem_cons_of_mem _ hz)) _ P (fun ys hl hr => by
      have := p (y :: ys) (by simp [hl]) (fun z hz => by
        rcases List.mem_cons.mp hz with rfl | hz
        · exact hy
        · exact hr z hz)
      simpa using this))
    exact ⟨ρ1, e, by simpa [dYes] using q⟩
/-! ### kinds -/
def pln (d : D) : Bool := d.tn.isSome
def isInt : D → Bool
  | .int _ => true
  | _ => false
def btw (a b : Int) : D → Bool
  | .int i => decide (a ≤ i) && decide (i ≤ b)
  | _ => false
abbrev lim : Int := 10 ^ 60
abbrev sg : D → Bool := btw (-lim) lim
def f_is_integer (x : D) : Option D := if pln x = true then some (.bl (isInt x)) else none
def f_is_signed (x : D) : Option D := if pln x = true then some (.bl (sg x)) else none
end DL
set_option Elab.async false
set_option linter.all false
set_option maxRecDepth 100000
set_option maxHeartbeats 4000000
set_option autoImplicit false
namespace MB
open PySem L2 DL
structure Ads where
  Box : Addr
  Fonts : Addr
  Kept : Addr
  Part : Addr
  Stack : Addr
  X1 : Addr
  X2 : Addr
def NW : List Str := ["xheight", "quad", "up1", "up2", "up3", "down1", "down2", "sup1", "sup2", "sup3", "sub1", "sub2", "supdrop", "subdrop", "delim1", "delim2", "axis", "rule", "gap1", "gap2", "gap3", "gap4", "gap5"]
def SW : List Str := ["scriptspace", "factor", "short", "empty", "thin", "medium", "thick", "baseline", "apart", "column", "indent"]
abbrev Tab := List (Key × D)
/-- fonts without glyphs, by what they hold -/
structure FN where
  fam : D
  ts : List Tab
  ss : Tab
def kpF (x : FN) : List (Str × D) := [("families", x.fam), ("numbers", .lst (x.ts.map D.dct)), ("settings", .dct x.ss), ("skew", .non)]
def kpD (A : Ads) (x : FN) : D := .ins A.Kept (kpF x)
def fnF (A : Ads) (x : FN) : List (Str × D) := [("kept", kpD A x), ("_families", x.fam), ("_numbers", .lst (x.ts.map D.dct)), ("_settings", .dct x.ss), ("_skew", .non), ("remembers", .bl false)]
def okNum (w : Str) (d : D) : Prop := ∃ n : Int, d = .int n ∧ 0 ≤ n ∧ n ≤ 10 ^ 60 ∧ (w = "factor" → n ≤ 1000)
/-- a table of numbers for these words, in their order -/
structure okT (ws : List Str) (t : Tab) : Prop where
  ks : t.map (·.1) = ws.map Sum.inr
  vs : ∀ p ∈ t, ∀ w, p.1 = Sum.inr w → okNum w p.2
structure okF (x : FN) : Prop where
  len : x.ts.length = 3
  ts : ∀ t ∈ x.ts, okT NW t
  ss : okT SW x.ss
end MB
set_option Elab.async false
set_option linter.all false
set_option maxRecDepth 100000
set_option maxHeartbeats 4000000
set_option autoImplicit false
namespace MB
open PySem L2 DL
abbrev sc_is_integerN : List Str := ["value"]
def w_is_integer (A : Ads) (W : Option Addr) : DS := (dRet (dAndV (dCall fIsi (dCons (dVar 0) (dCons (dC (.ty "int")) dNil))) (dAndV (dOp (fIsX true) (dVar 0) (dC (.bl true))) (dOp (fIsX true) (dVar 0) (dC (.bl false))))))
def G_is_integer (A : Ads) : GX := gOf 1 sc_is_integerN (w_is_integer A)
abbrev sc_is_amountN : List Str := ["value"]
def w_is_amount (A : Ads) (W : Option Addr) : DS := (dSeq (dIfS (dTAnd (dB (dOp (fTyCmp true) (dCall fTyp (dCons (dVar 0) dNil)) (dC (.ty "int")))) (dTOr (dTNot (dB (dCall fIsi (dCons (dVar 0) (dCons (dC (.ty "int")) dNil))))) (dTOr (dB (dOp (fIsX false) (dVar 0) (dC (.bl true)))) (dB (dOp (fIsX false) (dVar 0) (dC (.bl false))))))) (dRet (dC (.bl false))) dSkip) (dRet (dChain (fB0 fun i j => decide (i ≤ j)) (fB0 fun i j => decide (i ≤ j)) (dC (.int 0)) (dVar 0) (dC (.int (1000000000000000000000000000000000000000000000000000000000000))))))
def G_is_amount (A : Ads) : GX := gOf 1 sc_is_amountN (w_is_amount A)
abbrev sc_is_signedN : List Str := ["value"]
def w_is_signed (A : Ads) (W : Option Addr) : DS := (dSeq (dIfS (dTAnd (dB (dOp (fTyCmp true) (dCall fTyp (dCons (dVar 0) dNil)) (dC (.ty "int")))) (dTOr (dTNot (dB (dCall fIsi (dCons (dVar 0) (dCons (dC (.ty "int")) dNil))))) (dTOr (dB (dOp (fIsX false) (dVar 0) (dC (.bl true)))) (dB (dOp (fIsX false) (dVar 0) (dC (.bl false))))))) (dRet (dC (.bl false))) dSkip) (dRet (dChain (fB0 fun i j => decide (i ≤ j)) (fB0 fun i j => decide (i ≤ j)) (dC (.int (-1000000000000000000000000000000000000000000000000000000000000))) (dVar 0) (dC (.int (1000000000000000000000000000000000000000000000000000000000000))))))
def G_is_signed (A : Ads) : GX := gOf 1 sc_is_signedN (w_is_signed A)
abbrev sc_is_wordN : List Str := ["value", "words"]
def w_is_word (A : Ads) (W : Option Addr) : DS := (dRet (dAndV (dCall fIsi (dCons (dVar 0) (dCons (dC (.ty "str")) dNil))) (dOp (fInX false) (dVar 0) (dVar 1))))
def G_is_word (A : Ads) : GX := gOf 2 sc_is_wordN (w_is_word A)
abbrev sc_is_rowN : List Str := ["value", "many"]
def w_is_row (A : Ads) (W : Option Addr) : DS := (dRet (dAndV (dCall fIsi (dCons (dVar 0) (dCons (dC (.ty "tuple")) dNil))) (dOp (fEq false) (dCall fLenX (dCons (dVar 0) dNil)) (dVar 1))))
def G_is_row (A : Ads) : GX := gOf 2 sc_is_rowN (w_is_row A)
abbrev sc_is_sizeN : List Str := ["value"]
def w_is_size (A : Ads) (W : Option Addr) : DS := (dSeq (dIfS (dTAnd (dB (dOp (fTyCmp true) (dCall fTyp (dCons (dVar 0) dNil)) (dC (.ty "int")))) (dTOr (dTNot (dB (dCall fIsi (dCons (dVar 0) (dCons (dC (.ty "int")) dNil))))) (dTOr (dB (dOp (fIsX false) (dVar 0) (dC (.bl true)))) (dB (dOp (fIsX false) (dVar 0) (dC (.bl false))))))) (dRet (dC (.bl false))) dSkip) (dRet (dChain (fB0 fun i j => decide (i ≤ j)) (fB0 fun i j => decide (i < j)) (dC (.int 0)) (dVar 0) (dC (.int (3))))))
def G_is_size (A : Ads) : GX := gOf 1 sc_is_sizeN (w_is_size A)
abbrev sc_is_styleN : List Str := ["value"]
def w_is_style (A : Ads) (W : Option Addr) : DS := (dSeq (dIfS (dTAnd (dB (dOp (fTyCmp true) (dCall fTyp (dCons (dVar 0) dNil)) (dC (.ty "int")))) (dTOr (dTNot (dB (dCall fIsi (dCons (dVar 0) (dCons (dC (.ty "int")) dNil))))) (dTOr (dB (dOp (fIsX false) (dVar 0) (dC (.bl true)))) (dB (dOp (fIsX false) (dVar 0) (dC (.bl false))))))) (dRet (dC (.bl false))) dSkip) (dRet (dChain (fB0 fun i j => decide (i ≤ j)) (fB0 fun i j => decide (i < j)) (dC (.int 0)) (dVar 0) (dC (.int (8))))))
def G_is_style (A : Ads) : GX := gOf 1 sc_is_styleN (w_is_style A)
abbrev sc_check_fontsN : List Str := ["fonts"]
def w_check_fonts (A : Ads) (W : Option Addr) : DS := (dIfS (dTNot (dB (dCall (fIsK A.Fonts) (dCons (dVar 0) (dCons (dC (.adr A.Fonts)) dNil))))) dNever dSkip)
def G_check_fonts (A : Ads) : GX := gOf 1 sc_check_fontsN (w_check_fonts A)
abbrev sc_Fonts_greatestN : List Str := ["self", "numbers"]
def w_Fonts_greatest (A : Ads) (W : Option Addr) : DS := (dRet (dCall fMax (dCons (dVar 1) dNil)))
def G_Fonts_greatest (A : Ads) : GX := gOf 2 sc_Fonts_greatestN (w_Fonts_greatest A)
abbrev sc_Fonts_reachesN : List Str := ["self", "number", "bound"]
def w_Fonts_reaches (A : Ads) (W : Option Addr) : DS := (dRet (dOp (fB0 fun i j => decide (j ≤ i)) (dVar 1) (dVar 2)))
def G_Fonts_reaches (A : Ads) : GX := gOf 3 sc_Fonts_reachesN (w_Fonts_reaches A)
abbrev sc_Box___init__N : List Str := ["self", "width", "height", "depth", "marks"]
def w_Box___init__ (A : Ads) (W : Option Addr) : DS := (dSeq (dFset 0 A.Box "width" (dVar 1)) (dSeq (dFset 0 A.Box "height" (dVar 2)) (dSeq (dFset 0 A.Box "depth" (dVar 3)) (dFsetL 0 A.Box "marks" (dB (dCall fIsiT (dCons (dVar 4) (dCons (dTup (dCons (dC (.ty "list")) (dCons (dC (.ty "tuple")) dNil))) dNil)))) (dVar 4)))))
def GI_Box (A : Ads) : GO := gInitO A.Box 5 sc_Box___init__N (w_Box___init__ A)
abbrev sc_Box___eq__N : List Str := ["self", "other"]
def w_Box___eq__ (A : Ads) (W : Option Addr) : DS := (dRet (dAndV (dCall (fIsK A.Box) (dCons (dVar 1) (dCons (dC (.adr A.Box)) dNil))) (dAndV (dOp (fEq false) (dFld A.Box "width" (dVar 0)) (dFld A.Box "width" (dVar 1))) (dAndV (dOp (fEq false) (dFld A.Box "height" (dVar 0)) (dFld A.Box "height" (dVar 1))) (dAndV (dOp (fEq false) (dFld A.Box "depth" (dVar 0)) (dFld A.Box "depth" (dVar 1))) (dOp (fEq false) (dFld A.Box "marks" (dVar 0)) (dFld A.Box "marks" (dVar 1))))))))
def G_Box___eq__ (A : Ads) : GX := gOf 2 sc_Box___eq__N (w_Box___eq__ A)
abbrev sc_halfN : List Str := ["number"]
def w_half (A : Ads) (W : Option Addr) : DS := (dRet (dOp (fI CDivW fun i j => i / j) (dOp fAddX (dVar 0) (dC (.int 1))) (dC (.int 2))))
def G_half (A : Ads) : GX := gOf 1 sc_halfN (w_half A)
abbrev sc_are_marksN : List Str := ["marks", "placed", "x", "y", "mark", "word", "path", "width", "height", "family", "size", "name", "step"]
def w_are_marks (A : Ads) (W : Option Addr) : DS := (dSeq (dFor (dIt (dVar 0)) (setN 1) (dSeq (dIfS (dTOr (dTNot (dB (dCall fIsi (dCons (dVar 1) (dCons (dC (.ty "tuple")) dNil))))) (dB (dOp (fEq true) (dCall fLenX (dCons (dVar 1) dNil)) (dC (.int 3))))) (dRet (dC (.bl false))) dSkip) (dSeq (dAsg (dVar 1) (setS (setCons (setN 2) (setCons (setN 3) (setCons (setN 4) setNil))))) (dSeq (dIfS (dTNot (dTOr (dTAnd (dB (dOp (fTyCmp false) (dCall fTyp (dCons (dVar 2) dNil)) (dC (.ty "int")))) (dB (dChain (fB0 fun i j => decide (i ≤ j)) (fB0 fun i j => decide (i ≤ j)) (dC (.int (-1000000000000000000000000000000000000000000000000000000000000))) (dVar 2) (dC (.int (1000000000000000000000000000000000000000000000000000000000000)))))) (dB (dCl (G_is_signed A) W [] (dCons (dVar 2) dNil))))) (dRet (dC (.bl false))) dSkip) (dSeq (dIfS (dTNot (dTOr (dTAnd (dB (dOp (fTyCmp false) (dCall fTyp (dCons (dVar 3) dNil)) (dC (.ty "int")))) (dB (dChain (fB0 fun i j => decide (i ≤ j)) (fB0 fun i j => decide (i ≤ j)) (dC (.int (-1000000000000000000000000000000000000000000000000000000000000))) (dVar 3) (dC (.int (1000000000000000000000000000000000000000000000000000000000000)))))) (dB (dCl (G_is_signed A) W [] (dCons (dVar 3) dNil))))) (dRet (dC (.bl false))) dSkip) (dSeq (dIfS (dTNot (dB (dCall fIsi (dCons (dVar 4) (dCons (dC (.ty "tuple")) dNil))))) (dRet (dC (.bl false))) dSkip) (dSeq (dIfS (dB (dOp (fEq false) (dCall fLenX (dCons (dVar 4) dNil)) (dC (.int 4)))) (dSeq (dAsg (dVar 4) (setS (setCons (setN 5) (setCons (setN 6) (setCons (setN 7) (setCons (setN 8) setNil)))))) (dSeq (dIfS (dTOr (dTNot (dB (dCall fIsi (dCons (dVar 5) (dCons (dC (.ty "str")) dNil))))) (dB (dOp (fEq true) (dVar 5) (dC (.str "rule"))))) (dRet (dC (.bl false))) dSkip) (dSeq (dIfS (dTNot (dTOr (dTAnd (dB (dOp (fTyCmp false) (dCall fTyp (dCons (dVar 7) dNil)) (dC (.ty "int")))) (dB (dChain (fB0 fun i j => decide (i ≤ j)) (fB0 fun i j => decide (i ≤ j)) (dC (.int (-1000000000000000000000000000000000000000000000000000000000000))) (dVar 7) (dC (.int (1000000000000000000000000000000000000000000000000000000000000)))))) (dB (dCl (G_is_signed A) W [] (dCons (dVar 7) dNil))))) (dRet (dC (.bl false))) dSkip) (dIfS (dTNot (dTOr (dTAnd (dB (dOp (fTyCmp false) (dCall fTyp (dCons (dVar 8) dNil)) (dC (.ty "int")))) (dB (dChain (fB0 fun i j => decide (i ≤ j)) (fB0 fun i j => decide (i ≤ j)) (dC (.int (-1000000000000000000000000000000000000000000000000000000000000))) (dVar 8) (dC (.int (1000000000000000000000000000000000000000000000000000000000000)))))) (dB (dCl (G_is_signed A) W [] (dCons (dVar 8) dNil))))) (dRet (dC (.bl false))) dSkip)))) (dIfS (dB (dOp (fEq false) (dCall fLenX (dCons (dVar 4) dNil)) (dC (.int 5)))) (dSeq (dAsg (dVar 4) (setS (setCons (setN 5) (setCons (setN 6) (setCons (setN 9) (setCons (setN 10) (setCons (setN 11) setNil))))))) (dSeq (dIfS (dTOr (dTNot (dB (dCall fIsi (dCons (dVar 5) (dCons (dC (.ty "str")) dNil))))) (dB (dOp (fEq true) (dVar 5) (dC (.str "glyph"))))) (dRet (dC (.bl false))) dSkip) (dSeq (dIfS (dTOr (dTNot (dTOr (dB (dOp (fTyCmp false) (dCall fTyp (dCons (dVar 9) dNil)) (dC (.ty "int")))) (dB (dCl (G_is_integer A) W [] (dCons (dVar 9) dNil))))) (dTNot (dB (dChain (fB0 fun i j => decide (i ≤ j)) (fB0 fun i j => decide (i < j)) (dC (.int 0)) (dVar 9) (dC (.int (4))))))) (dRet (dC (.bl false))) dSkip) (dSeq (dIfS (dTOr (dTNot (dTOr (dB (dOp (fTyCmp false) (dCall fTyp (dCons (dVar 10) dNil)) (dC (.ty "int")))) (dB (dCl (G_is_integer A) W [] (dCons (dVar 10) dNil))))) (dTNot (dB (dChain (fB0 fun i j => decide (i ≤ j)) (fB0 fun i j => decide (i < j)) (dC (.int 0)) (dVar 10) (dC (.int (3))))))) (dRet (dC (.bl false))) dSkip) (dSeq (dIfS (dTNot (dTAnd (dB (dCall fIsi (dCons (dVar 11) (dCons (dC (.ty "str")) dNil)))) (dB (dOp (fB0 fun i j => decide (i ≤ j)) (dCall fLenX (dCons (dVar 11) dNil)) (dC (.int (8))))))) (dRet (dC (.bl false))) dSkip) (dIfS (dTNot (dTAnd (dB (dStr0 (fun s => .bl (Txt.isascii s)) (fun _ => True) (dVar 11))) (dTAnd (dB (dStr0 (fun s => .bl (Txt.isalpha s)) (fun _ => True) (dVar 11))) (dB (dStr0 (fun s => .bl (Txt.islower s)) (fun _ => True) (dVar 11)))))) (dRet (dC (.bl false))) dSkip)))))) (dRet (dC (.bl false))))) (dSeq (dIfS (dTNot (dB (dCall fIsi (dCons (dVar 6) (dCons (dC (.ty "tuple")) dNil))))) (dRet (dC (.bl false))) dSkip) (dFor (dIt (dVar 6)) (setN 12) (dIfS (dTNot (dTAnd (dTOr (dB (dOp (fTyCmp false) (dCall fTyp (dCons (dVar 12) dNil)) (dC (.ty "int")))) (dB (dCl (G_is_integer A) W [] (dCons (dVar 12) dNil)))) (dB (dOp (fB0 fun i j => decide (j ≤ i)) (dVar 12) (dC (.int 0)))))) (dRet (dC (.bl false))) dSkip)))))))))) (dRet (dC (.bl true))))
def G_are_marks (A : Ads) : GX := gOf 1 sc_are_marksN (w_are_marks A)
abbrev sc_wrong_partN : List Str := ["box", "width", "height", "depth", "marks"]
def w_wrong_part (A : Ads) (W : Option Addr) : DS := (dSeq (dIfS (dTNot (dB (dCall (fIsK A.Box) (dCons (dVar 0) (dCons (dC (.adr A.Box)) dNil))))) (dRet (dC (.str "box"))) dSkip) (dSeq (dAsg (dTup (dCons (dFld A.Box "width" (dVar 0)) (dCons (dFld A.Box "height" (dVar 0)) (dCons (dFld A.Box "depth" (dVar 0)) (dCons (dFld A.Box "marks" (dVar 0)) dNil))))) (setS (setCons (setN 1) (setCons (setN 2) (setCons (setN 3) (setCons (setN 4) setNil)))))) (dSeq (dIfS (dTNot (dTOr (dTAnd (dB (dOp (fTyCmp false) (dCall fTyp (dCons (dVar 1) dNil)) (dC (.ty "int")))) (dB (dChain (fB0 fun i j => decide (i ≤ j)) (fB0 fun i j => decide (i ≤ j)) (dC (.int (-1000000000000000000000000000000000000000000000000000000000000))) (dVar 1) (dC (.int (1000000000000000000000000000000000000000000000000000000000000)))))) (dB (dCl (G_is_signed A) W [] (dCons (dVar 1) dNil))))) (dRet (dC (.str "width"))) dSkip) (dSeq (dIfS (dTNot (dTOr (dTAnd (dB (dOp (fTyCmp false) (dCall fTyp (dCons (dVar 2) dNil)) (dC (.ty "int")))) (dB (dChain (fB0 fun i j => decide (i ≤ j)) (fB0 fun i j => decide (i ≤ j)) (dC (.int (-1000000000000000000000000000000000000000000000000000000000000))) (dVar 2) (dC (.int (1000000000000000000000000000000000000000000000000000000000000)))))) (dB (dCl (G_is_signed A) W [] (dCons (dVar 2) dNil))))) (dRet (dC (.str "height"))) dSkip) (dSeq (dIfS (dTNot (dTOr (dTAnd (dB (dOp (fTyCmp false) (dCall fTyp (dCons (dVar 3) dNil)) (dC (.ty "int")))) (dB (dChain (fB0 fun i j => decide (i ≤ j)) (fB0 fun i j => decide (i ≤ j)) (dC (.int (-1000000000000000000000000000000000000000000000000000000000000))) (dVar 3) (dC (.int (1000000000000000000000000000000000000000000000000000000000000)))))) (dB (dCl (G_is_signed A) W [] (dCons (dVar 3) dNil))))) (dRet (dC (.str "depth"))) dSkip) (dSeq (dIfS (dTOr (dTNot (dB (dCall fIsi (dCons (dVar 4) (dCons (dC (.ty "list")) dNil))))) (dTAnd (dSeqT (dVar 4)) (dTNot (dB (dCl (G_are_marks A) W [] (dCons (dVar 4) dNil)))))) (dRet (dC (.str "marks"))) dSkip) (dRet (dC .non))))))))
def G_wrong_part (A : Ads) : GX := gOf 1 sc_wrong_partN (w_wrong_part A)
abbrev sc__law_boxN : List Str := ["digits", "grow", "at", "width", "height", "depth", "sign", "marks", "k"]
def w__law_box (A : Ads) (W : Option Addr) : DS := (dSeq (dAsg (dLc (dItR (dC (.int 3))) (setN 8) dYes (dOp (fI IntMulOk fun i j => i * j) (dOp (fI (fun _ j => 0 < j) fun i j => i % j) (dCall fInt (dCons (dOp fIx (dVar 0) (dVar 8)) dNil)) (dC (.int 700))) (dVar 1)) [8]) (setS (setCons (setN 3) (setCons (setN 4) (setCons (setN 5) setNil))))) (dSeq (dSet 3 (dOp fIx (dLst (dCons (dVar 3) (dCons (dOp (fI0 fun i j => i - j) (dC (.int 0)) (dOp (fI CDivW fun i j => i / j) (dVar 3) (dC (.int 3)))) dNil))) (dCall fInt (dCons (dOp (fEq false) (dOp (fI (fun _ j => 0 < j) fun i j => i % j) (dCall fInt (dCons (dOp fIx (dVar 0) (dC (.int 1))) dNil)) (dC (.int 8))) (dC (.int 0))) dNil)))) (dSeq (dSet 6 (dOp (fI (fun _ j => 0 < j) fun i j => i % j) (dCall fInt (dCons (dOp fIx (dVar 0) (dC (.int 3))) dNil)) (dC (.int 9)))) (dSeq (dPar 4 5 (dCons (dOp fIx (dLst (dCons (dVar 4) (dCons (dOp (fI0 fun i j => i - j) (dC (.int 0)) (dOp (fI CDivW fun i j => i / j) (dVar 4) (dC (.int 4)))) dNil))) (dCall fInt (dCons (dOp (fEq false) (dVar 6) (dC (.int 1))) dNil))) (dCons (dOp fIx (dLst (dCons (dVar 5) (dCons (dOp (fI CDivW fun i j => i / j) (dVar 5) (dC (.int 2))) (dCons (dOp (fI0 fun i j => i - j) (dC (.int 0)) (dOp (fI CDivW fun i j => i / j) (dVar 5) (dC (.int 5)))) (dCons (dC (.int 0)) dNil))))) (dOp (fI (fun _ j => 0 < j) fun i j => i % j) (dCall fInt (dCons (dVar 6) dNil)) (dC (.int 4)))) dNil))) (dSeq (dSet 7 (dLst (dCons (dTup (dCons (dOp (fI (fun _ j => 0 < j) fun i j => i % j) (dCall fInt (dCons (dOp fIx (dVar 0) (dC (.int 4))) dNil)) (dC (.int 9))) (dCons (dOp (fI0 fun i j => i - j) (dOp (fI (fun _ j => 0 < j) fun i j => i % j) (dCall fInt (dCons (dOp fIx (dVar 0) (dC (.int 3))) dNil)) (dC (.int 7))) (dC (.int 3))) (dCons (dTup (dCons (dC (.str "rule")) (dCons (dTup (dCons (dVar 2) (dCons (dC (.int 1)) dNil))) (dCons (dOp (fI CDivW fun i j => i / j) (dVar 3) (dC (.int 2))) (dCons (dC (.int 5)) dNil))))) dNil)))) dNil))) (dRet (dFrz (dClO (GI_Box A) W [] (dCons (dVar 3) (dCons (dVar 4) (dCons (dVar 5) (dCons (dOp fAddX (dVar 7) (dLst (dCons (dTup (dCons (dC (.int 0)) (dCons (dC (.int 0)) (dCons (dTup (dCons (dC (.str "glyph")) (dCons (dTup (dCons (dVar 2) dNil)) (dCons (dOp (fI (fun _ j => 0 < j) fun i j => i % j) (dCall fInt (dCons (dVar 2) dNil)) (dC (.int 4))) (dCons (dOp (fI (fun _ j => 0 < j) fun i j => i % j) (dCall fInt (dCons (dOp fIx (dVar 0) (dC (.int 4))) dNil)) (dC (.int 3))) (dCons (dC (.str "x")) dNil)))))) dNil)))) dNil))) dNil))))))))))))
def G__law_box (A : Ads) : GX := gOf 3 sc__law_boxN (w__law_box A)
end MB
set_option Elab.async false
set_option linter.all false
set_option maxRecDepth 100000
set_option maxHeartbeats 4000000
set_option autoImplicit false
namespace MG
open PySem L2 DL MB
abbrev sc__law_mixN : List Str := ["cell", "lap", "blend"]
def w__law_mix (A : Ads) (W : Option Addr) : DS := (dSeq (dSet 2 (dOp fAddX (dOp fAddX (dOp fAddX (dOp (fI (fun _ j => 0 < j) fun i j => i % j) (dCall fInt (dCons (dVar 0) dNil)) (dC (.int 2147483629))) (dOp (fI IntMulOk fun i j => i * j) (dC (.int 41117)) (dVar 1))) (dOp (fI (fun _ j => 0 < j) fun i j => i % j) (dCall fInt (dCons (dOp (fI CDivW fun i j => i / j) (dVar 0) (dC (.int 2147483629))) dNil)) (dC (.int 1000003)))) (dC (.int 1)))) (dSeq (dSet 2 (dOp (fI (fun _ j => 0 < j) fun i j => i % j) (dCall fInt (dCons (dOp (fI IntMulOk fun i j => i * j) (dVar 2) (dC (.int 48271))) dNil)) (dC (.int 2147483629)))) (dSeq (dSet 2 (dOp (fI (fun _ j => 0 < j) fun i j => i % j) (dCall fInt (dCons (dOp (fI IntMulOk fun i j => i * j) (dVar 2) (dOp fAddX (dOp fAddX (dOp (fI CDivW fun i j => i / j) (dVar 2) (dC (.int 1021))) (dC (.int 65539))) (dVar 1))) dNil)) (dC (.int 2147483587)))) (dRet (dOp (fI (fun _ j => 0 < j) fun i j => i % j) (dCall fInt (dCons (dOp (fI IntMulOk fun i j => i * j) (dVar 2) (dOp fAddX (dOp (fI CDivW fun i j => i / j) (dVar 2) (dC (.int 2011))) (dC (.int 40014)))) dNil)) (dC (.int 2147483563)))))))
def G__law_mix (A : Ads) : GX := gOf 2 sc__law_mixN (w__law_mix A)
abbrev sc__law_allN : List Str := ["one"]
def w__law_all (A : Ads) (W : Option Addr) : DS := (dRet (dTup (dCons (dFld A.Box "width" (dVar 0)) (dCons (dFld A.Box "height" (dVar 0)) (dCons (dFld A.Box "depth" (dVar 0)) (dCons (dFld A.Box "marks" (dVar 0)) dNil))))))
def G__law_all (A : Ads) : GX := gOf 1 sc__law_allN (w__law_all A)
abbrev sc__law_drawN : List Str := ["well", "many", "drawn"]
def G__law_draw (A : Ads) : GX := fun W ds P _ => ∃ wa many, ds = [.adr wa, .int many] ∧ W = some wa ∧ 0 < many ∧ many < 2 ^ 30 ∧ ∀ n, 0 ≤ n → n < many → P (.int n)
abbrev sc__law_pickN : List Str := ["well", "some"]
def w__law_pick (A : Ads) (W : Option Addr) : DS := (dRet (dOp fIx (dVar 1) (dCl (G__law_draw A) W [] (dCons (dVar 0) (dCons (dCall fLenX (dCons (dVar 1) dNil)) dNil)))))
def G__law_pick (A : Ads) : GX := gOf 2 sc__law_pickN (w__law_pick A)
abbrev sc_check_boxN : List Str := ["box", "part"]
def w_check_box (A : Ads) (W : Option Addr) : DS := (dSeq (dSet 1 (dCl (G_wrong_part A) W [] (dCons (dVar 0) dNil))) (dIfS (dB (dOp (fIsX true) (dVar 1) (dC .non))) dNever dSkip))
def G_check_box (A : Ads) : GX := gOf 1 sc_check_boxN (w_check_box A)
abbrev sc__law_numberN : List Str := ["well"]
def w__law_number (A : Ads) (W : Option Addr) : DS := (dRet (dCl (G__law_pick A) W [] (dCons (dVar 0) (dCons (dLst (dCons (dC (.int 0)) (dCons (dC (.int 1)) (dCons (dUn fNeg (dC (.int 1))) (dCons (dC (.int 7)) (dCons (dUn fNeg (dC (.int 30))) (dCons (dOp (fI CPow fun i j => i ^ j.toNat) (dC (.int 10)) (dC (.int 40))) (dCons (dUn fNeg (dOp (fI CPow fun i j => i ^ j.toNat) (dC (.int 10)) (dC (.int 40)))) (dCons (dCl (G__law_draw A) W [] (dCons (dVar 0) (dCons (dC (.int 900)) dNil))) (dCons (dUn fNeg (dCl (G__law_draw A) W [] (dCons (dVar 0) (dCons (dC (.int 90)) dNil)))) dNil)))))))))) dNil))))
def G__law_number (A : Ads) : GX := gOf 1 sc__law_numberN (w__law_number A)
abbrev sc__law_markN : List Str := ["well", "spots", "turn"]
def w__law_mark (A : Ads) (W : Option Addr) : DS := (dSeq (dSet 1 (dCall fTupOf (dCons (dLc (dItR (dCl (G__law_draw A) W [] (dCons (dVar 0) (dCons (dC (.int 4)) dNil)))) (setN 2) dYes (dCl (G__law_draw A) W [] (dCons (dVar 0) (dCons (dC (.int 3)) dNil))) [2]) dNil))) (dSeq (dIfS (dB (dOp (fEq false) (dCl (G__law_draw A) W [] (dCons (dVar 0) (dCons (dC (.int 3)) dNil))) (dC (.int 0)))) (dRet (dTup (dCons (dC (.str "rule")) (dCons (dVar 1) (dCons (dCl (G__law_number A) W [] (dCons (dVar 0) dNil)) (dCons (dCl (G__law_number A) W [] (dCons (dVar 0) dNil)) dNil)))))) dSkip) (dRet (dTup (dCons (dC (.str "glyph")) (dCons (dVar 1) (dCons (dCl (G__law_draw A) W [] (dCons (dVar 0) (dCons (dC (.int 4)) dNil))) (dCons (dCl (G__law_draw A) W [] (dCons (dVar 0) (dCons (dC (.int 3)) dNil))) (dCons (dCl (G__law_pick A) W [] (dCons (dVar 0) (dCons (dLst (dCons (dC (.str "x")) (dCons (dC (.str "y")) (dCons (dC (.str "sum")) dNil)))) dNil))) dNil)))))))))
def G__law_mark (A : Ads) : GX := gOf 1 sc__law_markN (w__law_mark A)
abbrev sc__law_marksN : List Str := ["well", "turn"]
def w__law_marks (A : Ads) (W : Option Addr) : DS := (dRet (dLc (dItR (dCl (G__law_draw A) W [] (dCons (dVar 0) (dCons (dC (.int 4)) dNil)))) (setN 1) dYes (dTup (dCons (dCl (G__law_number A) W [] (dCons (dVar 0) dNil)) (dCons (dCl (G__law_number A) W [] (dCons (dVar 0) dNil)) (dCons (dCl (G__law_mark A) W [] (dCons (dVar 0) dNil)) dNil)))) [1]))
def G__law_marks (A : Ads) : GX := gOf 1 sc__law_marksN (w__law_marks A)
abbrev sc__law_boxN : List Str := ["well"]
def w__law_box (A : Ads) (W : Option Addr) : DS := (dRet (dFrz (dClO (GI_Box A) W [] (dCons (dCl (G__law_number A) W [] (dCons (dVar 0) dNil)) (dCons (dCl (G__law_number A) W [] (dCons (dVar 0) dNil)) (dCons (dCl (G__law_number A) W [] (dCons (dVar 0) dNil)) (dCons (dCl (G__law_marks A) W [] (dCons (dVar 0) dNil)) dNil)))))))
def G__law_box (A : Ads) : GX := gOf 1 sc__law_boxN (w__law_box A)
end MG
set_option Elab.async false
set_option linter.all false
set_option maxRecDepth 100000
set_option maxHeartbeats 4000000
set_option autoImplicit false
namespace MG.K09
open PySem L2 DL MB
abbrev sc_ink_ofN : List Str := ["box", "x", "y", "mark"]
def w_ink_of (A : Ads) (W : Option Addr) : DS := (dRetO (dNsort (dLc (dIt (dFld A.Box "marks" (dVar 0))) (setS (setCons (setN 1) (setCons (setN 2) (setCons (setN 3) setNil)))) dYes (dOp fAddX (dTup (dCons (dVar 1) (dCons (dVar 2) (dCons (dOp fIx (dVar 3) (dC (.int 0))) dNil)))) (dSl (dVar 3) (dPart (dC (.int 2))) dNoPart)) [1, 2, 3])))
def GO_ink_of (A : Ads) : GO := gOfO 1 sc_ink_ofN (w_ink_of A)
def G_ink_of (A : Ads) : GX := fun W ds P _ => GO_ink_of A W ds fun o => o.noD = true ∧ P o.frozen
abbrev sc_unlike_inkN : List Str := ["one", "other", "at", "item"]
def w_unlike_ink (A : Ads) (W : Option Addr) : DS := (dSeq (dFor (dEn (dCons (dVar 0) dNil)) (setS (setCons (setN 2) (setCons (setN 3) setNil))) (dSeq (dIfS (dTOr (dB (dOp (fEq false) (dVar 2) (dCall fLenX (dCons (dVar 1) dNil)))) (dB (dOp fLtD (dVar 3) (dOp fIx (dVar 1) (dVar 2))))) (dRet (dTup (dCons (dC (.str "ink")) (dCons (dC (.int 0)) (dCons (dVar 3) dNil))))) dSkip) (dIfS (dB (dOp fLtD (dOp fIx (dVar 1) (dVar 2)) (dVar 3))) (dRet (dTup (dCons (dC (.str "ink")) (dCons (dC (.int 1)) (dCons (dOp fIx (dVar 1) (dVar 2)) dNil))))) dSkip))) (dSeq (dIfS (dB (dOp (fB0 fun i j => decide (i < j)) (dCall fLenX (dCons (dVar 0) dNil)) (dCall fLenX (dCons (dVar 1) dNil)))) (dRet (dTup (dCons (dC (.str "ink")) (dCons (dC (.int 1)) (dCons (dOp fIx (dVar 1) (dCall fLenX (dCons (dVar 0) dNil))) dNil))))) dSkip) (dRet (dC .non))))
def G_unlike_ink (A : Ads) : GX := gOf 2 sc_unlike_inkN (w_unlike_ink A)
abbrev sc__law_sourceN : List Str := ["script", "k", "cell"]
abbrev sc__law_inkN : List Str := ["one", "x", "y", "mark"]
def w__law_ink (A : Ads) (W : Option Addr) : DS := (dRet (dCall fSort (dCons (dLc (dIt (dFld A.Box "marks" (dVar 0))) (setS (setCons (setN 1) (setCons (setN 2) (setCons (setN 3) setNil)))) dYes (dOp fAddX (dTup (dCons (dVar 1) (dCons (dVar 2) (dCons (dOp fIx (dVar 3) (dC (.int 0))) dNil)))) (dSl (dVar 3) (dPart (dC (.int 2))) dNoPart)) [1, 2, 3]) dNil)))
def G__law_ink (A : Ads) : GX := gOf 1 sc__law_inkN (w__law_ink A)
abbrev sc__law_unlikeN : List Str := ["one", "other", "pairs", "part", "here", "there", "item"]
def w__law_unlike (A : Ads) (W : Option Addr) : DS := (dSeq (dSet 2 (dLst (dCons (dTup (dCons (dC (.str "width")) (dCons (dFld A.Box "width" (dVar 0)) (dCons (dFld A.Box "width" (dVar 1)) dNil)))) (dCons (dTup (dCons (dC (.str "height")) (dCons (dFld A.Box "height" (dVar 0)) (dCons (dFld A.Box "height" (dVar 1)) dNil)))) dNil)))) (dSeq (dFor (dIt (dOp fAddX (dVar 2) (dLst (dCons (dTup (dCons (dC (.str "depth")) (dCons (dFld A.Box "depth" (dVar 0)) (dCons (dFld A.Box "depth" (dVar 1)) dNil)))) dNil)))) (setS (setCons (setN 3) (setCons (setN 4) (setCons (setN 5) setNil)))) (dIfS (dB (dOp (fEq true) (dVar 4) (dVar 5))) (dRet (dTup (dCons (dVar 3) dNil))) dSkip)) (dSeq (dPar 4 5 (dCons (dCl (G__law_ink A) W [] (dCons (dVar 0) dNil)) (dCons (dCl (G__law_ink A) W [] (dCons (dVar 1) dNil)) dNil))) (dSeq (dFor (dIt (dCall fSort (dCons (dOp fAddX (dVar 4) (dVar 5)) dNil))) (setN 6) (dIfS (dB (dOp (fEq true) (dCount (dVar 4) (dVar 6)) (dCount (dVar 5) (dVar 6)))) (dRet (dTup (dCons (dC (.str "ink")) (dCons (dCall fInt (dCons (dOp (fB0 fun i j => decide (i < j)) (dCount (dVar 4) (dVar 6)) (dCount (dVar 5) (dVar 6))) dNil)) (dCons (dVar 6) dNil))))) dSkip)) (dRet (dC .non))))))
def G__law_unlike (A : Ads) : GX := gOf 2 sc__law_unlikeN (w__law_unlike A)
abbrev sc_inkN : List Str := ["box"]
def w_ink (A : Ads) (W : Option Addr) : DS := (dSeq (dDrop (dCl (G_check_box A) W [] (dCons (dVar 0) dNil))) (dRetO (dClO (GO_ink_of A) W [] (dCons (dVar 0) dNil))))
def GO_ink (A : Ads) : GO := gOfO 1 sc_inkN (w_ink A)
def G_ink (A : Ads) : GX := fun W ds P _ => GO_ink A W ds fun o => o.noD = true ∧ P o.frozen
abbrev sc_first_unlikeN : List Str := ["one", "other"]
def w_first_unlike (A : Ads) (W : Option Addr) : DS := (dSeq (dDrop (dCl (G_check_box A) W [] (dCons (dVar 0) dNil))) (dSeq (dDrop (dCl (G_check_box A) W [] (dCons (dVar 1) dNil))) (dSeq (dIfS (dB (dOp (fEq true) (dFld A.Box "width" (dVar 0)) (dFld A.Box "width" (dVar 1)))) (dRet (dTup (dCons (dC (.str "width")) dNil))) dSkip) (dSeq (dIfS (dB (dOp (fEq true) (dFld A.Box "height" (dVar 0)) (dFld A.Box "height" (dVar 1)))) (dRet (dTup (dCons (dC (.str "height")) dNil))) dSkip) (dSeq (dIfS (dB (dOp (fEq true) (dFld A.Box "depth" (dVar 0)) (dFld A.Box "depth" (dVar 1)))) (dRet (dTup (dCons (dC (.str "depth")) dNil))) dSkip) (dRet (dCl (G_unlike_ink A) W [] (dCons (dCl (G_ink_of A) W [] (dCons (dVar 0) dNil)) (dCons (dCl (G_ink_of A) W [] (dCons (dVar 1) dNil)) dNil)))))))))
def G_first_unlike (A : Ads) : GX := gOf 2 sc_first_unlikeN (w_first_unlike A)
abbrev sc_same_inkN : List Str := ["one", "other"]
def w_same_ink (A : Ads) (W : Option Addr) : DS := (dRet (dOp (fIsX false) (dCl (G_first_unlike A) W [] (dCons (dVar 0) (dCons (dVar 1) dNil))) (dC .non)))
def G_same_ink (A : Ads) : GX := gOf 2 sc_same_inkN (w_same_ink A)
abbrev sc__law_otherN : List Str := ["well", "one", "marks", "sizes", "way", "spot", "x", "y", "mark"]
def w__law_other (A : Ads) (W : Option Addr) : DS := (dSeq (dParM3 2 3 4 (dMo (dNlistof (dFld A.Box "marks" (dVar 1)))) (dMo (dNlst (dCons (dFld A.Box "width" (dVar 1)) (dCons (dFld A.Box "height" (dVar 1)) (dCons (dFld A.Box "depth" (dVar 1)) dNil))))) (dMv (dCl (G__law_draw A) W [] (dCons (dVar 0) (dCons (dC (.int 9)) dNil))))) (dSeq (dIfS (dLendT 2 (dTAnd (dB (dOp (fB0 fun i j => decide (i < j)) (dVar 4) (dC (.int 3)))) (dB (dOp (fEq true) (dVar 2) (dLst dNil))))) (dSeq (dSet 5 (dCl (G__law_draw A) W [] (dCons (dVar 0) (dCons (dLend 2 (dCall fLenX (dCons (dVar 2) dNil))) dNil)))) (dSeq (dAsg (dOitem 2 (dVar 5)) (setS (setCons (setN 6) (setCons (setN 7) (setCons (setN 8) setNil))))) (dLput 2 (dVar 5) (dOp fIx (dLst (dCons (dTup (dCons (dVar 6) (dCons (dVar 7) (dCons (dOp fAddX (dTup (dCons (dOp fIx (dVar 8) (dC (.int 0))) (dCons (dTup (dCons (dC (.int 5)) (dCons (dC (.int 5)) dNil))) dNil))) (dSl (dVar 8) (dPart (dC (.int 2))) dNoPart)) dNil)))) (dCons (dTup (dCons (dOp fAddX (dVar 6) (dC (.int 1))) (dCons (dVar 7) (dCons (dVar 8) dNil)))) (dCons (dTup (dCons (dVar 6) (dCons (dOp (fI0 fun i j => i - j) (dVar 7) (dC (.int 1))) (dCons (dVar 8) dNil)))) dNil)))) (dVar 4))))) dSkip) (dSeq (dIfS (dB (dOp (fEq false) (dVar 4) (dC (.int 3)))) (dKeep 2 (dSet 2 (dRevL (dVar 2)))) dSkip) (dSeq (dIfS (dB (dOp (fEq false) (dVar 4) (dC (.int 4)))) (dKeep 2 (dSet 2 (dOp fAddX (dSl (dVar 2) (dPart (dC (.int 1))) dNoPart) (dSl (dVar 2) dNoPart (dPart (dC (.int 1))))))) dSkip) (dSeq (dIfS (dLendTA 2 (dTAnd (dB (dOp (fEq false) (dVar 4) (dC (.int 5)))) (dB (dOp (fEq true) (dVar 2) (dLst dNil))))) (dApp 2 (dLendNL 2 (dCl (G__law_pick A) W [] (dCons (dVar 0) (dCons (dVar 2) dNil))))) dSkip) (dSeq (dIfS (dB (dOp (fEq false) (dVar 4) (dC (.int 6)))) (dKeep 2 (dSet 2 (dSl (dVar 2) (dPart (dC (.int 1))) dNoPart))) dSkip) (dSeq (dIfS (dB (dOp (fEq false) (dVar 4) (dC (.int 7)))) (dApp 2 (dTup (dCons (dCl (G__law_number A) W [] (dCons (dVar 0) dNil)) (dCons (dCl (G__law_number A) W [] (dCons (dVar 0) dNil)) (dCons (dCl (G__law_mark A) W [] (dCons (dVar 0) dNil)) dNil))))) dSkip) (dSeq (dIfS (dB (dOp (fEq false) (dVar 4) (dC (.int 8)))) (dSeq (dSet 5 (dCl (G__law_draw A) W [] (dCons (dVar 0) (dCons (dC (.int 3)) dNil)))) (dLput 3 (dVar 5) (dOp fAddX (dOitem 3 (dVar 5)) (dC (.int 1))))) dSkip) (dKeep 3 (dKeepA 2 (dRet (dFrz (dClO (GI_Box A) W [] (dCons (dOp fIx (dVar 3) (dC (.int 0))) (dCons (dOp fIx (dVar 3) (dC (.int 1))) (dCons (dOp fIx (dVar 3) (dC (.int 2))) (dCons (dVar 2) dNil)))))))))))))))))
def G__law_other (A : Ads) : GX := gOf 2 sc__law_otherN (w__law_other A)
abbrev sc__law_rightN : List Str := ["well", "turn", "one", "other", "kept", "found", "back"]
def w__law_right (A : Ads) (W : Option Addr) : DS := (dSeq (dFor (dItR (dC (.int 8))) (setN 1) (dSeq (dSet 2 (dCl (G__law_box A) W [] (dCons (dVar 0) dNil))) (dSeq (dSet 3 (dIf (dB (dOp (fB0 fun i j => decide (i < j)) (dVar 1) (dC (.int 6)))) (dCl (G__law_other A) W [] (dCons (dVar 0) (dCons (dVar 2) dNil))) (dCl (G__law_box A) W [] (dCons (dVar 0) dNil)))) (dSeq (dIfS (dB (dOp (fEq false) (dVar 1) (dC (.int 5)))) (dSet 3 (dCl (G__law_other A) W [] (dCons (dVar 0) (dCons (dVar 3) dNil)))) dSkip) (dSeq (dSet 4 (dTup (dCons (dCall fRepr (dCons (dCl (G__law_all A) W [] (dCons (dVar 2) dNil)) dNil)) (dCons (dCall fRepr (dCons (dCl (G__law_all A) W [] (dCons (dVar 3) dNil)) dNil)) dNil)))) (dSeq (dIfS (dTOr (dB (dOp (fEq true) (dCl (G_ink A) W [] (dCons (dVar 2) dNil)) (dCl (G__law_ink A) W [] (dCons (dVar 2) dNil)))) (dTOr (dB (dOp (fEq true) (dCl (G_ink A) W [] (dCons (dVar 3) dNil)) (dCl (G__law_ink A) W [] (dCons (dVar 3) dNil)))) (dTNot (dB (dCl (G_same_ink A) W [] (dCons (dVar 2) (dCons (dVar 2) dNil))))))) (dRet (dC (.bl false))) dSkip) (dSeq (dSet 5 (dCl (G__law_unlike A) W [] (dCons (dVar 2) (dCons (dVar 3) dNil)))) (dSeq (dIfS (dTOr (dB (dOp (fEq true) (dCl (G_first_unlike A) W [] (dCons (dVar 2) (dCons (dVar 3) dNil))) (dVar 5))) (dB (dOp (fEq true) (dCl (G_same_ink A) W [] (dCons (dVar 2) (dCons (dVar 3) dNil))) (dOp (fIsX false) (dVar 5) (dC .non))))) (dRet (dC (.bl false))) dSkip) (dSeq (dSet 6 (dIf (dTOr (dB (dOp (fIsX false) (dVar 5) (dC .non))) (dB (dOp (fEq true) (dOp fIx (dVar 5) (dC (.int 0))) (dC (.str "ink"))))) (dVar 5) (dTup (dCons (dC (.str "ink")) (dCons (dOp (fI0 fun i j => i - j) (dC (.int 1)) (dOp fIx (dVar 5) (dC (.int 1)))) (dCons (dOp fIx (dVar 5) (dC (.int 2))) dNil)))))) (dSeq (dIfS (dTOr (dB (dOp (fEq true) (dCl (G_first_unlike A) W [] (dCons (dVar 3) (dCons (dVar 2) dNil))) (dVar 6))) (dB (dOp (fIsX true) (dCl (G_first_unlike A) W [] (dCons (dVar 3) (dCons (dVar 3) dNil))) (dC .non)))) (dRet (dC (.bl false))) dSkip) (dSeq (dNapp (dClO (GO_ink A) W [] (dCons (dVar 2) dNil)) (dC .non)) (dIfS (dTOr (dB (dOp (fEq true) (dTup (dCons (dCall fRepr (dCons (dCl (G__law_all A) W [] (dCons (dVar 2) dNil)) dNil)) (dCons (dCall fRepr (dCons (dCl (G__law_all A) W [] (dCons (dVar 3) dNil)) dNil)) dNil))) (dVar 4))) (dB (dOp (fEq true) (dOp (fOwnZ A.Box (G_Box___eq__ A) W false) (dVar 2) (dVar 3)) (dOp (fEq false) (dCl (G__law_all A) W [] (dCons (dVar 2) dNil)) (dCl (G__law_all A) W [] (dCons (dVar 3) dNil)))))) (dRet (dC (.bl false))) dSkip)))))))))))) (dRet (dC (.bl true))))
def G__law_right (A : Ads) : GX := gOf 1 sc__law_rightN (w__law_right A)
abbrev sc_lawN : List Str := ["script", "k"]
end MG.K09
set_option Elab.async false
set_option linter.all false
set_option maxRecDepth 100000
set_option maxHeartbeats 4000000
set_option autoImplicit false
namespace MG.K09
open PySem L2 DL MB
def top (i : Nat) : Stmt := PySem.Challenge.pw_mathboxes_k09_whole_ink_and_what_differs.main.body.getD i (.Pass ⟨0, 0, 0, 0⟩)
theorem hu64 {k : Nat} {A : Around} (h : Room k A) : A.units + 64 < cLine := h.units
abbrev stm_is_integer : Stmt := top 9
theorem sc_is_integer : FnScope sc_is_integerN ["value"] (defScope stm_is_integer) := ⟨rfl, rfl, rfl, by decide +kernel, rfl, by decide +kernel, by decide +kernel⟩
abbrev stm_is_signed : Stmt := top 10
theorem sc_is_signed : FnScope sc_is_signedN ["value"] (defScope stm_is_signed) := ⟨rfl, rfl, rfl, by decide +kernel, rfl, by decide +kernel, by decide +kernel⟩
abbrev stm_Box___init__ : Stmt := inClass (top 12) 0
theorem sc_Box___init__ : FnScope sc_Box___init__N ["self", "width", "height", "depth", "marks"] (defScope stm_Box___init__) := ⟨rfl, rfl, rfl, by decide +kernel, rfl, by decide +kernel, by decide +kernel⟩
abbrev stm_Box___eq__ : Stmt := inClass (top 12) 1
theorem sc_Box___eq__ : FnScope sc_Box___eq__N ["self", "other"] (defScope stm_Box___eq__) := ⟨rfl, rfl, rfl, by decide +kernel, rfl, by decide +kernel, by decide +kernel⟩
abbrev stm_wrong_part : Stmt := top 14
theorem sc_wrong_part : FnScope sc_wrong_partN ["box"] (defScope stm_wrong_part) := ⟨rfl, rfl, rfl, by decide +kernel, rfl, by decide +kernel, by decide +kernel⟩
abbrev stm_are_marks : Stmt := top 15
theorem sc_are_marks : FnScope sc_are_marksN ["marks"] (defScope stm_are_marks) := ⟨rfl, rfl, rfl, by decide +kernel, rfl, by decide +kernel, by decide +kernel⟩
abbrev stm_check_box : Stmt := top 13
theorem sc_check_box : FnScope sc_check_boxN ["box"] (defScope stm_check_box) := ⟨rfl, rfl, rfl, by decide +kernel, rfl, by decide +kernel, by decide +kernel⟩
abbrev stm_ink_of : Stmt := top 17
theorem sc_ink_of : FnScope sc_ink_ofN ["box"] (defScope stm_ink_of) := ⟨rfl, rfl, rfl, by decide +kernel, rfl, by decide +kernel, by decide +kernel⟩
abbrev stm_ink : Stmt := top 16
theorem sc_ink : FnScope sc_inkN ["box"] (defScope stm_ink) := ⟨rfl, rfl, rfl, by decide +kernel, rfl, by decide +kernel, by decide +kernel⟩
abbrev stm_unlike_ink : Stmt := top 20
theorem sc_unlike_ink : FnScope sc_unlike_inkN ["one", "other"] (defScope stm_unlike_ink) := ⟨rfl, rfl, rfl, by decide +kernel, rfl, by decide +kernel, by decide +kernel⟩
abbrev stm_first_unlike : Stmt := top 19
theorem sc_first_unlike : FnScope sc_first_unlikeN ["one", "other"] (defScope stm_first_unlike) := ⟨rfl, rfl, rfl, by decide +kernel, rfl, by decide +kernel, by decide +kernel⟩
abbrev stm_same_ink : Stmt := top 18
theorem sc_same_ink : FnScope sc_same_inkN ["one", "other"] (defScope stm_same_ink) := ⟨rfl, rfl, rfl, by decide +kernel, rfl, by decide +kernel, by decide +kernel⟩
abbrev stm__law_mix : Stmt := top 22
theorem sc__law_mix : FnScope sc__law_mixN ["cell", "lap"] (defScope stm__law_mix) := ⟨rfl, rfl, rfl, by decide +kernel, rfl, by decide +kernel, by decide +kernel⟩
abbrev stm__law_source : Stmt := top 23
theorem sc__law_source : FnScope sc__law_sourceN ["script", "k"] (defScope stm__law_source) := ⟨rfl, rfl, rfl, by decide +kernel, rfl, by decide +kernel, by decide +kernel⟩
abbrev stm__law_draw : Stmt := top 24
theorem sc__law_draw : FnScope sc__law_drawN ["well", "many"] (defScope stm__law_draw) := ⟨rfl, rfl, rfl, by decide +kernel, rfl, by decide +kernel, by decide +kernel⟩
abbrev stm__law_pick : Stmt := top 25
theorem sc__law_pick : FnScope sc__law_pickN ["well", "some"] (defScope stm__law_pick) := ⟨rfl, rfl, rfl, by decide +kernel, rfl, by decide +kernel, by decide +kernel⟩
abbrev stm__law_number : Stmt := top 26
theorem sc__law_number : FnScope sc__law_numberN ["well"] (defScope stm__law_number) := ⟨rfl, rfl, rfl, by decide +kernel, rfl, by decide +kernel, by decide +kernel⟩
abbrev stm__law_mark : Stmt := top 27
theorem sc__law_mark : FnScope sc__law_markN ["well"] (defScope stm__law_mark) := ⟨rfl, rfl, rfl, by decide +kernel, rfl, by decide +kernel, by decide +kernel⟩
abbrev stm__law_marks : Stmt := top 28
theorem sc__law_marks : FnScope sc__law_marksN ["well"] (defScope stm__law_marks) := ⟨rfl, rfl, rfl, by decide +kernel, rfl, by decide +kernel, by decide +kernel⟩
abbrev stm__law_box : Stmt := top 29
theorem sc__law_box : FnScope sc__law_boxN ["well"] (defScope stm__law_box) := ⟨rfl, rfl, rfl, by decide +kernel, rfl, by decide +kernel, by decide +kernel⟩
abbrev stm__law_all : Stmt := top 30
theorem sc__law_all : FnScope sc__law_allN ["one"] (defScope stm__law_all) := ⟨rfl, rfl, rfl, by decide +kernel, rfl, by decide +kernel, by decide +kernel⟩
abbrev stm__law_ink : Stmt := top 31
theorem sc__law_ink : FnScope sc__law_inkN ["one"] (defScope stm__law_ink) := ⟨rfl, rfl, rfl, by decide +kernel, rfl, by decide +kernel, by decide +kernel⟩
abbrev stm__law_other : Stmt := top 32
theorem sc__law_other : FnScope sc__law_otherN ["well", "one"] (defScope stm__law_other) := ⟨rfl, rfl, rfl, by decide +kernel, rfl, by decide +kernel, by decide +kernel⟩
abbrev stm__law_unlike : Stmt := top 33
theorem sc__law_unlike : FnScope sc__law_unlikeN ["one", "other"] (defScope stm__law_unlike) := ⟨rfl, rfl, rfl, by decide +kernel, rfl, by decide +kernel, by decide +kernel⟩
abbrev stm__law_right : Stmt := top 34
theorem sc__law_right : FnScope sc__law_rightN ["well"] (defScope stm__law_right) := ⟨rfl, rfl, rfl, by decide +kernel, rfl, by decide +kernel, by decide +kernel⟩
abbrev stm_law : Stmt := top 35
theorem sc_law : FnScope sc_lawN ["script"] (defScope stm_law) := ⟨rfl, rfl, rfl, by decide +kernel, rfl, by decide +kernel, by decide +kernel⟩
set_option genInjectivity false
set_option genSizeOf false
structure Txt (K : PySem.W.Frag) (mg : Str → Option Value) where
  A : Ads
  z_isinstance : mg "isinstance" = none
  z_int : mg "int" = none
  z_str : mg "str" = none
  z_tuple : mg "tuple" = none
  z_list : mg "list" = none
  z_len : mg "len" = none
  z_max : mg "max" = none
  z_min : mg "min" = none
  z_range : mg "range" = none
  z_type : mg "type" = none
  z_repr : mg "repr" = none
  z_sorted : mg "sorted" = none
  z_enumerate : mg "enumerate" = none
  t_LIMIT : Tok
  m_LIMIT : mg "LIMIT" = some (.int (1000000000000000000000000000000000000000000000000000000000000) t_LIMIT)
  t_LEAST : Tok
  m_LEAST : mg "LEAST" = some (.int (-1000000000000000000000000000000000000000000000000000000000000) t_LEAST)
  t_MOST_FAMILIES : Tok
  m_MOST_FAMILIES : mg "MOST_FAMILIES" = some (.int (4) t_MOST_FAMILIES)
  t_SIZES : Tok
  m_SIZES : mg "SIZES" = some (.int (3) t_SIZES)
  t_MOST_LETTERS : Tok
  m_MOST_LETTERS : mg "MOST_LETTERS" = some (.int (8) t_MOST_LETTERS)
  m_Box : mg "Box" = some (.ref A.Box)
  cl_Box : Cls K A.Box
  is_Box : IsK K A.Box
  n_Box_width : NoAttr K A.Box "width"
  n_Box_height : NoAttr K A.Box "height"
  n_Box_depth : NoAttr K A.Box "depth"
  n_Box_marks : NoAttr K A.Box "marks"
  a_is_integer : Addr
  fd_is_integer : FuncData
  F_is_integer : Fun K "is_integer" "is_integer" stm_is_integer a_is_integer fd_is_integer
  b_is_integer : Binds K fd_is_integer ["value"] []
  m_is_integer : mg "is_integer" = some (.ref a_is_integer)
  a_is_signed : Addr
  fd_is_signed : FuncData
  F_is_signed : Fun K "is_signed" "is_signed" stm_is_signed a_is_signed fd_is_signed
  b_is_signed : Binds K fd_is_signed ["value"] []
  m_is_signed : mg "is_signed" = some (.ref a_is_signed)
  dv_Box : List V
  a_Box___init__ : Addr
  fd_Box___init__ : FuncData
  F_Box___init__ : FunD K "__init__" "Box.__init__" (defArgs stm_Box___init__) (defBody stm_Box___init__) (defScope stm_Box___init__) dv_Box [] a_Box___init__ fd_Box___init__
  mk_Box : Mk K A.Box a_Box___init__
  b_Box4 : Binds K fd_Box___init__ ["self", "width", "height", "depth", "marks"] []
  a_Box___eq__ : Addr
  fd_Box___eq__ : FuncData
  F_Box___eq__ : Fun K "__eq__" "Box.__eq__" stm_Box___eq__ a_Box___eq__ fd_Box___eq__
  b_Box___eq__ : Binds K fd_Box___eq__ ["self", "other"] []
  eq_Box : EqC K A.Box a_Box___eq__
  a_wrong_part : Addr
  fd_wrong_part : FuncData
  F_wrong_part : Fun K "wrong_part" "wrong_part" stm_wrong_part a_wrong_part fd_wrong_part
  b_wrong_part : Binds K fd_wrong_part ["box"] []
  m_wrong_part : mg "wrong_part" = some (.ref a_wrong_part)
  a_are_marks : Addr
  fd_are_marks : FuncData
  F_are_marks : Fun K "are_marks" "are_marks" stm_are_marks a_are_marks fd_are_marks
  b_are_marks : Binds K fd_are_marks ["marks"] []
  m_are_marks : mg "are_marks" = some (.ref a_are_marks)
  a_check_box : Addr
  fd_check_box : FuncData
  F_check_box : Fun K "check_box" "check_box" stm_check_box a_check_box fd_check_box
  b_check_box : Binds K fd_check_box ["box"] []
  m_check_box : mg "check_box" = some (.ref a_check_box)
  a_ink_of : Addr
  fd_ink_of : FuncData
  F_ink_of : Fun K "ink_of" "ink_of" stm_ink_of a_ink_of fd_ink_of
  b_ink_of : Binds K fd_ink_of ["box"] []
  m_ink_of : mg "ink_of" = some (.ref a_ink_of)
  a_ink : Addr
  fd_ink : FuncData
  F_ink : Fun K "ink" "ink" stm_ink a_ink fd_ink
  b_ink : Binds K fd_ink ["box"] []
  m_ink : mg "ink" = some (.ref a_ink)
  a_unlike_ink : Addr
  fd_unlike_ink : FuncData
  F_unlike_ink : Fun K "unlike_ink" "unlike_ink" stm_unlike_ink a_unlike_ink fd_unlike_ink
  b_unlike_ink : Binds K fd_unlike_ink ["one", "other"] []
  m_unlike_ink : mg "unlike_ink" = some (.ref a_unlike_ink)
  a_first_unlike : Addr
  fd_first_unlike : FuncData
  F_first_unlike : Fun K "first_unlike" "first_unlike" stm_first_unlike a_first_unlike fd_first_unlike
  b_first_unlike : Binds K fd_first_unlike ["one", "other"] []
  m_first_unlike : mg "first_unlike" = some (.ref a_first_unlike)
  a_same_ink : Addr
  fd_same_ink : FuncData
  F_same_ink : Fun K "same_ink" "same_ink" stm_same_ink a_same_ink fd_same_ink
  b_same_ink : Binds K fd_same_ink ["one", "other"] []
  m_same_ink : mg "same_ink" = some (.ref a_same_ink)
  a__law_mix : Addr
  fd__law_mix : FuncData
  F__law_mix : Fun K "_law_mix" "_law_mix" stm__law_mix a__law_mix fd__law_mix
  b__law_mix : Binds K fd__law_mix ["cell", "lap"] []
  m__law_mix : mg "_law_mix" = some (.ref a__law_mix)
  a__law_source : Addr
  fd__law_source : FuncData
  F__law_source : Fun K "_law_source" "_law_source" stm__law_source a__law_source fd__law_source
  b__law_source : Binds K fd__law_source ["script", "k"] []
  m__law_source : mg "_law_source" = some (.ref a__law_source)
  a__law_draw : Addr
  fd__law_draw : FuncData
  F__law_draw : Fun K "_law_draw" "_law_draw" stm__law_draw a__law_draw fd__law_draw
  b__law_draw : Binds K fd__law_draw ["well", "many"] []
  m__law_draw : mg "_law_draw" = some (.ref a__law_draw)
  a__law_pick : Addr
  fd__law_pick : FuncData
  F__law_pick : Fun K "_law_pick" "_law_pick" stm__law_pick a__law_pick fd__law_pick
  b__law_pick : Binds K fd__law_pick ["well", "some"] []
  m__law_pick : mg "_law_pick" = some (.ref a__law_pick)
  a__law_number : Addr
  fd__law_number : FuncData
  F__law_number : Fun K "_law_number" "_law_number" stm__law_number a__law_number fd__law_number
  b__law_number : Binds K fd__law_number ["well"] []
  m__law_number : mg "_law_number" = some (.ref a__law_number)
  a__law_mark : Addr
  fd__law_mark : FuncData
  F__law_mark : Fun K "_law_mark" "_law_mark" stm__law_mark a__law_mark fd__law_mark
  b__law_mark : Binds K fd__law_mark ["well"] []
  m__law_mark : mg "_law_mark" = some (.ref a__law_mark)
  a__law_marks : Addr
  fd__law_marks : FuncData
  F__law_marks : Fun K "_law_marks" "_law_marks" stm__law_marks a__law_marks fd__law_marks
  b__law_marks : Binds K fd__law_marks ["well"] []
  m__law_marks : mg "_law_marks" = some (.ref a__law_marks)
  a__law_box : Addr
  fd__law_box : FuncData
  F__law_box : Fun K "_law_box" "_law_box" stm__law_box a__law_box fd__law_box
  b__law_box : Binds K fd__law_box ["well"] []
  m__law_box : mg "_law_box" = some (.ref a__law_box)
  a__law_all : Addr
  fd__law_all : FuncData
  F__law_all : Fun K "_law_all" "_law_all" stm__law_all a__law_all fd__law_all
  b__law_all : Binds K fd__law_all ["one"] []
  m__law_all : mg "_law_all" = some (.ref a__law_all)
  a__law_ink : Addr
  fd__law_ink : FuncData
  F__law_ink : Fun K "_law_ink" "_law_ink" stm__law_ink a__law_ink fd__law_ink
  b__law_ink : Binds K fd__law_ink ["one"] []
  m__law_ink : mg "_law_ink" = some (.ref a__law_ink)
  a__law_other : Addr
  fd__law_other : FuncData
  F__law_other : Fun K "_law_other" "_law_other" stm__law_other a__law_other fd__law_other
  b__law_other : Binds K fd__law_other ["well", "one"] []
  m__law_other : mg "_law_other" = some (.ref a__law_other)
  a__law_unlike : Addr
  fd__law_unlike : FuncData
  F__law_unlike : Fun K "_law_unlike" "_law_unlike" stm__law_unlike a__law_unlike fd__law_unlike
  b__law_unlike : Binds K fd__law_unlike ["one", "other"] []
  m__law_unlike : mg "_law_unlike" = some (.ref a__law_unlike)
  a__law_right : Addr
  fd__law_right : FuncData
  F__law_right : Fun K "_law_right" "_law_right" stm__law_right a__law_right fd__law_right
  b__law_right : Binds K fd__law_right ["well"] []
  m__law_right : mg "_law_right" = some (.ref a__law_right)
  a_law : Addr
  fd_law : FuncData
  F_law : Fun K "law" "law" stm_law a_law fd_law
  b_law : Binds K fd_law ["script"] []
  m_law : mg "law" = some (.ref a_law)
end MG.K09
set_option Elab.async false
set_option linter.all false
set_option maxRecDepth 100000
set_option maxHeartbeats 4000000
set_option autoImplicit false
namespace MB
open PySem L2 DL
section
variable {i j : Int}
theorem cdL {i : Int} {n : Nat} (h : 0 < n) (h2 : n.log2 < 9000) : CDivW i (n : Int) = True := by
  apply propext
  refine ⟨fun _ => trivial, fun _ => ⟨by omega, ?_⟩⟩
  rw [Int.natAbs_natCast]
  exact h2
@[simp] theorem cd2 : CDivW i 2 = True := cdL (n := 2) (by decide) (by decide)
@[simp] theorem cd3 : CDivW i 3 = True := cdL (n := 3) (by decide) (by decide)
@[simp] theorem cd4 : CDivW i 4 = True := cdL (n := 4) (by decide) (by decide)
@[simp] theorem cd5 : CDivW i 5 = True := cdL (n := 5) (by decide) (by decide)
@[simp] theorem cd7 : CDivW i 7 = True := cdL (n := 7) (by decide) (by decide)
@[simp] theorem cd1009 : CDivW i 1009 = True := cdL (n := 1009) (by decide) (by decide)
variable {P : D → Prop} {x y : D} {a b : Str} {l m : List D}
@[simp] theorem fAddX_int : fAddX (.int i) (.int j) P = P (.int (i + j)) := rfl
@[simp] theorem fAddX_str : fAddX (.str a) (.str b) P = (a.length + b.length ≤ sizeLine ∧ P (.str (a ++ b))) := rfl
@[simp] theorem fAddX_lst : fAddX (.lst l) (.lst m) P = (l.length + m.length ≤ sizeLine ∧ P (.lst (l ++ m))) := rfl
@[simp] theorem fAddX_tup : fAddX (.tup l) (.tup m) P = (l.length + m.length ≤ sizeLine ∧ P (.tup (l ++ m))) := rfl
@[simp] theorem fIsX_non {n : Bool} : fIsX n x .non P = P (.bl (x.isNon != n)) := rfl
@[simp] theorem fIsX_bl {n k : Bool} : fIsX n x (.bl k) P = P (.bl (x.isBl k != n)) := rfl
@[simp] theorem fLenX_tup : fLenX [.tup l] P = P (.int l.length) := by simp [fLenX]
@[simp] theorem fLenX_lst : fLenX [.lst l] P = P (.int l.length) := by simp [fLenX]
@[simp] theorem fLenX_str : fLenX [.str a] P = (a.length ≤ sizeLine ∧ P (.int a.length)) := by simp [fLenX]
@[simp] theorem fLenX_dct {k : List (Key × D)} : fLenX [.dct k] P = P (.int k.length) := by
  apply propext
  simp [fLenX, fLen]
end
theorem gOf_eq {n : Nat} {N : List Str} {den : Option Addr → DS} {W : Option Addr} {ds : List D} {P : D → Prop} : gOf n N den W ds P noX = (ds.length = n ∧ den W ⟨fun _ => P .non, P, fun _ => False, fun _ => False, fun _ => False⟩ (slots0 N ds)) := rfl
variable {A : Ads} {W : Option Addr} {P : D → Prop}
theorem s_half {i : Int} : G_half A W [.int i] P noX = P (.int ((i + 1) / 2)) := by
  simp [G_half, gOf_eq, w_half, slots0]
@[simp] theorem fTyp_eval {x : D} : fTyp [x] P = ∃ t, x.tn = some t ∧ P (.ty t) := by
  apply propext
  constructor
  · rintro ⟨y, t, e, h, p⟩
    cases e
    exact ⟨t, h, p⟩
  · rintro ⟨t, h, p⟩
    exact ⟨x, t, rfl, h, p⟩
@[simp] theorem fTyCmp_eval {n : Bool} {a b : String} : fTyCmp n (.ty a) (.ty b) P = (a ∈ tnames ∧ b ∈ tnames ∧ P (.bl (decide (a = b) != n))) := by
  apply propext
  constructor
  · rintro ⟨_, _, e1, e2, h1, h2, p⟩
    cases e1
    cases e2
    exact ⟨h1, h2, p⟩
  · rintro ⟨h1, h2, p⟩
    exact ⟨a, b, rfl, rfl, h1, h2, p⟩
theorem fIsK_ins {C : Addr} {fs : List (Str × D)} : fIsK C [.ins C fs, .adr C] P = P (.bl true) := by
  apply propext
  constructor
  · rintro (⟨_, e, p⟩ | ⟨_, _, e, h, _⟩)
    · exact p
    · cases e
      cases h
  · exact fun p => .inl ⟨fs, rfl, p⟩
theorem fIsK_no {C : Addr} {x : D} (h : pln x = true) : fIsK C [x, .adr C] P = P (.bl false) := by
  apply propext
  constructor
  · rintro (⟨_, e, p⟩ | ⟨_, _, e, _, p⟩)
    · cases e
      simp [pln] at h
    · exact p
  · intro p
    cases q : x.tn with
    | none => unfold pln at h; rw [q] at h; cases h
    | some t => exact .inr ⟨x, t, rfl, q, p⟩
@[simp] theorem fIsK_tup {C : Addr} {l : List D} : fIsK C [.tup l, .adr C] P = P (.bl false) := fIsK_no rfl
@[simp] theorem fIsK_lst {C : Addr} {l : List D} : fIsK C [.lst l, .adr C] P = P (.bl false) := fIsK_no rfl
theorem fIsiT_any {x : D} {t : String} (h : x.tn = some t) : fIsiT [x, .tup [.ty "list", .ty "tuple"]] P = P (.bl (isaB t "list" || isaB t "tuple")) := by
  apply propext
  constructor
  · rintro ⟨y, u, Ts, e, h2, _, p⟩
    have e1 : x = y := (List.cons.inj e).1
    subst e1
    rw [h] at h2
    cases h2
    have e2 := (List.cons.inj (List.cons.inj e).2).1
    injection e2 with e3
    match Ts, e3 with
    | [a, b], e3 =>
      injection e3 with e4 e5
      injection e4 with e4
      injection e5 with e5 _
      injection e5 with e5
      subst e4 e5
      simpa using p
  · intro p
    exact ⟨x, t, ["list", "tuple"], rfl, h, by simp [tasked], by simpa using p⟩
@[simp] theorem fIsiT_lst {l : List D} : fIsiT [.lst l, .tup [.ty "list", .ty "tuple"]] P = P (.bl true) := by
  rw [fIsiT_any (t := "list") rfl, show (isaB "list" "list" || isaB "list" "tuple") = true by decide]
@[simp] theorem fIsiT_tup {l : List D} : fIsiT [.tup l, .tup [.ty "list", .ty "tuple"]] P = P (.bl true) := by
  rw [fIsiT_any (t := "tuple") rfl, show (isaB "tuple" "list" || isaB "tuple" "tuple") = true by decide]
theorem isiT_lst {l : List D} (p : P (.bl true)) : fIsiT [.lst l, .tup [.ty "list", .ty "tuple"]] P := by rw [fIsiT_lst]; exact p
theorem s_amount {x : D} (h : pln x = true) : G_is_amount A W [x] P noX = P (.bl (btw 0 lim x)) := by
  cases x with
  | bl b => cases b <;> simp [G_is_amount, gOf_eq, w_is_amount, slots0, tasked, tnames, isaB, btw, lim, D.isBl]
  | int i =>
    simp [G_is_amount, gOf_eq, w_is_amount, slots0, tasked, tnames, isaB, btw, lim, D.isBl]
    by_cases q : 0 ≤ i
    · have q' : ¬ i < 0 := by omega
      simp [q, q']
    · have q' : i < 0 := by omega
      simp [q, q']
  | _ => first | (simp [pln] at h; done) | simp [G_is_amount, gOf_eq, w_is_amount, slots0, tasked, tnames, isaB, btw, lim, D.isBl]
theorem s_signed {x : D} (h : pln x = true) : G_is_signed A W [x] P noX = P (.bl (sg x)) := by
  cases x with
  | bl b => cases b <;> simp [G_is_signed, gOf_eq, w_is_signed, slots0, tasked, tnames, isaB, btw, lim, D.isBl]
  | int i =>
    simp [G_is_signed, gOf_eq, w_is_signed, slots0, tasked, tnames, isaB, btw, lim, D.isBl]
    by_cases q : -1000000000000000000000000000000000000000000000000000000000000 ≤ i
    · have q' : ¬ i < -1000000000000000000000000000000000000000000000000000000000000 := by omega
      simp [q, q']
    · have q' : i < -1000000000000000000000000000000000000000000000000000000000000 := by omega
      simp [q, q']
  | _ => first | (simp [pln] at h; done) | simp [G_is_signed, gOf_eq, w_is_signed, slots0, tasked, tnames, isaB, btw, lim, D.isBl]
theorem s_size {x : D} (h : pln x = true) : G_is_size A W [x] P noX = P (.bl (btw 0 2 x)) := by
  cases x with
  | bl b => cases b <;> simp [G_is_size, gOf_eq, w_is_size, slots0, tasked, tnames, isaB, btw, D.isBl]
  | int i =>
    simp [G_is_size, gOf_eq, w_is_size, slots0, tasked, tnames, isaB, btw, D.isBl]
    have e : decide (i < 3) = decide (i ≤ 2) := by simp only [decide_eq_decide]; omega
    by_cases q : 0 ≤ i
    · have q' : ¬ i < 0 := by omega
      simp [q, q', e]
    · have q' : i < 0 := by omega
      simp [q, q', e]
  | _ => first | (simp [pln] at h; done) | simp [G_is_size, gOf_eq, w_is_size, slots0, tasked, tnames, isaB, btw, D.isBl]
theorem s_style {x : D} (h : pln x = true) : G_is_style A W [x] P noX = P (.bl (btw 0 7 x)) := by
  cases x with
  | bl b => cases b <;> simp [G_is_style, gOf_eq, w_is_style, slots0, tasked, tnames, isaB, btw, D.isBl]
  | int i =>
    simp [G_is_style, gOf_eq, w_is_style, slots0, tasked, tnames, isaB, btw, D.isBl]
    have e : decide (i < 8) = decide (i ≤ 7) := by simp only [decide_eq_decide]; omega
    by_cases q : 0 ≤ i
    · have q' : ¬ i < 0 := by omega
      simp [q, q', e]
    · have q' : i < 0 := by omega
      simp [q, q', e]
  | _ => first | (simp [pln] at h; done) | simp [G_is_style, gOf_eq, w_is_style, slots0, tasked, tnames, isaB, btw, D.isBl]
theorem s_integer {x : D} (h : pln x = true) : G_is_integer A W [x] P noX = P (.bl (isInt x)) := by
  cases x with
  | bl b => cases b <;> simp [G_is_integer, gOf_eq, w_is_integer, slots0, tasked, isaB, isInt, D.isBl]
  | int i =>
    simp [G_is_integer, gOf_eq, w_is_integer, slots0, tasked, isaB, isInt, D.isBl]
    skip
  | _ => first | (simp [pln] at h; done) | simp [G_is_integer, gOf_eq, w_is_integer, slots0, tasked, isaB, isInt, D.isBl]
end MB
set_option Elab.async false
set_option linter.all false
set_option maxRecDepth 100000
set_option maxHeartbeats 4000000
set_option autoImplicit false
namespace MB
open PySem L2 DL
/-! boxes as data -/
abbrev M3 := Int × Int × D
def mD (t : M3) : D := .tup [.int t.1, .int t.2.1, t.2.2]
structure B where
  w : Int
  h : Int
  d : Int
  ms : List M3
def bF (b : B) : List (Str × D) := [("width", .int b.w), ("height", .int b.h), ("depth", .int b.d), ("marks", .lst (b.ms.map mD))]
def bD (A : Ads) (b : B) : D := .ins A.Box (bF b)
def bO (A : Ads) (x : Addr) (b : B) : OD := .box x A.Box [("width", .int b.w), ("height", .int b.h), ("depth", .int b.d)] "marks" (b.ms.map mD)
def mv (dx dy : Int) (t : M3) : M3 := (t.1 + dx, t.2.1 + dy, t.2.2)
variable {A : Ads} {W : Option Addr} {P : D → Prop}
section
variable {C : Addr} {f g : Str} {fs : List (Str × D)} {v : D} {b : B}
theorem lk_skip (h : (f == g) = false) : List.lookup f ((g, v) :: fs) = fs.lookup f := by rw [List.lookup_cons, h]
theorem lk_hit : List.lookup f ((f, v) :: fs) = some v := by rw [List.lookup_cons, show (f == f) = true by simp]
theorem lk_w : List.lookup ("width" : Str) (bF b) = some (.int b.w) := lk_hit
theorem lk_h : List.lookup ("height" : Str) (bF b) = some (.int b.h) := by unfold bF; rw [lk_skip (by decide +kernel), lk_hit]
theorem lk_d : List.lookup ("depth" : Str) (bF b) = some (.int b.d) := by unfold bF; rw [lk_skip (by decide +kernel), lk_skip (by decide +kernel), lk_hit]
theorem lk_m : List.lookup ("marks" : Str) (bF b) = some (.lst (b.ms.map mD)) := by unfold bF; rw [lk_skip (by decide +kernel), lk_skip (by decide +kernel), lk_skip (by decide +kernel), lk_hit]
end
/-- reading a field -/
def eF (C : Addr) (f : Str) : D → (D → Prop) → Prop := fun d P => ∃ fs v, d = .ins C fs ∧ fs.lookup f = some v ∧ P v
theorem dFld_eq {C : Addr} {f : Str} {de : DE} {ρ : List Sl} {P : D → Prop} : dFld C f de ρ P = de ρ fun d => eF C f d P := rfl
theorem eF_of {C : Addr} {f : Str} {fs : List (Str × D)} {v : D} {P : D → Prop} (h : fs.lookup f = some v) : eF C f (.ins C fs) P = P v := by
  apply propext
  constructor
  · rintro ⟨fs, u, e, l, p⟩
    cases e
    rw [h] at l
    cases l
    exact p
  · exact fun p => ⟨_, v, rfl, h, p⟩
section
variable {b : B}
@[simp] theorem eF_w : eF A.Box "width" (bD A b) P = P (.int b.w) := eF_of lk_w
@[simp] theorem eF_h : eF A.Box "height" (bD A b) P = P (.int b.h) := eF_of lk_h
@[simp] theorem eF_d : eF A.Box "depth" (bD A b) P = P (.int b.d) := eF_of lk_d
@[simp] theorem eF_m : eF A.Box "marks" (bD A b) P = P (.lst (b.ms.map mD)) := eF_of lk_m
end
/-! comprehensions -/
theorem dComp_mapOf {α : Type} {set : DG} {de : DE} {ρ : List Sl} (g f : α → D) : ∀ (xs : List α) (_ : ∀ x ∈ xs, ∀ P : D → Prop, P (f x) → ∃ ρ1, set (g x) ρ = some ρ1 ∧ de ρ1 P) (acc : List D) (P : List D → Prop), P (acc ++ xs.map f) → dComp set dYes de ρ (xs.map g) acc P
  | [], _, acc, P, p => by simpa [dComp] using p
  | x :: r, h, acc, P, p => by
    obtain ⟨ρ1, e, q⟩ := h x List.mem_cons_self (fun y => dComp set dYes de ρ (r.map g) (acc ++ [y]) P) (dComp_mapOf g f r (fun z hz => h z (List.mem_cons_of_mem _ hz)) _ P (by simpa using p))
    exact ⟨ρ1, e, by simpa [dYes] using q⟩
theorem lt_line {n : Nat} (h : n ≤ 1000) : n < sizeLine := small1000 h
end MB
set_option Elab.async false
set_option linter.all false
set_option maxRecDepth 100000
set_option maxHeartbeats 4000000
set_option autoImplicit false
namespace MB
open PySem L2 DL
variable {A : Ads} {W : Option Addr} {P : D → Prop} {PO : OD → Prop}
theorem at_get {l : List D} {k : Nat} {d : D} (h : l[k]? = some d) : atI l (k : Int) = some d := atI_nat h
/-! a new box -/
theorem s_GI_Box {b : B} (p : ∀ x, PO (bO A x b)) : GI_Box A W [.int b.w, .int b.h, .int b.d, .lst (b.ms.map mD)] PO := by
  have n1 : ¬ (("width" : Str) = "height") := by decide +kernel
  have n2 : ¬ (("width" : Str) = "depth") := by decide +kernel
  have n3 : ¬ (("height" : Str) = "depth") := by decide +kernel
  have m1 : ¬ (("width" : Str) = "marks") := by decide +kernel
  have m2 : ¬ (("height" : Str) = "marks") := by decide +kernel
  have m3 : ¬ (("depth" : Str) = "marks") := by decide +kernel
  refine ⟨rfl, fun x => ?_⟩
  simp only [w_Box___init__]
  refine ⟨_, rfl, x, [], rfl, by decide, _, rfl, x, _, rfl, by simp [setF], _, rfl, x, _, rfl, by simp [setF, n1], ?_⟩
  refine ⟨_, rfl, by decide, ?_⟩
  simp only [dNil]
  refine isiT_lst ?_
  refine ⟨true, rfl, rfl, _, rfl, b.ms.map mD, x, _, rfl, rfl, ?_, by simp [setF, n1, n2, n3], _, rfl, rfl, ?_⟩
  · intro q hq
    simp only [setF, n1, n2, n3, if_false] at hq
    simp at hq
    rcases hq with rfl | rfl | rfl
    · exact m1
    · exact m2
    · exact m3
  · have := p x
    simpa [bO, setF, n1, n2, n3] using this
/-! sizes, numbers -/
section
variable {x : FN}
theorem lk_kpt : List.lookup ("kept" : Str) (fnF A x) = some (kpD A x) := by unfold fnF; rw [lk_hit]
theorem lk_fam : List.lookup ("_families" : Str) (fnF A x) = some (x.fam) := by unfold fnF; rw [lk_skip (by decide +kernel), lk_hit]
theorem lk_num : List.lookup ("_numbers" : Str) (fnF A x) = some (.lst (x.ts.map D.dct)) := by unfold fnF; rw [lk_skip (by decide +kernel), lk_skip (by decide +kernel), lk_hit]
theorem lk_set : List.lookup ("_settings" : Str) (fnF A x) = some (.dct x.ss) := by unfold fnF; rw [lk_skip (by decide +kernel), lk_skip (by decide +kernel), lk_skip (by decide +kernel), lk_hit]
theorem lk_skew : List.lookup ("_skew" : Str) (fnF A x) = some (.non) := by unfold fnF; rw [lk_skip (by decide +kernel), lk_skip (by decide +kernel), lk_skip (by decide +kernel), lk_skip (by decide +kernel), lk_hit]
theorem lk_rem : List.lookup ("remembers" : Str) (fnF A x) = some (.bl false) := by unfold fnF; rw [lk_skip (by decide +kernel), lk_skip (by decide +kernel), lk_skip (by decide +kernel), lk_skip (by decide +kernel), lk_skip (by decide +kernel), lk_hit]
theorem lkk_fam : List.lookup ("families" : Str) (kpF x) = some (x.fam) := by unfold kpF; rw [lk_hit]
theorem lkk_num : List.lookup ("numbers" : Str) (kpF x) = some (.lst (x.ts.map D.dct)) := by unfold kpF; rw [lk_skip (by decide +kernel), lk_hit]
theorem lkk_set : List.lookup ("settings" : Str) (kpF x) = some (.dct x.ss) := by unfold kpF; rw [lk_skip (by decide +kernel), lk_skip (by decide +kernel), lk_hit]
theorem lkk_skew : List.lookup ("skew" : Str) (kpF x) = some (.non) := by unfold kpF; rw [lk_skip (by decide +kernel), lk_skip (by decide +kernel), lk_skip (by decide +kernel), lk_hit]
def fD (A : Ads) (x : FN) : D := .ins A.Fonts (fnF A x)
@[simp] theorem eF_kpt : eF A.Fonts "kept" (fD A x) P = P (kpD A x) := eF_of lk_kpt
@[simp] theorem eF_fam : eF A.Fonts "_families" (fD A x) P = P (x.fam) := eF_of lk_fam
@[simp] theorem eF_num : eF A.Fonts "_numbers" (fD A x) P = P (.lst (x.ts.map D.dct)) := eF_of lk_num
@[simp] theorem eF_set : eF A.Fonts "_settings" (fD A x) P = P (.dct x.ss) := eF_of lk_set
@[simp] theorem eF_skew : eF A.Fonts "_skew" (fD A x) P = P (.non) := eF_of lk_skew
@[simp] theorem eF_rem : eF A.Fonts "remembers" (fD A x) P = P (.bl false) := eF_of lk_rem
@[simp] theorem eFk_fam : eF A.Kept "families" (kpD A x) P = P (x.fam) := eF_of lkk_fam
@[simp] theorem eFk_num : eF A.Kept "numbers" (kpD A x) P = P (.lst (x.ts.map D.dct)) := eF_of lkk_num
@[simp] theorem eFk_set : eF A.Kept "settings" (kpD A x) P = P (.dct x.ss) := eF_of lkk_set
@[simp] theorem eFk_skew : eF A.Kept "skew" (kpD A x) P = P (.non) := eF_of lkk_skew
def tabN (t : Tab) (w : Str) : Int := match getK (Sum.inr w) t with
  | some (.int n) => n
  | _ => 0
def FN.num (x : FN) (k : Nat) (w : Str) : Int := tabN (x.ts.getD k []) w
theorem getK_mem {t : Tab} {k : Key} (h : k ∈ t.map (·.1)) : ∃ d, getK k t = some d ∧ (k, d) ∈ t := by
  induction t with
  | nil => simp at h
  | cons p r ih =>
    by_cases e : p.1 = k
    · refine ⟨p.2, by simp [getK, e], ?_⟩
      rw [← e]
      exact List.mem_cons_self
    · have h2 : k ∈ r.map (·.1) := by
        rw [List.map_cons] at h
        rcases List.mem_cons.mp h with z | z
        · exact absurd z.symm e
        · exact z
      obtain ⟨d, h3, h4⟩ := ih h2
      exact ⟨d, by simp [getK, e, h3], List.mem_cons_of_mem _ h4⟩
theorem tab_get {ws : List Str} {t : Tab} {w : Str} (h : okT ws t) (hw : w ∈ ws) : getK (Sum.inr w) t = some (.int (tabN t w)) ∧ 0 ≤ tabN t w ∧ tabN t w ≤ 10 ^ 60 ∧ (w = "factor" → tabN t w ≤ 1000) := by
  have hk : (Sum.inr w : Key) ∈ t.map (·.1) := by
    rw [h.ks]
    exact List.mem_map.mpr ⟨w, hw, rfl⟩
  obtain ⟨d, h1, h2⟩ := getK_mem hk
  obtain ⟨n, e, a, b, cc⟩ := h.vs _ h2 w rfl
  subst e
  have e : tabN t w = n := by unfold tabN; rw [h1]
  rw [e]
  exact ⟨h1, a, b, cc⟩
theorem num_get (h : okF x) {k : Nat} {w : Str} (hk : k < 3) (hw : w ∈ NW) : ∃ t, x.ts[k]? = some t ∧ getK (Sum.inr w) t = some (.int (x.num k w)) ∧ 0 ≤ x.num k w ∧ x.num k w ≤ 10 ^ 60 := by
  have hl : k < x.ts.length := by rw [h.len]; exact hk
  have e : x.ts[k]? = some x.ts[k] := List.getElem?_eq_getElem hl
  have e2 : x.ts.getD k [] = x.ts[k] := by rw [List.getD_eq_getElem?_getD, e]; rfl
  obtain ⟨a, b, c, _⟩ := tab_get (h.ts _ (List.getElem_mem hl)) hw
  refine ⟨_, e, ?_⟩
  unfold FN.num
  rw [e2]
  exact ⟨a, b, c⟩
end
end MB
set_option Elab.async false
set_option linter.all false
set_option maxRecDepth 100000
set_option maxHeartbeats 4000000
set_option autoImplicit false
namespace MB
open PySem L2 DL
variable {A : Ads} {W : Option Addr} {P : D → Prop} {PO : OD → Prop}
@[simp] theorem pln_int {i : Int} : pln (.int i) = true := rfl
@[simp] theorem pln_tup {l : List D} : pln (.tup l) = true := rfl
@[simp] theorem pln_lst {l : List D} : pln (.lst l) = true := rfl
@[simp] theorem pln_str {l : Str} : pln (.str l) = true := rfl
@[simp] theorem isNon_non : D.isNon .non = true := rfl
section
variable {a b c d e : D} {l : List D}
@[simp] theorem at_0 : atI (a :: l) 0 = some a := (at_get (k := 0) rfl)
@[simp] theorem at_1 : atI (a :: b :: l) 1 = some b := (at_get (k := 1) rfl)
@[simp] theorem at_2 : atI (a :: b :: c :: l) 2 = some c := (at_get (k := 2) rfl)
@[simp] theorem at_3 : atI (a :: b :: c :: d :: l) 3 = some d := (at_get (k := 3) rfl)
@[simp] theorem at_4 : atI (a :: b :: c :: d :: e :: l) 4 = some e := (at_get (k := 4) rfl)
end
@[simp] theorem fD_bl {n : Bool} : D.isNon (.bl n) = false := rfl
@[simp] theorem c_half {i : Int} : cl (G_half A) W [.int i] P = P (.int ((i + 1) / 2)) := cl_eq fun P => s_half
@[simp] theorem c_signed {i : Int} : cl (G_is_signed A) W [.int i] P = P (.bl (sg (.int i))) := cl_eq fun P => s_signed rfl
@[simp] theorem c_amount {i : Int} : cl (G_is_amount A) W [.int i] P = P (.bl (btw 0 lim (.int i))) := cl_eq fun P => s_amount rfl
@[simp] theorem c_size {i : Int} : cl (G_is_size A) W [.int i] P = P (.bl (btw 0 2 (.int i))) := cl_eq fun P => s_size rfl
@[simp] theorem c_style {i : Int} : cl (G_is_style A) W [.int i] P = P (.bl (btw 0 7 (.int i))) := cl_eq fun P => s_style rfl
@[simp] theorem c_integer {i : Int} : cl (G_is_integer A) W [.int i] P = P (.bl true) := cl_eq fun P => s_integer rfl
@[simp] theorem c_check_fonts {x : FN} : cl (G_check_fonts A) W [fD A x] P = P .non := cl_eq fun P => by simp [G_check_fonts, gOf_eq, w_check_fonts, slots0, fD, fIsK_ins]
@[simp] theorem fIsK_bD {b : B} : fIsK A.Box [bD A b, .adr A.Box] P = P (.bl true) := fIsK_ins
@[simp] theorem c_row {l : List D} {n : Int} : cl (G_is_row A) W [.tup l, .int n] P = P (.bl ((l.length : Int) == n)) := cl_eq fun P => by
  simp [G_is_row, gOf_eq, w_is_row, slots0, tasked, isaB]
@[simp] theorem c_word {a b : Str} : cl (G_is_word A) W [.str a, .tup [.str b]] P = P (.bl (b == a)) := cl_eq fun P => by
  simp [G_is_word, gOf_eq, w_is_word, slots0, tasked, isaB, fInX, seqD, flatD, eqF]
/-- a name -/
def nameB (s : Str) : Bool := Txt.isascii s && Txt.isalpha s && Txt.islower s
def pD (p : List Int) : D := .tup (p.map D.int)
def ruleD (p : List Int) (w h : Int) : D := .tup [.str "rule", pD p, .int w, .int h]
def glyphD (p : List Int) (f z : Int) (n : Str) : D := .tup [.str "glyph", pD p, .int f, .int z, .str n]
def inL (i : Int) : Prop := -lim ≤ i ∧ i ≤ lim
/-- a mark as it should be -/
inductive okM : D → Prop
  | rule {p w h} (hp : ∀ i ∈ p, (0 : Int) ≤ i) (hl : p.length ≤ 1000) (hw : inL w) (hh : inL h) : okM (ruleD p w h)
  | glyph {p f z n} (hp : ∀ i ∈ p, (0 : Int) ≤ i) (hl : p.length ≤ 1000) (hf : 0 ≤ f ∧ f ≤ 3) (hz : 0 ≤ z ∧ z ≤ 2) (h8 : n.length ≤ 8) (hn : nameB n = true) : okM (glyphD p f z n)
theorem dLoop_keep {set : DG} {body : DS} {De : DEnds} {I : List Sl → Prop} {xs : List D} (hs : ∀ d ∈ xs, ∀ ρ, I ρ → ∀ Q : List Sl → Prop, (∀ ρ', I ρ' → Q ρ') → ∃ ρ1, set d ρ = some ρ1 ∧ ∀ ct bk, body { De with nx := Q, ct := ct, bk := bk } ρ1) (he : ∀ ρ, I ρ → De.nx ρ) : ∀ {ρ}, I ρ → dLoop set body De xs ρ := by
  induction xs with
  | nil => exact fun i => he _ i
  | cons d r ih =>
    intro ρ i
    obtain ⟨ρ1, e, k⟩ := hs d List.mem_cons_self ρ i (fun ρ' => dLoop set body De r ρ') (fun ρ' i' => ih (fun z hz => hs z (List.mem_cons_of_mem _ hz)) i')
    exact ⟨ρ1, e, k _ _⟩
def ok3 (t : M3) : Prop := inL t.1 ∧ inL t.2.1 ∧ okM t.2.2
theorem inL_le {i : Int} (h : inL i) : -1000000000000000000000000000000000000000000000000000000000000 ≤ i ∧ i ≤ 1000000000000000000000000000000000000000000000000000000000000 := h
theorem fEq_str {n : Bool} {a b : Str} (ha : PyData.strOk a = true) (hb : PyData.strOk b = true) : fEq n (.str a) (.str b) P = P (.bl ((a == b) != n)) := by
  simp [fEq, D.py, SeqAt.shaped, PyData.canLay0, PyData.depth, PyData.eqv, ha, hb]
theorem ok_rule : PyData.strOk "rule" = true := by decide +kernel
theorem ok_glyph : PyData.strOk "glyph" = true := by decide +kernel
structure okB (b : B) : Prop where
  w : inL b.w
  h : inL b.h
  d : inL b.d
  l : b.ms.length ≤ 1000
  m : ∀ t ∈ b.ms, ok3 t
/-- the walk of a path -/
theorem path_walk {De : DEnds} {p : List Int} (h : ∀ i ∈ p, (0 : Int) ≤ i) {a0 a1 a2 a3 a4 a5 a6 a7 a8 a9 a10 a11 a12 : Sl} (he : ∀ x, De.nx [a0, a1, a2, a3, a4, a5, a6, a7, a8, a9, a10, a11, x]) :
    dLoop (setN 12) (dIfS (dTNot (dTAnd (dTOr (dB (dOp (fTyCmp false) (dCall fTyp (dCons (dVar 12) dNil)) (dC (D.ty "int")))) (dB (dCl (G_is_integer A) W [] (dCons (dVar 12) dNil)))) (dB (dOp (fB0 fun i j => decide (j ≤ i)) (dVar 12) (dC (D.int 0)))))) (dRet (dC (D.bl false))) dSkip)
      De (p.map D.int) [a0, a1, a2, a3, a4, a5, a6, a7, a8, a9, a10, a11, a12] := by
  refine dLoop_keep (I := fun ρ => ∃ x : Sl, ρ = [a0, a1, a2, a3, a4, a5, a6, a7, a8, a9, a10, a11, x]) ?_ (fun ρ ⟨x, e⟩ => by rw [e]; exact he x) ⟨_, rfl⟩
  rintro d hd _ ⟨x, rfl⟩ Q hQ
  obtain ⟨k, hk, rfl⟩ := List.mem_map.mp hd
  refine ⟨_, rfl, fun ct bk => ?_⟩
  simp [tnames, h k hk]
  exact hQ _ ⟨_, rfl⟩
theorem mseq_to {a b : DS} {De : DEnds} {ρ ρ' : List Sl} (ha : ∀ Q : List Sl → Prop, Q ρ' → a { De with nx := Q } ρ) (hb : b De ρ') : dSeq a b De ρ := ha _ hb
theorem mif_t {t : DT} {a b : DS} {De : DEnds} {ρ : List Sl} (ht : ∀ R : Bool → Prop, R true → t ρ R) (ha : a De ρ) : dIfS t a b De ρ := ht _ (by rw [if_pos rfl]; exact ha)
theorem mif_f {t : DT} {a b : DS} {De : DEnds} {ρ : List Sl} (ht : ∀ R : Bool → Prop, R false → t ρ R) (hb : b De ρ) : dIfS t a b De ρ := ht _ (by rw [if_neg Bool.false_ne_true]; exact hb)
theorem c_are_marks {ms : List M3} (h : ∀ t ∈ ms, ok3 t) (p : P (.bl true)) : cl (G_are_marks A) W [.lst (ms.map mD)] P := cl_of ⟨rfl, by
  simp only [w_are_marks, slots0]
  simp [itemsOf]
  refine dLoop_keep (I := fun ρ => ∃ x1 x2 x3 x4 x5 x6 x7 x8 x9 x10 x11 x12 : Sl, ρ = [.fz (.lst (ms.map mD)), x1, x2, x3, x4, x5, x6, x7, x8, x9, x10, x11, x12]) ?_ (fun _ _ => p) ⟨_, _, _, _, _, _, _, _, _, _, _, _, rfl⟩
  rintro d hd _ ⟨x1, x2, x3, x4, x5, x6, x7, x8, x9, x10, x11, x12, rfl⟩ Q hQ
  obtain ⟨⟨tx, ty, tm⟩, ht, rfl⟩ := List.mem_map.mp hd
  obtain ⟨h1, h2, h3⟩ := h _ ht
  simp only at h1 h2 h3
  obtain ⟨a1, b1⟩ := inL_le h1
  obtain ⟨a2, b2⟩ := inL_le h2
  refine ⟨_, rfl, fun ct bk => ?_⟩
  cases h3 with
  | rule hp hl hw hh =>
    obtain ⟨a3, b3⟩ := inL_le hw
    obtain ⟨a4, b4⟩ := inL_le hh
    apply mseq_to
    · intro Q q
      simp [mD, tasked, isaB, tnames]
      exact q
    apply mseq_to
    · intro Q q
      simp [mD, seqD]
      exact q
    apply mseq_to
    · intro Q q
      simp [tnames, a1, b1]
      exact q
    apply mseq_to
    · intro Q q
      simp [tnames, a2, b2]
      exact q
    apply mseq_to
    · intro Q q
      simp [ruleD, glyphD, tasked, isaB, tnames]
      exact q
    apply mseq_to
    · intro Q q
      refine mif_t (fun R r => by simp [ruleD]; exact r) ?_
      apply mseq_to
      · intro Q q
        simp [ruleD, seqD]
        exact q
      apply mseq_to
      · intro Q q
        simp [fEq_str ok_rule ok_rule, tasked, isaB, tnames]
        exact q
      apply mseq_to
      · intro Q q
        simp [tnames, a3, b3]
        exact q
      simp [tnames, a4, b4]
      exact q
    apply mseq_to
    · intro Q q
      simp [tasked, isaB, tnames, pD]
      exact q
    simp [itemsOf, pD]
    exact path_walk hp fun x => hQ _ ⟨_, _, _, _, _, _, _, _, _, _, _, _, rfl⟩
  | glyph hp hl hf hz h8 hn =>
    rename_i f z n
    have f4' : f < 4 := by omega
    have z3' : z < 3 := by omega
    have l1 : n.length ≤ sizeLine := Nat.le_trans h8 (Nat.le_of_lt (lt_line (by omega)))
    have l2 : (n.length : Int) ≤ 8 := by omega
    simp only [nameB, Bool.and_eq_true] at hn
    apply mseq_to
    · intro Q q
      simp [mD, tasked, isaB, tnames]
      exact q
    apply mseq_to
    · intro Q q
      simp [mD, seqD]
      exact q
    apply mseq_to
    · intro Q q
      simp [tnames, a1, b1]
      exact q
    apply mseq_to
    · intro Q q
      simp [tnames, a2, b2]
      exact q
    apply mseq_to
    · intro Q q
      simp [ruleD, glyphD, tasked, isaB, tnames]
      exact q
    apply mseq_to
    · intro Q q
      refine mif_f (fun R r => by simp [glyphD]; exact r) ?_
      refine mif_t (fun R r => by simp [glyphD]; exact r) ?_
      apply mseq_to
      · intro Q q
        simp [glyphD, seqD]
        exact q
      apply mseq_to
      · intro Q q
        simp [fEq_str ok_glyph ok_glyph, tasked, isaB, tnames]
        exact q
      apply mseq_to
      · intro Q q
        simp [tnames, hf.1, f4']
        exact q
      apply mseq_to
      · intro Q q
        simp [tnames, hz.1, z3']
        exact q
      apply mseq_to
      · intro Q q
        simp [tasked, isaB, tnames, l1, l2, h8]
        exact q
      simp [hn.1.1, hn.1.2, hn.2]
      exact q
    apply mseq_to
    · intro Q q
      simp [tasked, isaB, tnames, pD]
      exact q
    simp [itemsOf, pD]
    exact path_walk hp fun x => hQ _ ⟨_, _, _, _, _, _, _, _, _, _, _, _, rfl⟩⟩
theorem c_wrong {b : B} (h : okB b) (p : P .non) : cl (G_wrong_part A) W [bD A b] P := cl_of ⟨rfl, by
  obtain ⟨a1, b1⟩ := inL_le h.w
  obtain ⟨a2, b2⟩ := inL_le h.h
  obtain ⟨a3, b3⟩ := inL_le h.d
  simp only [w_wrong_part, slots0]
  simp [dFld_eq, fIsK_ins, seqD, tasked, isaB, tnames, a1, b1, a2, b2, a3, b3]
  split
  · exact p
  · exact c_are_marks h.m (.inr ⟨rfl, p⟩)⟩
end MB
set_option Elab.async false
set_option linter.all false
set_option maxRecDepth 100000
set_option maxHeartbeats 4000000
set_option autoImplicit false
namespace MB
open PySem L2 DL
variable {A : Ads} {W : Option Addr} {P : D → Prop} {PO : OD → Prop}
theorem lk_no {x : FN} {m : Str} (h0 : (m == "kept") = false) (h1 : (m == "_families") = false) (h2 : (m == "_numbers") = false) (h3 : (m == "_settings") = false) (h4 : (m == "_skew") = false) (h5 : (m == "remembers") = false) : (fnF A x).lookup m = none := by
  unfold fnF
  rw [lk_skip h0, lk_skip h1, lk_skip h2, lk_skip h3, lk_skip h4, lk_skip h5, List.lookup_nil]
theorem no_number_of {x : FN} : (fnF A x).lookup ("number_of" : Str) = none := lk_no (by decide +kernel) (by decide +kernel) (by decide +kernel) (by decide +kernel) (by decide +kernel) (by decide +kernel)
theorem no_setting_of {x : FN} : (fnF A x).lookup ("setting_of" : Str) = none := lk_no (by decide +kernel) (by decide +kernel) (by decide +kernel) (by decide +kernel) (by decide +kernel) (by decide +kernel)
theorem no_greatest {x : FN} : (fnF A x).lookup ("greatest" : Str) = none := lk_no (by decide +kernel) (by decide +kernel) (by decide +kernel) (by decide +kernel) (by decide +kernel) (by decide +kernel)
theorem no_reaches {x : FN} : (fnF A x).lookup ("reaches" : Str) = none := lk_no (by decide +kernel) (by decide +kernel) (by decide +kernel) (by decide +kernel) (by decide +kernel) (by decide +kernel)
theorem frz_Box {w h d : Int} {ms : List M3} (p : P (bD A ⟨w, h, d, ms⟩)) : clO (GI_Box A) W [.int w, .int h, .int d, .lst (ms.map mD)] (fun o => o.noD = true ∧ P o.frozen) :=
  clO_of (s_GI_Box (b := ⟨w, h, d, ms⟩) fun a => ⟨rfl, p⟩)
@[simp] theorem c_reaches {x : FN} {i j : Int} : cl (G_Fonts_reaches A) W [fD A x, .int i, .int j] P = P (.bl (decide (j ≤ i))) := cl_eq fun P => by
  simp [G_Fonts_reaches, gOf_eq, w_Fonts_reaches, slots0]
theorem fold_max : ∀ (l : List Int) (a : Int), (l.foldl max a = a ∨ l.foldl max a ∈ l) ∧ a ≤ l.foldl max a ∧ ∀ y ∈ l, y ≤ l.foldl max a
  | [], a => ⟨.inl rfl, Int.le_refl a, fun y h => by cases h⟩
  | b :: l, a => by
    obtain ⟨h1, h2, h3⟩ := fold_max l (max a b)
    rw [List.foldl_cons]
    refine ⟨?_, by omega, fun y hy => ?_⟩
    · rcases h1 with h1 | h1
      · rcases Int.le_total a b with h | h
        · right; rw [h1, Int.max_eq_right h]; exact List.mem_cons_self
        · left; rw [h1, Int.max_eq_left h]
      · exact .inr (List.mem_cons_of_mem _ h1)
    · rcases List.mem_cons.mp hy with rfl | hy
      · omega
      · exact h3 y hy
theorem fMax_cons {a : Int} {l : List Int} : fMax [.lst (.int a :: l.map D.int)] P = P (.int (l.foldl max a)) := by
  obtain ⟨h1, h2, h3⟩ := fold_max l a
  have hm : l.foldl max a ∈ a :: l := by
    rcases h1 with h1 | h1
    · rw [h1]; exact List.mem_cons_self
    · exact List.mem_cons_of_mem _ h1
  have hb : ∀ y ∈ a :: l, y ≤ l.foldl max a := fun y hy => by
    rcases List.mem_cons.mp hy with rfl | hy
    · exact h2
    · exact h3 y hy
  apply propext
  constructor
  · rintro ⟨ns, e, _, p⟩
    have e1 : (a :: l).map D.int = ns.map D.int := by
      have := (List.cons.inj e).1
      injection this with this
    have e2 : a :: l = ns := (List.map_inj_right (fun _ _ h => by injection h)).mp e1
    subst e2
    exact p _ hm hb
  · intro p
    refine ⟨a :: l, rfl, by simp, fun m k1 k2 => ?_⟩
    have : m = l.foldl max a := Int.le_antisymm (hb m k1) (k2 _ hm)
    rw [this]
    exact p
section
variable {a b c d e : Int}
@[simp] theorem fMax_1 : fMax [.lst [.int a]] P = P (.int a) := fMax_cons (l := [])
@[simp] theorem fMax_2 : fMax [.lst [.int a, .int b]] P = P (.int (max a b)) := fMax_cons (l := [b])
@[simp] theorem fMax_3 : fMax [.lst [.int a, .int b, .int c]] P = P (.int (max (max a b) c)) := fMax_cons (l := [b, c])
@[simp] theorem fMax_4 : fMax [.lst [.int a, .int b, .int c, .int d]] P = P (.int (max (max (max a b) c) d)) := fMax_cons (l := [b, c, d])
theorem c_greatest {x : FN} {l : List Int} : cl (G_Fonts_greatest A) W [fD A x, .lst (.int a :: l.map D.int)] P = P (.int (l.foldl max a)) := cl_eq fun P => by
  simp [G_Fonts_greatest, gOf_eq, w_Fonts_greatest, slots0, fMax_cons]
@[simp] theorem c_greatest1 {x : FN} : cl (G_Fonts_greatest A) W [fD A x, .lst [.int a]] P = P (.int a) := c_greatest (l := [])
@[simp] theorem c_greatest2 {x : FN} : cl (G_Fonts_greatest A) W [fD A x, .lst [.int a, .int b]] P = P (.int (max a b)) := c_greatest (l := [b])
@[simp] theorem c_greatest3 {x : FN} : cl (G_Fonts_greatest A) W [fD A x, .lst [.int a, .int b, .int c]] P = P (.int (max (max a b) c)) := c_greatest (l := [b, c])
@[simp] theorem c_greatest4 {x : FN} : cl (G_Fonts_greatest A) W [fD A x, .lst [.int a, .int b, .int c, .int d]] P = P (.int (max (max (max a b) c) d)) := c_greatest (l := [b, c, d])
end
end MB
set_option Elab.async false
set_option linter.all false
set_option autoImplicit false
/-! names that differ -/
namespace MB
open PySem L2 DL
@[simp] theorem ne_kept__families : (("kept" : Str) = "_families") = False := eq_false (by decide +kernel)
@[simp] theorem ne_kept__numbers : (("kept" : Str) = "_numbers") = False := eq_false (by decide +kernel)
@[simp] theorem ne_kept__settings : (("kept" : Str) = "_settings") = False := eq_false (by decide +kernel)
@[simp] theorem ne_kept__skew : (("kept" : Str) = "_skew") = False := eq_false (by decide +kernel)
@[simp] theorem ne_kept_remembers : (("kept" : Str) = "remembers") = False := eq_false (by decide +kernel)
@[simp] theorem ne__families_kept : (("_families" : Str) = "kept") = False := eq_false (by decide +kernel)
@[simp] theorem ne__families__numbers : (("_families" : Str) = "_numbers") = False := eq_false (by decide +kernel)
@[simp] theorem ne__families__settings : (("_families" : Str) = "_settings") = False := eq_false (by decide +kernel)
@[simp] theorem ne__families__skew : (("_families" : Str) = "_skew") = False := eq_false (by decide +kernel)
@[simp] theorem ne__families_remembers : (("_families" : Str) = "remembers") = False := eq_false (by decide +kernel)
@[simp] theorem ne__numbers_kept : (("_numbers" : Str) = "kept") = False := eq_false (by decide +kernel)
@[simp] theorem ne__numbers__families : (("_numbers" : Str) = "_families") = False := eq_false (by decide +kernel)
@[simp] theorem ne__numbers__settings : (("_numbers" : Str) = "_settings") = False := eq_false (by decide +kernel)
@[simp] theorem ne__numbers__skew : (("_numbers" : Str) = "_skew") = False := eq_false (by decide +kernel)
@[simp] theorem ne__numbers_remembers : (("_numbers" : Str) = "remembers") = False := eq_false (by decide +kernel)
@[simp] theorem ne__settings_kept : (("_settings" : Str) = "kept") = False := eq_false (by decide +kernel)
@[simp] theorem ne__settings__families : (("_settings" : Str) = "_families") = False := eq_false (by decide +kernel)
@[simp] theorem ne__settings__numbers : (("_settings" : Str) = "_numbers") = False := eq_false (by decide +kernel)
@[simp] theorem ne__settings__skew : (("_settings" : Str) = "_skew") = False := eq_false (by decide +kernel)
@[simp] theorem ne__settings_remembers : (("_settings" : Str) = "remembers") = False := eq_false (by decide +kernel)
@[simp] theorem ne__skew_kept : (("_skew" : Str) = "kept") = False := eq_false (by decide +kernel)
@[simp] theorem ne__skew__families : (("_skew" : Str) = "_families") = False := eq_false (by decide +kernel)
@[simp] theorem ne__skew__numbers : (("_skew" : Str) = "_numbers") = False := eq_false (by decide +kernel)
@[simp] theorem ne__skew__settings : (("_skew" : Str) = "_settings") = False := eq_false (by decide +kernel)
@[simp] theorem ne__skew_remembers : (("_skew" : Str) = "remembers") = False := eq_false (by decide +kernel)
@[simp] theorem ne_remembers_kept : (("remembers" : Str) = "kept") = False := eq_false (by decide +kernel)
@[simp] theorem ne_remembers__families : (("remembers" : Str) = "_families") = False := eq_false (by decide +kernel)
@[simp] theorem ne_remembers__numbers : (("remembers" : Str) = "_numbers") = False := eq_false (by decide +kernel)
@[simp] theorem ne_remembers__settings : (("remembers" : Str) = "_settings") = False := eq_false (by decide +kernel)
@[simp] theorem ne_remembers__skew : (("remembers" : Str) = "_skew") = False := eq_false (by decide +kernel)
@[simp] theorem ne_families_numbers : (("families" : Str) = "numbers") = False := eq_false (by decide +kernel)
@[simp] theorem ne_families_settings : (("families" : Str) = "settings") = False := eq_false (by decide +kernel)
@[simp] theorem ne_families_skew : (("families" : Str) = "skew") = False := eq_false (by decide +kernel)
@[simp] theorem ne_numbers_families : (("numbers" : Str) = "families") = False := eq_false (by decide +kernel)
@[simp] theorem ne_numbers_settings : (("numbers" : Str) = "settings") = False := eq_false (by decide +kernel)
@[simp] theorem ne_numbers_skew : (("numbers" : Str) = "skew") = False := eq_false (by decide +kernel)
@[simp] theorem ne_settings_families : (("settings" : Str) = "families") = False := eq_false (by decide +kernel)
@[simp] theorem ne_settings_numbers : (("settings" : Str) = "numbers") = False := eq_false (by decide +kernel)
@[simp] theorem ne_settings_skew : (("settings" : Str) = "skew") = False := eq_false (by decide +kernel)
@[simp] theorem ne_skew_families : (("skew" : Str) = "families") = False := eq_false (by decide +kernel)
@[simp] theorem ne_skew_numbers : (("skew" : Str) = "numbers") = False := eq_false (by decide +kernel)
@[simp] theorem ne_skew_settings : (("skew" : Str) = "settings") = False := eq_false (by decide +kernel)
@[simp] theorem ne_width_height : (("width" : Str) = "height") = False := eq_false (by decide +kernel)
@[simp] theorem ne_width_depth : (("width" : Str) = "depth") = False := eq_false (by decide +kernel)
@[simp] theorem ne_width_marks : (("width" : Str) = "marks") = False := eq_false (by decide +kernel)
@[simp] theorem ne_height_width : (("height" : Str) = "width") = False := eq_false (by decide +kernel)
@[simp] theorem ne_height_depth : (("height" : Str) = "depth") = False := eq_false (by decide +kernel)
@[simp] theorem ne_height_marks : (("height" : Str) = "marks") = False := eq_false (by decide +kernel)
@[simp] theorem ne_depth_width : (("depth" : Str) = "width") = False := eq_false (by decide +kernel)
@[simp] theorem ne_depth_height : (("depth" : Str) = "height") = False := eq_false (by decide +kernel)
@[simp] theorem ne_depth_marks : (("depth" : Str) = "marks") = False := eq_false (by decide +kernel)
@[simp] theorem ne_marks_width : (("marks" : Str) = "width") = False := eq_false (by decide +kernel)
@[simp] theorem ne_marks_height : (("marks" : Str) = "height") = False := eq_false (by decide +kernel)
@[simp] theorem ne_marks_depth : (("marks" : Str) = "depth") = False := eq_false (by decide +kernel)
@[simp] theorem ex_obj {α β : Type} {y : α} {e : β} {R : α → β → Prop} : (∃ x fs, (y = x ∧ e = fs) ∧ R x fs) = R y e := by
  apply propext
  constructor
  · rintro ⟨x, fs, ⟨rfl, rfl⟩, r⟩; exact r
  · exact fun r => ⟨y, e, ⟨rfl, rfl⟩, r⟩
@[simp] theorem ex_obj' {α β : Type} {y : α} {e : β} {R : α → β → Prop} : (∃ x fs, (y = x ∧ fs = e) ∧ R x fs) = R y e := by
  apply propext
  constructor
  · rintro ⟨x, fs, ⟨rfl, rfl⟩, r⟩; exact r
  · exact fun r => ⟨y, e, ⟨rfl, rfl⟩, r⟩
@[simp] theorem nb_kept__families : (("kept" : Str) == "_families") = false := by decide +kernel
@[simp] theorem nb_kept__numbers : (("kept" : Str) == "_numbers") = false := by decide +kernel
@[simp] theorem nb_kept__settings : (("kept" : Str) == "_settings") = false := by decide +kernel
@[simp] theorem nb_kept__skew : (("kept" : Str) == "_skew") = false := by decide +kernel
@[simp] theorem nb_kept_remembers : (("kept" : Str) == "remembers") = false := by decide +kernel
@[simp] theorem nb__families_kept : (("_families" : Str) == "kept") = false := by decide +kernel
@[simp] theorem nb__families__numbers : (("_families" : Str) == "_numbers") = false := by decide +kernel
@[simp] theorem nb__families__settings : (("_families" : Str) == "_settings") = false := by decide +kernel
@[simp] theorem nb__families__skew : (("_families" : Str) == "_skew") = false := by decide +kernel
@[simp] theorem nb__families_remembers : (("_families" : Str) == "remembers") = false := by decide +kernel
@[simp] theorem nb__numbers_kept : (("_numbers" : Str) == "kept") = false := by decide +kernel
@[simp] theorem nb__numbers__families : (("_numbers" : Str) == "_families") = false := by decide +kernel
@[simp] theorem nb__numbers__settings : (("_numbers" : Str) == "_settings") = false := by decide +kernel
@[simp] theorem nb__numbers__skew : (("_numbers" : Str) == "_skew") = false := by decide +kernel
@[simp] theorem nb__numbers_remembers : (("_numbers" : Str) == "remembers") = false := by decide +kernel
@[simp] theorem nb__settings_kept : (("_settings" : Str) == "kept") = false := by decide +kernel
@[simp] theorem nb__settings__families : (("_settings" : Str) == "_families") = false := by decide +kernel
@[simp] theorem nb__settings__numbers : (("_settings" : Str) == "_numbers") = false := by decide +kernel
@[simp] theorem nb__settings__skew : (("_settings" : Str) == "_skew") = false := by decide +kernel
@[simp] theorem nb__settings_remembers : (("_settings" : Str) == "remembers") = false := by decide +kernel
@[simp] theorem nb__skew_kept : (("_skew" : Str) == "kept") = false := by decide +kernel
@[simp] theorem nb__skew__families : (("_skew" : Str) == "_families") = false := by decide +kernel
@[simp] theorem nb__skew__numbers : (("_skew" : Str) == "_numbers") = false := by decide +kernel
@[simp] theorem nb__skew__settings : (("_skew" : Str) == "_settings") = false := by decide +kernel
@[simp] theorem nb__skew_remembers : (("_skew" : Str) == "remembers") = false := by decide +kernel
@[simp] theorem nb_remembers_kept : (("remembers" : Str) == "kept") = false := by decide +kernel
@[simp] theorem nb_remembers__families : (("remembers" : Str) == "_families") = false := by decide +kernel
@[simp] theorem nb_remembers__numbers : (("remembers" : Str) == "_numbers") = false := by decide +kernel
@[simp] theorem nb_remembers__settings : (("remembers" : Str) == "_settings") = false := by decide +kernel
@[simp] theorem nb_remembers__skew : (("remembers" : Str) == "_skew") = false := by decide +kernel
@[simp] theorem nb_families_numbers : (("families" : Str) == "numbers") = false := by decide +kernel
@[simp] theorem nb_families_settings : (("families" : Str) == "settings") = false := by decide +kernel
@[simp] theorem nb_families_skew : (("families" : Str) == "skew") = false := by decide +kernel
@[simp] theorem nb_numbers_families : (("numbers" : Str) == "families") = false := by decide +kernel
@[simp] theorem nb_numbers_settings : (("numbers" : Str) == "settings") = false := by decide +kernel
@[simp] theorem nb_numbers_skew : (("numbers" : Str) == "skew") = false := by decide +kernel
@[simp] theorem nb_settings_families : (("settings" : Str) == "families") = false := by decide +kernel
@[simp] theorem nb_settings_numbers : (("settings" : Str) == "numbers") = false := by decide +kernel
@[simp] theorem nb_settings_skew : (("settings" : Str) == "skew") = false := by decide +kernel
@[simp] theorem nb_skew_families : (("skew" : Str) == "families") = false := by decide +kernel
@[simp] theorem nb_skew_numbers : (("skew" : Str) == "numbers") = false := by decide +kernel
@[simp] theorem nb_skew_settings : (("skew" : Str) == "settings") = false := by decide +kernel
@[simp] theorem nb_width_height : (("width" : Str) == "height") = false := by decide +kernel
@[simp] theorem nb_width_depth : (("width" : Str) == "depth") = false := by decide +kernel
@[simp] theorem nb_width_marks : (("width" : Str) == "marks") = false := by decide +kernel
@[simp] theorem nb_height_width : (("height" : Str) == "width") = false := by decide +kernel
@[simp] theorem nb_height_depth : (("height" : Str) == "depth") = false := by decide +kernel
@[simp] theorem nb_height_marks : (("height" : Str) == "marks") = false := by decide +kernel
@[simp] theorem nb_depth_width : (("depth" : Str) == "width") = false := by decide +kernel
@[simp] theorem nb_depth_height : (("depth" : Str) == "height") = false := by decide +kernel
@[simp] theorem nb_depth_marks : (("depth" : Str) == "marks") = false := by decide +kernel
@[simp] theorem nb_marks_width : (("marks" : Str) == "width") = false := by decide +kernel
@[simp] theorem nb_marks_height : (("marks" : Str) == "height") = false := by decide +kernel
@[simp] theorem nb_marks_depth : (("marks" : Str) == "depth") = false := by decide +kernel
end MB
set_option Elab.async false
set_option linter.all false
set_option maxRecDepth 100000
set_option maxHeartbeats 4000000
set_option autoImplicit false
namespace MB
open PySem L2 DL
variable {A : Ads} {W : Option Addr} {P : D → Prop} {PO : OD → Prop}
@[simp] theorem dYes_eq {ρ : List Sl} {P : Bool → Prop} : dYes ρ P = P true := rfl
@[simp] theorem lt_sz {n : Nat} (h : n ≤ 1000) : (n < sizeLine) = True := eq_true (lt_line h)
@[simp] theorem le_sz {n : Nat} (h : n ≤ 1000) : (n ≤ sizeLine) = True := eq_true (Nat.le_of_lt (lt_line h))
@[simp] theorem dComp_nil {set : DG} {tt : DT} {de : DE} {ρ : List Sl} {acc : List D} {P : List D → Prop} : dComp set tt de ρ [] acc P = P acc := rfl
/-! tables of numbers -/
/-! the law's own helpers -/
end MB
set_option Elab.async false
set_option linter.all false
set_option maxRecDepth 100000
set_option maxHeartbeats 4000000
set_option autoImplicit false
namespace MB
open PySem L2 DL
variable {A : Ads} {W : Option Addr} {P : D → Prop} {PO : OD → Prop}
@[simp] theorem mul_1 {i : Int} : IntMulOk i 48271 = True := eq_true (mulOk_right (by decide) (by decide))
@[simp] theorem mul_2 {i : Int} : IntMulOk 30103 i = True := eq_true (mulOk_left (by decide) (by decide))
@[simp] theorem mul_3 {i : Int} : IntMulOk 23 i = True := eq_true (mulOk_left (by decide) (by decide))
@[simp] theorem mul_4 {i : Int} : IntMulOk 6 i = True := eq_true (mulOk_left (by decide) (by decide))
theorem modOk {a n b : Int} (h : 0 < n) (h2 : n < 2 ^ 64) : IntMulOk (a % n) b := mulOk_left (by have := Int.emod_nonneg a (show n ≠ 0 by omega); omega) (by have := Int.emod_lt_of_pos a h; omega)
@[simp] theorem mul_5 {i j : Int} : IntMulOk (i % 2147483647) j = True := eq_true (modOk (by decide) (by decide))
@[simp] theorem mul_6 {i j : Int} : IntMulOk (i % 700) j = True := eq_true (modOk (by decide) (by decide))
@[simp] theorem mul_7 {i j : Int} : IntMulOk (i % 900) j = True := eq_true (modOk (by decide) (by decide))
@[simp] theorem pow_18 : CPow 10 18 = True := eq_true ⟨by decide, by decide, by decide⟩
@[simp] theorem pow_40 : CPow 10 40 = True := eq_true ⟨by decide, by decide, by decide⟩
/-- numbers from 0 to 1008 -/
def digs (l : List Int) : Prop := ∀ i ∈ l, 0 ≤ i ∧ i < 1009
end MB
set_option Elab.async false
set_option linter.all false
set_option maxRecDepth 100000
set_option maxHeartbeats 4000000
set_option autoImplicit false
namespace MB
open PySem L2 DL
variable {A : Ads} {W : Option Addr} {P : D → Prop} {PO : OD → Prop}
def lim40 : Int := 10000000000000000000000000000000000000000
theorem mul_grow {a g : Int} {n : Int} (h0 : 0 ≤ a) (h1 : a ≤ n) (g0 : 0 ≤ g) (g1 : g ≤ lim40) (hn : n ≤ 2000) : 0 ≤ a * g ∧ a * g ≤ 2000 * lim40 ∧ IntMulOk a g := by
  refine ⟨Int.mul_nonneg h0 g0, ?_, mulOk_left (by omega) (by omega)⟩
  exact Int.mul_le_mul (by omega) g1 g0 (by decide)
def bnd : Int := 100000000000000000000000000000000000000000000
/-- a small number -/
def smD (d : D) : Prop := ∀ n, d = .int n → n ≤ bnd
def smT (t : Tab) : Prop := ∀ p ∈ t, smD p.2
def smF (x : FN) : Prop := ∀ t ∈ x.ts, smT t
end MB
set_option Elab.async false
set_option linter.all false
set_option maxRecDepth 100000
set_option maxHeartbeats 4000000
set_option autoImplicit false
namespace MB
open PySem L2 DL
variable {A : Ads} {W : Option Addr} {P : D → Prop} {PO : OD → Prop}
theorem pick2 {x y : Int} {c : Prop} [Decidable c] : ∃ v : Int, atI [D.int x, D.int y] (if c then 1 else 0) = some (.int v) ∧ (v = x ∨ v = y) := by
  by_cases h : c
  · rw [if_pos h]; exact ⟨y, at_1, .inr rfl⟩
  · rw [if_neg h]; exact ⟨x, at_0, .inl rfl⟩
theorem pick4' {x y z u s : Int} : ∃ v : Int, atI [D.int x, D.int y, D.int z, D.int u] (s % 4) = some (.int v) ∧ (v = x ∨ v = y ∨ v = z ∨ v = u) := by
  have h4 : s % 4 = 0 ∨ s % 4 = 1 ∨ s % 4 = 2 ∨ s % 4 = 3 := by omega
  rcases h4 with e | e | e | e <;> rw [e]
  · exact ⟨x, at_0, by omega⟩
  · exact ⟨y, at_1, by omega⟩
  · exact ⟨z, at_2, by omega⟩
  · exact ⟨u, at_3, by omega⟩
def inB (n i : Int) : Prop := -n ≤ i ∧ i ≤ n
/-- a mark as it should be, of small numbers -/
structure smM (m : D) : Prop where
  ok : okM m
  fin : m.fin = true
  dep : m.dep ≤ 5
/-- a box as it should be, its numbers small -/
structure smB (b : B) : Prop where
  w : inB bnd b.w
  h : inB bnd b.h
  d : inB bnd b.d
  l : b.ms.length ≤ 1000
  m : ∀ t ∈ b.ms, inB 100 t.1 ∧ inB 100 t.2.1 ∧ smM t.2.2
theorem fin_rule : D.fin (.str "rule") = true := by decide +kernel
theorem fin_glyph : D.fin (.str "glyph") = true := by decide +kernel
theorem fin_x : D.fin (.str "x") = true := by decide +kernel
theorem fin_int {i : Int} (h : inB bnd i) : D.fin (.int i) = true := by
  have := h.1
  have := h.2
  have : bnd = 100000000000000000000000000000000000000000000 := rfl
  simp only [D.fin, Bool.and_eq_true, decide_eq_true_eq]
  omega
theorem inB_of {i : Int} (h : -1000000 ≤ i ∧ i ≤ 1000000) : inB bnd i := by
  have : bnd = 100000000000000000000000000000000000000000000 := rfl
  unfold inB
  omega
theorem sm_rule {k : Nat} {w : Int} (hk : k < 4) (hw : inB bnd w) : smM (ruleD [(k : Int), 1] w 5) := by
  have e : bnd = 100000000000000000000000000000000000000000000 := rfl
  have e2 : lim = 1000000000000000000000000000000000000000000000000000000000000 := rfl
  have := hw.1
  have := hw.2
  refine ⟨.rule ?_ (by simp) ⟨by omega, by omega⟩ ⟨by omega, by omega⟩, ?_, ?_⟩
  · intro i hi
    simp at hi
    omega
  · simp [ruleD, pD, D.fin.eq_def (.tup _), D.finL, fin_rule, fin_int hw, fin_int (inB_of (i := (k : Int)) (by omega)), fin_int (inB_of (i := 1) (by omega)), fin_int (inB_of (i := 5) (by omega))]
  · simp [ruleD, pD, D.dep, D.depL]
theorem x_name : nameB "x" = true := by decide +kernel
theorem sm_glyph {k : Nat} {z : Int} (hk : k < 4) (h0 : 0 ≤ z) (h1 : z ≤ 2) : smM (glyphD [(k : Int)] ((k : Int) % 4) z "x") := by
  refine ⟨.glyph ?_ (by simp) (by omega) ⟨h0, h1⟩ (by decide +kernel) x_name, ?_, ?_⟩
  · intro i hi
    simp at hi
    omega
  · simp [glyphD, pD, D.fin.eq_def (.tup _), D.finL, fin_glyph, fin_x, fin_int (inB_of (i := (k : Int)) (by omega)), fin_int (inB_of (i := (k : Int) % 4) (by omega)), fin_int (inB_of (i := z) (by omega))]
  · simp [glyphD, pD, D.dep, D.depL]
theorem three : (List.range (Int.toNat 3)).map (fun i : Nat => D.int (i : Int)) = [.int 0, .int 1, .int 2] := rfl
theorem c_law_box {l : List Int} (hl : 5 ≤ l.length) (hd : digs l) {g : Int} (g0 : 0 ≤ g) (g1 : g ≤ lim40) {k : Nat} (hk : k < 4) (p : ∀ b : B, smB b → inB (bnd - 1) b.h → b.ms.length ≤ 2 → P (bD A b)) : cl (G__law_box A) W [.lst (l.map D.int), .int g, .int (k : Int)] P := cl_of ⟨rfl, by
  obtain ⟨a0, a1, a2, a3, a4, r, rfl⟩ : ∃ a0 a1 a2 a3 a4 r, l = a0 :: a1 :: a2 :: a3 :: a4 :: r := by
    match l, hl with
    | a0 :: a1 :: a2 :: a3 :: a4 :: r, _ => exact ⟨_, _, _, _, _, _, rfl⟩
  simp only [w__law_box, slots0]
  obtain ⟨w0, w1, w2⟩ := mul_grow (a := a0 % 700) (n := 700) (by omega) (by omega) g0 g1 (by decide)
  obtain ⟨h0, h1, h2⟩ := mul_grow (a := a1 % 700) (n := 700) (by omega) (by omega) g0 g1 (by decide)
  obtain ⟨d0, d1, d2⟩ := mul_grow (a := a2 % 700) (n := 700) (by omega) (by omega) g0 g1 (by decide)
  refine ⟨3, rfl, by decide, by decide, lt_line (by decide), ?_⟩
  rw [three]
  simp [dComp, seqD]
  have q1 := pick2 (x := a0 % 700 * g) (y := -(a0 % 700 * g / 3)) (c := a1 % 8 = 0)
  have q2 := pick2 (x := a1 % 700 * g) (y := -(a1 % 700 * g / 4)) (c := a3 % 9 = 1)
  have q3 := pick4' (x := a2 % 700 * g) (y := a2 % 700 * g / 2) (z := -(a2 % 700 * g / 5)) (u := 0) (s := a3 % 9)
  generalize a0 % 700 * g = x0 at *
  generalize a1 % 700 * g = x1 at *
  generalize a2 % 700 * g = x2 at *
  obtain ⟨v1, e1, b1⟩ := q1
  obtain ⟨v2, e2, b2⟩ := q2
  obtain ⟨v3, e3, b3⟩ := q3
  refine ⟨_, e1, _, e2, _, e3, ?_⟩
  simp
  have el : lim40 = 10000000000000000000000000000000000000000 := rfl
  have eb : bnd = 100000000000000000000000000000000000000000000 := rfl
  have i1 : inB bnd v1 := by unfold inB; omega
  have i2 : inB bnd v2 := by unfold inB; omega
  have i3 : inB bnd v3 := by unfold inB; omega
  have i4 : inB bnd (v1 / 2) := by unfold inB; omega
  refine frz_Box (ms := [(a4 % 9, a3 % 7 - 3, ruleD [(k : Int), 1] (v1 / 2) 5), (0, 0, glyphD [(k : Int)] ((k : Int) % 4) (a4 % 3) "x")]) (p _ ⟨i1, i2, i3, by simp, ?_⟩ (by unfold inB; simp only; omega) (by simp))
  intro t ht
  simp at ht
  rcases ht with rfl | rfl
  · exact ⟨by unfold inB; simp only; omega, by unfold inB; simp only; omega, sm_rule hk i4⟩
  · exact ⟨by unfold inB; simp only; omega, by unfold inB; simp only; omega, sm_glyph hk (by omega) (by omega)⟩⟩
end MB
set_option Elab.async false
set_option linter.all false
set_option maxRecDepth 100000
set_option maxHeartbeats 4000000
set_option autoImplicit false
namespace MB
open PySem L2 DL
variable {A : Ads} {W : Option Addr} {P : D → Prop} {PO : OD → Prop}
/-! fonts with another number -/
theorem num_bnd {x : FN} (h : okF x) (s : smF x) {k : Nat} {w : Str} (hk : k < 3) (hw : w ∈ NW) : 0 ≤ x.num k w ∧ x.num k w ≤ bnd := by
  obtain ⟨t, h1, h2, h3, _⟩ := num_get h hk hw
  refine ⟨h3, ?_⟩
  have ht : t ∈ x.ts := List.mem_of_getElem? h1
  have hm : (Sum.inr w : Key) ∈ t.map (·.1) := by rw [(h.ts t ht).ks]; exact List.mem_map.mpr ⟨w, hw, rfl⟩
  obtain ⟨d, e, hd⟩ := getK_mem hm
  rw [h2] at e
  cases e
  exact s t ht _ hd _ rfl
/-! boxes on the axis -/
end MB
set_option Elab.async false
set_option linter.all false
set_option maxRecDepth 100000
set_option maxHeartbeats 4000000
set_option autoImplicit false
namespace MB
open PySem L2 DL
/-! boxes that differ -/
end MB
set_option Elab.async false
set_option linter.all false
set_option maxRecDepth 100000
set_option maxHeartbeats 4000000
set_option autoImplicit false
namespace MB
open PySem L2 DL
variable {A : Ads} {W : Option Addr} {P : D → Prop} {PO : OD → Prop}
/-- what stands in a part's marks: a box at a place, or a mark -/
inductive PM where
  | bx (x y : Int) (b : B)
  | mk (t : M3)
def PM.ds (A : Ads) : PM → D
  | .bx x y b => .tup [.int x, .int y, bD A b]
  | .mk t => mD t
def PM.fl : PM → List M3
  | .bx x y b => b.ms.map (mv x y)
  | .mk t => [t]
def PM.ok : PM → Prop
  | .bx _ _ _ => True
  | .mk t => ∃ l, t.2.2 = .tup l
structure Pt where
  w : Int
  h : Int
  d : Int
  ms : List PM
def ptF (A : Ads) (p : Pt) : List (Str × D) := [("width", .int p.w), ("height", .int p.h), ("depth", .int p.d), ("marks", .lst (p.ms.map (PM.ds A)))]
def ptD (A : Ads) (p : Pt) : D := .ins A.Part (ptF A p)
def Pt.bx (p : Pt) : B := ⟨p.w, p.h, p.d, p.ms.flatMap PM.fl⟩
section
variable {p : Pt}
theorem lkp_w : List.lookup ("width" : Str) (ptF A p) = some (.int p.w) := lk_hit
theorem lkp_h : List.lookup ("height" : Str) (ptF A p) = some (.int p.h) := by unfold ptF; rw [lk_skip (by decide +kernel), lk_hit]
theorem lkp_d : List.lookup ("depth" : Str) (ptF A p) = some (.int p.d) := by unfold ptF; rw [lk_skip (by decide +kernel), lk_skip (by decide +kernel), lk_hit]
theorem lkp_m : List.lookup ("marks" : Str) (ptF A p) = some (.lst (p.ms.map (PM.ds A))) := by unfold ptF; rw [lk_skip (by decide +kernel), lk_skip (by decide +kernel), lk_skip (by decide +kernel), lk_hit]
@[simp] theorem eFp_w : eF A.Part "width" (ptD A p) P = P (.int p.w) := eF_of lkp_w
@[simp] theorem eFp_h : eF A.Part "height" (ptD A p) P = P (.int p.h) := eF_of lkp_h
@[simp] theorem eFp_d : eF A.Part "depth" (ptD A p) P = P (.int p.d) := eF_of lkp_d
@[simp] theorem eFp_m : eF A.Part "marks" (ptD A p) P = P (.lst (p.ms.map (PM.ds A))) := eF_of lkp_m
end
end MB
set_option Elab.async false
set_option linter.all false
set_option maxRecDepth 100000
set_option maxHeartbeats 4000000
set_option autoImplicit false
namespace MB
open PySem L2 DL
variable {A : Ads} {W : Option Addr} {P : D → Prop} {PO : OD → Prop}
/-- a box of numbers up to n times as great -/
structure bgB (n : Int) (b : B) : Prop where
  w : inB n b.w
  h : inB n b.h
  d : inB n b.d
  l : b.ms.length ≤ 100
  m : ∀ t ∈ b.ms, inB n t.1 ∧ inB n t.2.1 ∧ smM t.2.2
theorem bg_ok {b : B} (h : bgB bnd b) : okB b := by
  have eb : bnd = 100000000000000000000000000000000000000000000 := rfl
  have e2 : lim = 1000000000000000000000000000000000000000000000000000000000000 := rfl
  have w := h.w
  have hh := h.h
  have d := h.d
  unfold inB at w hh d
  refine ⟨by unfold inL; omega, by unfold inL; omega, by unfold inL; omega, by have := h.l; omega, fun t ht => ?_⟩
  obtain ⟨a, b, c⟩ := h.m t ht
  unfold inB at a b
  exact ⟨by unfold inL; omega, by unfold inL; omega, c.ok⟩
theorem sIx_at {n d : Nat} {i : Int} (h0 : 0 ≤ i) (h : i ≤ n) : HT.sIx n d (some i) = i.toNat := by
  simp only [HT.sIx]
  rw [if_neg (by omega)]
  omega
@[simp] theorem mulc_2 {i : Int} : IntMulOk 2 i = True := eq_true (mulOk_left (by decide) (by decide))
@[simp] theorem mulc_3 {i : Int} : IntMulOk 3 i = True := eq_true (mulOk_left (by decide) (by decide))
@[simp] theorem mulc_5 {i : Int} : IntMulOk 5 i = True := eq_true (mulOk_left (by decide) (by decide))
@[simp] theorem mulc_7 {i : Int} : IntMulOk 7 i = True := eq_true (mulOk_left (by decide) (by decide))
@[simp] theorem mulc_8 {i : Int} : IntMulOk 8 i = True := eq_true (mulOk_left (by decide) (by decide))
@[simp] theorem mulc_9 {i : Int} : IntMulOk 9 i = True := eq_true (mulOk_left (by decide) (by decide))
@[simp] theorem mulc_10 {i : Int} : IntMulOk 10 i = True := eq_true (mulOk_left (by decide) (by decide))
@[simp] theorem mulc_11 {i : Int} : IntMulOk 11 i = True := eq_true (mulOk_left (by decide) (by decide))
@[simp] theorem mulc_13 {i : Int} : IntMulOk 13 i = True := eq_true (mulOk_left (by decide) (by decide))
@[simp] theorem mulc_14 {i : Int} : IntMulOk 14 i = True := eq_true (mulOk_left (by decide) (by decide))
@[simp] theorem mulc_15 {i : Int} : IntMulOk 15 i = True := eq_true (mulOk_left (by decide) (by decide))
@[simp] theorem mulc_16 {i : Int} : IntMulOk 16 i = True := eq_true (mulOk_left (by decide) (by decide))
@[simp] theorem mulc_20 {i : Int} : IntMulOk 20 i = True := eq_true (mulOk_left (by decide) (by decide))
@[simp] theorem mulc_40 {i : Int} : IntMulOk 40 i = True := eq_true (mulOk_left (by decide) (by decide))
@[simp] theorem mulc_100 {i : Int} : IntMulOk 100 i = True := eq_true (mulOk_left (by decide) (by decide))
@[simp] theorem mulc_500 {i : Int} : IntMulOk 500 i = True := eq_true (mulOk_left (by decide) (by decide))
end MB
set_option Elab.async false
set_option linter.all false
set_option maxRecDepth 100000
set_option maxHeartbeats 4000000
set_option autoImplicit false
namespace MB
open PySem L2 DL
end MB
set_option Elab.async false
set_option linter.all false
set_option maxRecDepth 100000
set_option maxHeartbeats 4000000
set_option autoImplicit false
namespace MB
open PySem L2 DL
end MB
set_option Elab.async false
set_option linter.all false
set_option maxRecDepth 100000
set_option maxHeartbeats 4000000
set_option autoImplicit false
/-! scripts, over data -/
namespace MB
open PySem L2 DL
variable {A : Ads} {W : Option Addr} {P : D → Prop} {PO : OD → Prop}
section
variable {x : FN} {R : Prop}
theorem meth_eq' {m : Str} (h : (fnF A x).lookup m = none) : (∃ fs, fD A x = D.ins A.Fonts fs ∧ (∀ (a : Str) (b : D), (a, b) ∈ fs → ¬ m = a) ∧ R) = R := by
  apply propext
  constructor
  · rintro ⟨_, _, _, r⟩; exact r
  · intro r; exact ⟨_, rfl, by simpa using h, r⟩
@[simp] theorem m_number_of : (∃ fs, fD A x = D.ins A.Fonts fs ∧ (∀ (a : Str) (b : D), (a, b) ∈ fs → ¬ Str.ofString "number_of" = a) ∧ R) = R := meth_eq' no_number_of
@[simp] theorem m_setting_of : (∃ fs, fD A x = D.ins A.Fonts fs ∧ (∀ (a : Str) (b : D), (a, b) ∈ fs → ¬ Str.ofString "setting_of" = a) ∧ R) = R := meth_eq' no_setting_of
@[simp] theorem m_greatest : (∃ fs, fD A x = D.ins A.Fonts fs ∧ (∀ (a : Str) (b : D), (a, b) ∈ fs → ¬ Str.ofString "greatest" = a) ∧ R) = R := meth_eq' no_greatest
@[simp] theorem m_reaches : (∃ fs, fD A x = D.ins A.Fonts fs ∧ (∀ (a : Str) (b : D), (a, b) ∈ fs → ¬ Str.ofString "reaches" = a) ∧ R) = R := meth_eq' no_reaches
end
@[simp] theorem mul_c4i {i : Int} : IntMulOk 4 i = True := eq_true (mulOk_left (by decide) (by decide))
/-- a box, or none -/
def oD (A : Ads) : Option B → D
  | none => .non
  | some b => bD A b
@[simp] theorem oD_none : oD A none = .non := rfl
@[simp] theorem oD_some {b : B} : oD A (some b) = bD A b := rfl
@[simp] theorem isNon_bD {b : B} : D.isNon (bD A b) = false := rfl
@[simp] theorem isNon_int {i : Int} : D.isNon (.int i) = false := rfl
@[simp] theorem isNon_str {i : Str} : D.isNon (.str i) = false := rfl
end MB
set_option Elab.async false
set_option linter.all false
set_option maxRecDepth 100000
set_option maxHeartbeats 4000000
set_option autoImplicit false
/-! boxes with scripts, over data -/
namespace MB
open PySem L2 DL
variable {A : Ads} {W : Option Addr} {P : D → Prop} {PO : OD → Prop}
@[simp] theorem ex_obj3 {α β γ : Type} {a : α} {b : β} {c : γ} {R : α → β → γ → Prop} : (∃ x y z, (a = x ∧ b = y ∧ c = z) ∧ R x y z) = R a b c := by
  apply propext
  constructor
  · rintro ⟨x, y, z, ⟨rfl, rfl, rfl⟩, r⟩; exact r
  · exact fun r => ⟨a, b, c, ⟨rfl, rfl, rfl⟩, r⟩
@[simp] theorem isNon_oD {b : Option B} : D.isNon (oD A b) = b.isNone := by cases b <;> rfl
def okO (b : Option B) : Prop := ∀ c, b = some c → okB c
end MB
set_option Elab.async false
set_option linter.all false
set_option maxRecDepth 100000
set_option maxHeartbeats 4000000
set_option autoImplicit false
/-! limits, over data -/
namespace MB
open PySem L2 DL
end MB
set_option Elab.async false
set_option linter.all false
set_option maxRecDepth 100000
set_option maxHeartbeats 4000000
set_option autoImplicit false
namespace MG
open PySem L2 DL MB
variable {A : Ads} {W : Option Addr} {wa : Addr} {P : D → Prop} {PO : OD → Prop}
theorem cd1021 {i : Int} : CDivW i 1021 = True := cdL (n := 1021) (by decide) (by decide)
theorem cd2011 {i : Int} : CDivW i 2011 = True := cdL (n := 2011) (by decide) (by decide)
theorem cdBig {i : Int} : CDivW i 2147483629 = True := cdL (n := 2147483629) (by decide) (by decide)
theorem g_law_mix {i j : Int} {P : D → Prop} (p : ∀ n, P (.int n)) : G__law_mix A W [.int i, .int j] P noX := ⟨rfl, by
  have m1 : IntMulOk 41117 j := mulOk_left (by decide) (by decide)
  have m2 : ∀ a, IntMulOk a 48271 := fun a => mulOk_right (by decide) (by decide)
  have m3 : ∀ a b, IntMulOk (a % 2147483629) b := fun a b => modOk (by decide) (by decide)
  have m4 : ∀ a b, IntMulOk (a % 2147483587) b := fun a b => modOk (by decide) (by decide)
  simp only [w__law_mix, slots0]
  simp [cd1021, cd2011, cdBig, m1, m2, m3, m4]
  exact p _⟩
theorem c_law_draw {many : Int} (hW : W = some wa) (p : ∀ n, 0 ≤ n → n < many → P (.int n)) (h0 : 0 < many := by decide) (h1 : many < 2000 := by decide) : cl (G__law_draw A) W [.adr wa, .int many] P := cl_of ⟨wa, many, rfl, hW, h0, by omega, p⟩
theorem c_law_pick {l : List D} (hW : W = some wa) (h0 : 0 < l.length) (h1 : l.length < 1000) (p : ∀ d ∈ l, P d) : cl (G__law_pick A) W [.adr wa, .lst l] P := cl_of ⟨rfl, by
  simp only [w__law_pick, slots0]
  simp
  refine c_law_draw hW (fun n n0 n1 => ?_) (by omega) (by omega)
  have hn : n.toNat < l.length := by omega
  refine fIx_lst.mpr ⟨l[n.toNat], ?_, p _ (List.getElem_mem _)⟩
  have := atI_nat (xs := l) (j := n.toNat) (List.getElem?_eq_getElem hn)
  rwa [Int.toNat_of_nonneg n0] at this⟩
theorem c_law_number (hW : W = some wa) (p : ∀ n, inB lim40 n → P (.int n)) : cl (G__law_number A) W [.adr wa] P := cl_of ⟨rfl, by
  have e : lim40 = 10000000000000000000000000000000000000000 := rfl
  simp only [w__law_number, slots0]
  simp
  refine c_law_draw hW fun n a b => ?_
  refine c_law_draw hW fun m c d => ?_
  simp
  refine c_law_pick hW (by simp) (by simp) fun d hd => ?_
  simp at hd
  rcases hd with rfl | rfl | rfl | rfl | rfl | rfl | rfl | rfl | rfl <;> exact p _ (by unfold inB; omega)⟩
/-- comprehensions that draw -/
theorem dComp_rel {set : DG} {de : DE} {ρ : List Sl} (R : D → Prop) : ∀ (xs : List D) (_ : ∀ x ∈ xs, ∀ Q : D → Prop, (∀ y, R y → Q y) → ∃ ρ1, set x ρ = some ρ1 ∧ de ρ1 Q) (acc : List D) (P : List D → Prop), (∀ ys : List D, ys.length = xs.length → (∀ y ∈ ys, R y) → P (acc ++ ys)) → dComp set dYes de ρ xs acc P
  | [], _, acc, P, p => by simpa [dComp] using p [] rfl (fun _ h => nomatch h)
  | x :: r, h, acc, P, p => by
    obtain ⟨ρ1, e, q⟩ := h x List.mem_cons_self (fun y => dComp set dYes de ρ r (acc ++ [y]) P) fun y hy => dComp_rel R r (fun z hz => h z (List.mem_cons_of_mem _ hz)) _ P fun ys hl hys => by
      have := p (y :: ys) (by simp [hl]) (fun z hz => by
        rcases List.mem_cons.mp hz with rfl | hz
        · exact hy
        · exact hys z hz)
      simpa using this
    exact ⟨ρ1, e, by simpa [dYes] using q⟩
theorem of_all {α : Type} {R : α → Prop} {g : α → D} : ∀ ys : List D, (∀ y ∈ ys, ∃ i, y = g i ∧ R i) → ∃ sp : List α, ys = sp.map g ∧ ∀ i ∈ sp, R i
  | [], _ => ⟨[], rfl, fun _ h => nomatch h⟩
  | y :: r, h => by
    obtain ⟨i, rfl, hi⟩ := h y List.mem_cons_self
    obtain ⟨sp, rfl, hs⟩ := of_all r fun z hz => h z (List.mem_cons_of_mem _ hz)
    exact ⟨i :: sp, rfl, fun j hj => by
      rcases List.mem_cons.mp hj with rfl | hj
      · exact hi
      · exact hs j hj⟩
/-- a mark as laws draw it -/
structure lwM (m : D) : Prop where
  sm : smM m
  wt : m.wt ≤ 1100
def spots (sp : List Int) : Prop := sp.length ≤ 3 ∧ ∀ i ∈ sp, 0 ≤ i ∧ i < 3
theorem sp_wt {sp : List Int} (h : spots sp) : D.wtL (sp.map D.int) ≤ 573 := by
  refine Nat.le_trans (wtL_le (n := 190) fun x hx => ?_) ?_
  · obtain ⟨i, hi, rfl⟩ := List.mem_map.mp hx
    exact Nat.le_refl _
  · have := h.1
    simp only [List.length_map]
    omega
theorem sp_dep {sp : List Int} : D.depL (sp.map D.int) ≤ 0 := depL_le fun x hx => by
  obtain ⟨i, hi, rfl⟩ := List.mem_map.mp hx
  exact Nat.le_refl _
theorem sp_fin {sp : List Int} (h : spots sp) : D.finL (sp.map D.int) = true := finL_all.mpr fun x hx => by
  obtain ⟨i, hi, rfl⟩ := List.mem_map.mp hx
  have := h.2 i hi
  exact MB.fin_int (inB_of (by omega))
theorem num_bnd {n : Int} (h : inB lim40 n) : inB bnd n := by
  have e : bnd = 100000000000000000000000000000000000000000000 := rfl
  have e2 : lim40 = 10000000000000000000000000000000000000000 := rfl
  unfold inB at *
  omega
theorem num_lim {n : Int} (h : inB bnd n) : inL n := by
  have e : bnd = 100000000000000000000000000000000000000000000 := rfl
  have e2 : lim = 1000000000000000000000000000000000000000000000000000000000000 := rfl
  unfold inB at h
  unfold inL
  omega
theorem lw_rule {sp : List Int} {a b : Int} (h : spots sp) (ha : inB lim40 a) (hb : inB lim40 b) : lwM (.tup [.str "rule", .tup (sp.map D.int), .int a, .int b]) := by
  have h3 := sp_fin h
  have h4 := sp_wt h
  have h5 := sp_dep (sp := sp)
  refine ⟨⟨.rule (fun i hi => (h.2 i hi).1) (by have := h.1; omega) (num_lim (num_bnd ha)) (num_lim (num_bnd hb)), ?_, ?_⟩, ?_⟩
  · simp [D.fin.eq_def (.tup _), D.finL, fin_rule, MB.fin_int (num_bnd ha), MB.fin_int (num_bnd hb), h3]
  · simp only [D.dep, D.depL]
    omega
  · simp only [D.wt, D.wtL]
    omega
theorem strs3 : ∀ n ∈ (["x", "y", "sum"] : List Str), (D.str n).fin = true ∧ nameB n = true ∧ n.length ≤ 8 := by decide +kernel
theorem lw_glyph {sp : List Int} {f z : Int} {n : Str} (h : spots sp) (f0 : 0 ≤ f) (f4 : f < 4) (z0 : 0 ≤ z) (z3 : z < 3) (hn : n ∈ (["x", "y", "sum"] : List Str)) : lwM (.tup [.str "glyph", .tup (sp.map D.int), .int f, .int z, .str n]) := by
  obtain ⟨n1, n2, n3⟩ := strs3 n hn
  have h3 := sp_fin h
  have h4 := sp_wt h
  have h5 := sp_dep (sp := sp)
  refine ⟨⟨.glyph (fun i hi => (h.2 i hi).1) (by have := h.1; omega) ⟨f0, by omega⟩ ⟨z0, by omega⟩ n3 n2, ?_, ?_⟩, ?_⟩
  · simp [D.fin.eq_def (.tup _), D.finL, fin_glyph, MB.fin_int (inB_of (i := f) (by omega)), MB.fin_int (inB_of (i := z) (by omega)), h3, n1]
  · simp only [D.dep, D.depL]
    omega
  · simp only [D.wt, D.wtL]
    omega
def lwT (t : M3) : Prop := inB lim40 t.1 ∧ inB lim40 t.2.1 ∧ lwM t.2.2
structure lwB (b : B) : Prop where
  w : inB lim40 b.w
  h : inB lim40 b.h
  d : inB lim40 b.d
  l : b.ms.length ≤ 3
  m : ∀ t ∈ b.ms, lwT t
theorem c_law_mark (hW : W = some wa) (p : ∀ m, lwM m → P m) : cl (G__law_mark A) W [.adr wa] P := cl_of ⟨rfl, by
  simp only [w__law_mark, slots0]
  simp
  refine c_law_draw hW fun n n0 n4 => ?_
  simp
  have hs := lt_line (n := 4) (by omega)
  refine ⟨by omega, by omega, by omega, ?_⟩
  refine dComp_rel (fun d => ∃ i, d = .int i ∧ 0 ≤ i ∧ i < 3) _ ?_ [] _ fun ys hl hy => ?_
  · intro x hx Q q
    refine ⟨_, rfl, ?_⟩
    simp
    exact c_law_draw hW fun i i0 i3 => q _ ⟨i, rfl, i0, i3⟩
  obtain ⟨sp, rfl, hsp⟩ := of_all ys hy
  have hsp : spots sp := ⟨by simp at hl; omega, hsp⟩
  rw [List.nil_append]
  refine c_law_draw hW fun k k0 k3 => ?_
  rw [fEq_int]
  by_cases e : k = 0
  · refine .inr ⟨by simp [e], ?_⟩
    exact c_law_number hW fun x hx => c_law_number hW fun y hy => p _ (lw_rule hsp hx hy)
  · refine .inl ⟨by simp [e], ?_⟩
    refine c_law_draw hW fun f f0 f4 => c_law_draw hW fun z z0 z3 => c_law_pick hW (by simp) (by simp) fun d hd => ?_
    simp only [List.mem_cons, List.not_mem_nil, or_false] at hd
    rcases hd with rfl | rfl | rfl
    · exact p _ (lw_glyph hsp f0 f4 z0 z3 (n := "x") (by simp))
    · exact p _ (lw_glyph hsp f0 f4 z0 z3 (n := "y") (by simp))
    · exact p _ (lw_glyph hsp f0 f4 z0 z3 (n := "sum") (by simp))⟩
theorem c_law_marks (hW : W = some wa) (p : ∀ ms : List M3, ms.length ≤ 3 → (∀ t ∈ ms, lwT t) → P (.lst (ms.map mD))) : cl (G__law_marks A) W [.adr wa] P := cl_of ⟨rfl, by
  simp only [w__law_marks, slots0]
  simp
  refine c_law_draw hW fun n n0 n4 => ?_
  simp
  have hs := lt_line (n := 4) (by omega)
  refine ⟨by omega, by omega, by omega, ?_⟩
  refine dComp_rel (fun d => ∃ t, d = mD t ∧ lwT t) _ ?_ [] _ fun ys hl hy => ?_
  · intro x hx Q q
    refine ⟨_, rfl, ?_⟩
    simp
    exact c_law_number hW fun x hx => c_law_number hW fun y hy => c_law_mark hW fun m hm => q _ ⟨(x, y, m), rfl, hx, hy, hm⟩
  obtain ⟨ms, rfl, hms⟩ := of_all ys hy
  rw [List.nil_append]
  exact p ms (by simp at hl; omega) hms⟩
theorem c_law_box (hW : W = some wa) (p : ∀ b, lwB b → P (bD A b)) : cl (G__law_box A) W [.adr wa] P := cl_of ⟨rfl, by
  simp only [w__law_box, slots0]
  simp
  refine c_law_number hW fun a ha => ?_
  refine c_law_number hW fun b hb => ?_
  refine c_law_number hW fun c hc => ?_
  refine c_law_marks hW fun ms hl hm => ?_
  exact frz_Box (p _ ⟨ha, hb, hc, hl, hm⟩)⟩
def allD (b : B) : D := .tup [.int b.w, .int b.h, .int b.d, .lst (b.ms.map mD)]
@[simp] theorem c_law_all {b : B} : cl (G__law_all A) W [bD A b] P = P (allD b) := cl_eq fun P => by
  simp [G__law_all, gOf_eq, w__law_all, slots0, dFld_eq, allD]
theorem c_check_box {b : B} (h : okB b) (p : P .non) : cl (G_check_box A) W [bD A b] P := cl_of ⟨rfl, by
  simp only [w_check_box, slots0]
  simp
  refine c_wrong h ?_
  simp
  exact p⟩
theorem mt_fin {t : M3} (h : inB bnd t.1 ∧ inB bnd t.2.1 ∧ smM t.2.2) : (mD t).fin = true := by
  simp [mD, D.fin.eq_def (.tup _), D.finL, MB.fin_int h.1, MB.fin_int h.2.1, h.2.2.fin]
theorem mt_dep {t : M3} (h : smM t.2.2) : (mD t).dep ≤ 6 := by
  have := h.dep
  simp only [mD, D.dep, D.depL]
  omega
theorem all_fin {b : B} (h : bgB bnd b) : (allD b).fin = true := by
  have : D.finL (b.ms.map mD) = true := finL_all.mpr fun x hx => by
    obtain ⟨t, ht, rfl⟩ := List.mem_map.mp hx
    exact mt_fin (h.m t ht)
  simp [allD, D.fin.eq_def (.tup _), D.fin.eq_def (.lst _), D.finL, MB.fin_int h.w, MB.fin_int h.h, MB.fin_int h.d, this]
theorem all_dep {b : B} (h : bgB bnd b) : (allD b).dep ≤ 8 := by
  have : D.depL (b.ms.map mD) ≤ 6 := depL_le fun x hx => by
    obtain ⟨t, ht, rfl⟩ := List.mem_map.mp hx
    exact mt_dep (h.m t ht).2.2
  simp only [allD, D.dep, D.depL]
  omega
end MG
set_option Elab.async false
set_option linter.all false
set_option maxRecDepth 100000
set_option maxHeartbeats 4000000
set_option autoImplicit false
/-! items of ink, their order, where two lists part -/
namespace MG.K09
open PySem L2 DL MB
inductive It
  | rule (x y w h : Int)
  | glyph (x y f z : Int) (n : Str)
deriving DecidableEq
def itD : It → D
  | .rule x y w h => .tup [.int x, .int y, .str "rule", .int w, .int h]
  | .glyph x y f z n => .tup [.int x, .int y, .str "glyph", .int f, .int z, .str n]
def itP : It → PyData
  | .rule x y w h => .tuple [.int x, .int y, .str "rule", .int w, .int h]
  | .glyph x y f z n => .tuple [.int x, .int y, .str "glyph", .int f, .int z, .str n]
theorem it_py (t : It) : (itD t).py = some (itP t) := by cases t <;> rfl
theorem it_pyOf (t : It) : pyOf (itD t) = itP t := by unfold pyOf; rw [it_py]; rfl
def itK (t : It) : List (Int ⊕ List Nat) := PySem.W.keyToks (itP t)
def lt (s t : It) : Bool := PySem.W.dataLt (itP s) (itP t)
theorem words_ne : (("rule" : Str) == ("glyph" : Str)) = false ∧ (("glyph" : Str) == ("rule" : Str)) = false ∧ ("rule" : Str).cps.toList ≠ ("glyph" : Str).cps.toList := by decide +kernel
theorem key_inj {s t : It} (h : itK s = itK t) : s = t := by
  obtain ⟨_, _, n1⟩ := words_ne
  have ext : ∀ {x y : Str}, x.cps.toList = y.cps.toList → x = y := fun {x y} h => by
    cases x
    cases y
    simp_all
  cases s <;> cases t <;> simp only [itK, itP, PySem.W.keyToks, PySem.W.keyToksAll, List.cons_append, List.nil_append, List.cons.injEq, Sum.inl.injEq, Sum.inr.injEq, true_and, and_true] at h
  · obtain ⟨a, b, c, d⟩ := h
    simp [*]
  · exact absurd h.2.2.1 n1
  · exact absurd h.2.2.1.symm n1
  · obtain ⟨a, b, c, d, e⟩ := h
    rw [a, b, c, d, ext e]
theorem lt_irr (s : It) : lt s s = false := (PyProof.Rows.listOrd PyProof.Rows.itemOrd).irrefl (itK s)
theorem lt_trans {s t u : It} (h : lt s t = true) (k : lt t u = true) : lt s u = true := (PyProof.Rows.listOrd PyProof.Rows.itemOrd).trans (itK s) (itK t) (itK u) h k
theorem lt_tot {s t : It} (h : lt s t = false) (k : lt t s = false) : s = t := key_inj ((PyProof.Rows.listOrd PyProof.Rows.itemOrd).total (itK s) (itK t) h k)
theorem lt_asym {s t : It} (h : lt s t = true) : lt t s = false := by
  cases e : lt t s with
  | false => rfl
  | true => have := lt_trans h e; rw [lt_irr] at this; cases this
theorem it_eqv (s t : It) : (itP s).eqv (itP t) = decide (s = t) := by
  obtain ⟨n1, n2, _⟩ := words_ne
  rw [Bool.eq_iff_iff, decide_eq_true_iff]
  cases s <;> cases t <;> simp [itP, PyData.eqv, PyData.eqvAll, n1, n2]
/-- sorted -/
def le (s t : It) : Bool := !lt t s
def msort (l : List It) : List It := l.mergeSort le
theorem le_leZ (s t : It) : leZ pyOf (itD s) (itD t) = le s t := by
  show (bif false then true else !(PyProof.Rows.listOrd PyProof.Rows.itemOrd).blt (PySem.W.keyToks (pyOf (itD t))) (PySem.W.keyToks (pyOf (itD s)))) = _
  rw [it_pyOf, it_pyOf]
  rfl
theorem sort_its (l : List It) : sortD (l.map itD) = (msort l).map itD := (PySem.W.sort_maps (r := le) (s := leZ pyOf) itD fun a _ b _ => (le_leZ a b).symm).symm
theorem msort_mem {l : List It} {t : It} : t ∈ msort l ↔ t ∈ l := (List.mergeSort_perm _ _).mem_iff
theorem msort_pair (l : List It) : (msort l).Pairwise fun s t => lt t s = false := by
  have h := List.pairwise_mergeSort (le := le) (fun a b c h1 h2 => ?_) (fun a b => ?_) l
  · refine List.Pairwise.imp ?_ h
    intro a b e
    simpa [le] using e
  · simp only [le, Bool.not_eq_true'] at *
    cases e : lt c a with
    | false => rfl
    | true =>
      rcases (PyProof.Rows.listOrd PyProof.Rows.itemOrd).negTrans (itK c) (itK b) (itK a) e with k | k
      · exact absurd k (by rw [show (PyProof.Rows.listOrd PyProof.Rows.itemOrd).blt (itK c) (itK b) = lt c b from rfl, h2]; simp)
      · exact absurd k (by rw [show (PyProof.Rows.listOrd PyProof.Rows.itemOrd).blt (itK b) (itK a) = lt b a from rfl, h1]; simp)
  · simp only [le, Bool.or_eq_true, Bool.not_eq_true']
    cases e : lt b a with
    | false => exact .inl rfl
    | true => exact .inr (lt_asym e)
/-- where two sorted lists part -/
def walk : List It → List It → Option (Bool × It)
  | [], [] => none
  | x :: _, [] => some (false, x)
  | [], y :: _ => some (true, y)
  | x :: a, y :: b => if lt x y then some (false, x) else if lt y x then some (true, y) else walk a b
theorem walk_self : ∀ a : List It, walk a a = none
  | [] => rfl
  | x :: a => by simp [walk, lt_irr, walk_self a]
theorem walk_swap : ∀ a b : List It, walk b a = (walk a b).map fun p => (!p.1, p.2)
  | [], [] => rfl
  | x :: _, [] => rfl
  | [], y :: _ => rfl
  | x :: a, y :: b => by
    simp only [walk]
    by_cases h : lt x y = true
    · rw [if_pos h, if_neg (by rw [lt_asym h]; simp), if_pos h]; rfl
    · rw [if_neg h, if_neg h]
      by_cases k : lt y x = true
      · rw [if_pos k, if_pos k]; rfl
      · rw [if_neg k, if_neg k]; exact walk_swap a b
abbrev srt (l : List It) : Prop := l.Pairwise fun s t => lt t s = false
theorem cnt0 {x : It} {l : List It} (h : ∀ t ∈ l, lt x t = true) : l.count x = 0 := List.count_eq_zero.mpr fun hx => by
  have := h x hx
  rw [lt_irr] at this; cases this
theorem lt_le {s t u : It} (h : lt s t = true) (k : lt u t = false) : lt s u = true := by
  rcases (PyProof.Rows.listOrd PyProof.Rows.itemOrd).negTrans (itK s) (itK u) (itK t) h with k2 | k2
  · exact k2
  · have : lt u t = true := k2
    rw [k] at this; cases this
/-- the least item that one list has more often -/
structure Least (a b : List It) (k : Bool) (z : It) : Prop where
  low : ∀ u, lt u z = true → a.count u = b.count u
  one : if k then a.count z < b.count z else b.count z < a.count z
  mem : z ∈ a ∨ z ∈ b
theorem walk_none : ∀ {a b : List It}, walk a b = none → a = b
  | [], [], _ => rfl
  | x :: _, [], h => by simp [walk] at h
  | [], y :: _, h => by simp [walk] at h
  | x :: a, y :: b, h => by
    simp only [walk] at h
    split at h
    · cases h
    split at h
    · cases h
    · rename_i h1 h2
      have e : x = y := lt_tot (by simpa using h1) (by simpa using h2)
      rw [e, walk_none h]
theorem walk_some : ∀ {a b : List It}, srt a → srt b → ∀ {k z}, walk a b = some (k, z) → Least a b k z
  | [], [], _, _, _, _, h => by simp [walk] at h
  | x :: a, [], sa, _, k, z, h => by
    simp only [walk, Option.some.injEq, Prod.mk.injEq] at h
    obtain ⟨rfl, rfl⟩ := h
    refine ⟨fun u hu => ?_, by simp, .inl (by simp)⟩
    rw [cnt0 (l := x :: a) fun t ht => ?_]
    · rfl
    · rcases List.mem_cons.mp ht with rfl | ht
      · exact hu
      · exact lt_le hu ((List.pairwise_cons.mp sa).1 t ht)
  | [], y :: b, _, sb, k, z, h => by
    simp only [walk, Option.some.injEq, Prod.mk.injEq] at h
    obtain ⟨rfl, rfl⟩ := h
    refine ⟨fun u hu => ?_, by simp, .inr (by simp)⟩
    rw [cnt0 (l := y :: b) fun t ht => ?_]
    · rfl
    · rcases List.mem_cons.mp ht with rfl | ht
      · exact hu
      · exact lt_le hu ((List.pairwise_cons.mp sb).1 t ht)
  | x :: a, y :: b, sa, sb, k, z, h => by
    have low : ∀ {x : It} {a : List It}, srt (x :: a) → ∀ {u : It}, lt u x = true → (x :: a).count u = 0 := fun sa u hu => cnt0 fun t ht => by
      rcases List.mem_cons.mp ht with rfl | ht
      · exact hu
      · exact lt_le hu ((List.pairwise_cons.mp sa).1 t ht)
    simp only [walk] at h
    split at h
    · rename_i h1
      simp only [Option.some.injEq, Prod.mk.injEq] at h
      obtain ⟨rfl, rfl⟩ := h
      refine ⟨fun u hu => by rw [low sa hu, low sb (lt_trans hu h1)], ?_, .inl (by simp)⟩
      rw [low sb h1]
      simp
    split at h
    · rename_i h1
      simp only [Option.some.injEq, Prod.mk.injEq] at h
      obtain ⟨rfl, rfl⟩ := h
      refine ⟨fun u hu => by rw [low sb hu, low sa (lt_trans hu h1)], ?_, .inr (by simp)⟩
      rw [low sa h1]
      simp
    · rename_i h1 h2
      have e : x = y := lt_tot (by simpa using h1) (by simpa using h2)
      subst e
      have L := walk_some (List.pairwise_cons.mp sa).2 (List.pairwise_cons.mp sb).2 h
      refine ⟨fun u hu => by rw [List.count_cons, List.count_cons, L.low u hu], ?_, L.mem.imp (List.mem_cons_of_mem _) (List.mem_cons_of_mem _)⟩
      have := L.one
      rw [List.count_cons, List.count_cons]
      cases k <;> simp at this ⊢ <;> omega
/-- the first item of both, sorted, that one has more often -/
theorem find_some {a b : List It} {k : Bool} {z : It} (L : Least a b k z) : (msort (a ++ b)).find? (fun t => decide (a.count t ≠ b.count t)) = some z := by
  have hz : z ∈ msort (a ++ b) := msort_mem.mpr (List.mem_append.mpr L.mem)
  have hp := msort_pair (a ++ b)
  generalize msort (a ++ b) = s at hz hp
  have hn : a.count z ≠ b.count z := by
    have := L.one
    cases k <;> simp at this <;> omega
  induction s with
  | nil => cases hz
  | cons t s ih =>
    rw [List.find?_cons]
    by_cases e : t = z
    · subst e
      simp [hn]
    · have hz' : z ∈ s := by
        rcases List.mem_cons.mp hz with h | h
        · exact absurd h.symm e
        · exact h
      have h1 := (List.pairwise_cons.mp hp).1 z hz'
      have h2 : lt t z = true := by
        cases q : lt t z with
        | true => rfl
        | false => exact absurd (lt_tot q h1) e
      rw [L.low t h2]
      simp only [ne_eq, not_true_eq_false, decide_false]
      exact ih hz' (List.pairwise_cons.mp hp).2
theorem find_none {a : List It} : ∀ s : List It, s.find? (fun t => decide (a.count t ≠ a.count t)) = none := fun s => by simp
end MG.K09
set_option Elab.async false
set_option linter.all false
set_option maxRecDepth 100000
set_option maxHeartbeats 4000000
set_option autoImplicit false
/-! the ink of a box over data -/
namespace MG.K09
open PySem L2 DL MB
variable {A : Ads} {W : Option Addr} {wa : Addr} {P : D → Prop} {PO : OD → Prop}
/-- a mark is a rule or a glyph -/
inductive mkI (t : M3) : It → Prop
  | rule {p : List Int} {w h : Int} (e : t.2.2 = ruleD p w h) : mkI t (.rule t.1 t.2.1 w h)
  | glyph {p : List Int} {f z : Int} {n : Str} (e : t.2.2 = glyphD p f z n) (hn : PyData.strOk n = true) : mkI t (.glyph t.1 t.2.1 f z n)
def inkD (t : M3) : D := match t.2.2 with
  | .tup (s :: _ :: r) => .tup (.int t.1 :: .int t.2.1 :: s :: r)
  | _ => .non
theorem mkI_ink {t : M3} {i : It} (h : mkI t i) : inkD t = itD i := by
  obtain ⟨x, y, m⟩ := t
  cases h with
  | rule e => simp only at e; subst e; rfl
  | glyph e => simp only at e; subst e; rfl
theorem ws_ok : PyData.strOk ("rule" : Str) = true ∧ PyData.strOk ("glyph" : Str) = true ∧ PyData.strOk ("ink" : Str) = true ∧ PyData.strOk ("width" : Str) = true ∧ PyData.strOk ("height" : Str) = true ∧ PyData.strOk ("depth" : Str) = true := by decide +kernel
def okI : It → Prop
  | .rule .. => True
  | .glyph _ _ _ _ n => PyData.strOk n = true
theorem mkI_ok {t : M3} {i : It} (h : mkI t i) : okI i := by
  cases h with
  | rule e => trivial
  | glyph e hn => exact hn
theorem it_shp {i : It} (h : okI i) : (itD i).shp = true := by
  obtain ⟨h1, h2, _⟩ := ws_ok
  cases i with
  | rule => simp [itD, D.shp, D.shpL, h1]
  | glyph => simp [itD, D.shp, D.shpL, h2]; exact h
theorem it_dep (i : It) : (itD i).dep ≤ 1 := by cases i <;> simp [itD, D.dep, D.depL]
theorem it_alike (s t : It) : PySem.W.alike (itP s) (itP t) = true := by cases s <;> cases t <;> simp [itP, PySem.W.alike, PySem.W.alikeAll]
theorem it_ne (t : It) : itP t ≠ .none := by cases t <;> simp [itP]
theorem it_depth (t : It) : (itP t).depth ≤ 60 := by cases t <;> simp [itP, PyData.depth, PyData.depthAll]
theorem it_lay {t : It} (h : okI t) : (itP t).canLay0 = true := by
  obtain ⟨p, e, k, _⟩ := D.shp_py _ (it_shp h)
  rw [it_py] at e
  cases e
  exact k
theorem sortOk_its (l : List It) : SortOk (l.map itD) := by
  refine ⟨fun d hd => ?_, fun d hd e he => ?_, .inl fun d hd => ?_⟩
  · obtain ⟨t, _, rfl⟩ := List.mem_map.mp hd
    exact ⟨_, it_py t, it_depth t⟩
  · obtain ⟨t, _, rfl⟩ := List.mem_map.mp hd
    obtain ⟨u, _, rfl⟩ := List.mem_map.mp he
    rw [it_pyOf, it_pyOf]
    exact it_alike t u
  · obtain ⟨e, he, rfl⟩ := List.mem_map.mp hd
    obtain ⟨t, _, rfl⟩ := List.mem_map.mp he
    rw [it_pyOf]
    cases t <;> exact ⟨_, _, rfl⟩
/-- the items of a box -/
structure hasI (b : B) (l : List It) : Prop where
  e : b.ms.map inkD = l.map itD
  m : ∀ t ∈ b.ms, ∃ i, mkI t i
  ok : ∀ i ∈ l, okI i
  n : b.ms.length ≤ 100
theorem hasI_of {b : B} (h : ∀ t ∈ b.ms, ∃ i, mkI t i) (hl : b.ms.length ≤ 100) : ∃ l, hasI b l := by
  have : ∀ ms : List M3, (∀ t ∈ ms, ∃ i, mkI t i) → ∃ l : List It, ms.map inkD = l.map itD ∧ ∀ i ∈ l, okI i := by
    intro ms
    induction ms with
    | nil => exact fun _ => ⟨[], rfl, fun _ h => nomatch h⟩
    | cons t r ih =>
      intro h
      obtain ⟨i, hi⟩ := h t List.mem_cons_self
      obtain ⟨l, e, k⟩ := ih fun u hu => h u (List.mem_cons_of_mem _ hu)
      exact ⟨i :: l, by simp [e, mkI_ink hi], fun j hj => by
        rcases List.mem_cons.mp hj with rfl | hj
        · exact mkI_ok hi
        · exact k j hj⟩
  obtain ⟨l, e, k⟩ := this b.ms h
  exact ⟨l, e, h, k, hl⟩
theorem hasI_len {b : B} {l : List It} (h : hasI b l) : l.length ≤ 100 := by
  have := congrArg List.length h.e
  simp at this
  have := h.n
  omega
/-- an element of the ink -/
theorem s_item {t : M3} {i : It} (h : mkI t i) {R : D → Prop} (r : R (itD i)) {x : Sl} : (dOp fAddX (dTup (dCons (dVar 1) (dCons (dVar 2) (dCons (dOp fIx (dVar 3) (dC (.int 0))) dNil)))) (dSl (dVar 3) (dPart (dC (.int 2))) dNoPart)) [x, .fz (.int t.1), .fz (.int t.2.1), .fz t.2.2] R := by
  obtain ⟨a, b, m⟩ := t
  have l10 : (10 : Nat) ≤ sizeLine := by decide
  cases h with
  | @rule p w h e =>
    simp only at e
    subst e
    simp [ruleD, pD, fAddX, atI, ixN]
    exact ⟨Nat.le_trans (show 3 + 2 ≤ 10 by decide) l10, r⟩
  | @glyph p f z n e hn =>
    simp only at e
    subst e
    simp [glyphD, pD, fAddX, atI, ixN]
    exact ⟨Nat.le_trans (show 3 + 3 ≤ 10 by decide) l10, r⟩
theorem s_ink_of {b : B} {l : List It} (h : hasI b l) (p : PO (.lst ((msort l).map itD))) : GO_ink_of A W [bD A b] PO := ⟨rfl, by
  simp only [w_ink_of, slots0]
  have k3 : b.ms.length < sizeLine := lt_line (Nat.le_trans h.n (by decide))
  have hs := sortOk_its l
  simp [dFld_eq, itemsOf, k3]
  refine dComp_mapOf mD inkD b.ms (fun t ht R r => ⟨_, rfl, ?_⟩) [] _ ?_
  · obtain ⟨i, hi⟩ := h.m t ht
    rw [mkI_ink hi] at r
    have := s_item (x := .fz (bD A b)) hi r
    simpa using this
  · rw [List.nil_append, h.e]
    refine ⟨sortOk_its l, ?_⟩
    rw [sort_its]
    exact p⟩
theorem c_law_ink {b : B} {l : List It} (h : hasI b l) (p : P (.lst ((msort l).map itD))) : cl (G__law_ink A) W [bD A b] P := cl_of ⟨rfl, by
  simp only [w__law_ink, slots0]
  have k3 : b.ms.length < sizeLine := lt_line (Nat.le_trans h.n (by decide))
  simp [dFld_eq, itemsOf, k3]
  refine dComp_mapOf mD inkD b.ms (fun t ht R r => ⟨_, rfl, ?_⟩) [] _ ?_
  · obtain ⟨i, hi⟩ := h.m t ht
    rw [mkI_ink hi] at r
    have := s_item (x := .fz (bD A b)) hi r
    simpa using this
  · rw [List.nil_append, h.e]
    refine ⟨_, rfl, sortOk_its l, ?_⟩
    rw [sort_its]
    exact p⟩
theorem noD_its {l : List It} : OD.noD (.lst (l.map itD)) = true := by trace_state; rfl
theorem c_ink_of {b : B} {l : List It} (h : hasI b l) (p : P (.lst ((msort l).map itD))) : cl (G_ink_of A) W [bD A b] P := cl_of (s_ink_of h ⟨noD_its, p⟩)
theorem s_ink {b : B} {l : List It} (hb : okB b) (h : hasI b l) (p : PO (.lst ((msort l).map itD))) : GO_ink A W [bD A b] PO := ⟨rfl, by
  simp only [w_ink, slots0]
  simp
  refine c_check_box hb ?_
  exact clO_of (s_ink_of h p)⟩
theorem c_ink {b : B} {l : List It} (hb : okB b) (h : hasI b l) (p : P (.lst ((msort l).map itD))) : cl (G_ink A) W [bD A b] P := cl_of (s_ink hb h ⟨noD_its, p⟩)
end MG.K09
set_option Elab.async false
set_option linter.all false
set_option maxRecDepth 100000
set_option maxHeartbeats 4000000
set_option autoImplicit false
/-! where two inks part, over data -/
namespace MG.K09
open PySem L2 DL MB
variable {A : Ads} {W : Option Addr} {wa : Addr} {P : D → Prop} {PO : OD → Prop}
def bit (k : Bool) : Int := if k then 1 else 0
def unD : Option (Bool × It) → D
  | none => .non
  | some (k, z) => .tup [.str "ink", .int (bit k), itD z]
theorem fLt_it {s t : It} (p : P (.bl (lt s t))) : fLtD (itD s) (itD t) P := by
  refine ⟨⟨_, it_py s⟩, ⟨_, it_py t⟩, ?_⟩
  rw [it_pyOf, it_pyOf]
  exact ⟨it_alike s t, it_ne s, it_depth s, p⟩
theorem at_mid {q b : List It} {t : It} : atI ((q ++ t :: b).map itD) (q.length : Int) = some (itD t) := atI_nat (by simp)
abbrev bodyU : DS := (dSeq (dIfS (dTOr (dB (dOp (fEq false) (dVar 2) (dCall fLenX (dCons (dVar 1) dNil)))) (dB (dOp fLtD (dVar 3) (dOp fIx (dVar 1) (dVar 2))))) (dRet (dTup (dCons (dC (.str "ink")) (dCons (dC (.int 0)) (dCons (dVar 3) dNil))))) dSkip) (dIfS (dB (dOp fLtD (dOp fIx (dVar 1) (dVar 2)) (dVar 3))) (dRet (dTup (dCons (dC (.str "ink")) (dCons (dC (.int 1)) (dCons (dOp fIx (dVar 1) (dVar 2)) dNil))))) dSkip))
theorem loopU {De : DEnds} {L M : D} : ∀ (a b q : List It) (x y : Sl), M = .lst ((q ++ b).map itD) → (∀ r, walk a b = some r → a ≠ [] → De.rt (unD (some r))) →
    (∀ (q' b' : List It) x y, q ++ b = q' ++ b' → q'.length = q.length + a.length → walk a b = walk [] b' → De.nx [.fz L, .fz M, x, y]) →
    dLoop (setS (setCons (setN 2) (setCons (setN 3) setNil))) bodyU De (enumD q.length (a.map itD)) [.fz L, .fz M, x, y]
  | [], b, q, x, y, hM, hr, hn => hn q b x y rfl (by simp) rfl
  | s :: a, [], q, x, y, hM, hr, hn => by
    subst hM
    refine ⟨_, rfl, ?_⟩
    simp
    exact hr _ rfl (by simp)
  | s :: a, t :: b, q, x, y, hM, hr, hn => by
    subst hM
    refine ⟨_, rfl, ?_⟩
    have e1 : ((q.length : Int) == ((q.length + (b.length + 1) : Nat) : Int)) = false := by
      rw [beq_eq_false_iff_ne]
      omega
    have am := at_mid (q := q) (b := b) (t := t)
    simp at am
    simp [am]
    refine .inl ⟨by omega, fLt_it ?_⟩
    by_cases h1 : lt s t = true
    · refine .inr ⟨by rw [h1], hr (false, s) (by simp [walk, h1]) (by simp)⟩
    refine .inl ⟨by simpa using h1, fLt_it ?_⟩
    by_cases h2 : lt t s = true
    · exact .inr ⟨by rw [h2], hr (true, t) (by simp [walk, h1, h2]) (by simp)⟩
    refine .inl ⟨by simpa using h2, ?_⟩
    have e : walk (s :: a) (t :: b) = walk a b := by simp [walk, h1, h2]
    have e3 : (q ++ [t]).length = q.length + 1 := by simp
    have := loopU (De := De) (L := L) (M := .lst (((q ++ [t]) ++ b).map itD)) a b (q ++ [t]) (.fz (.int q.length)) (.fz (itD s)) rfl (fun r h _ => hr r (by rw [e, h]) (by simp)) fun q' b' x y e1 e2 e3 => by
      have := hn q' b' x y (by simpa using e1) (by simp at e2 ⊢; omega) (by rw [e, e3])
      simpa using this
    rw [e3] at this
    simpa using this
theorem c_unlike_ink {a b : List It} (p : P (unD (walk a b))) : cl (G_unlike_ink A) W [.lst (a.map itD), .lst (b.map itD)] P := cl_of ⟨rfl, by
  simp only [w_unlike_ink, slots0]
  refine Exists.intro (D.lst (a.map itD)) (And.intro rfl (Exists.intro (a.map itD) (And.intro (Or.inl rfl) ?_)))
  refine loopU a b [] _ _ rfl (fun r h _ => by rw [h] at p; exact p) fun q' b' x y e1 e2 e3 => ?_
  rw [e3] at p
  have e1 : b = q' ++ b' := e1
  subst e1
  have e2 : q'.length = a.length := by simpa using e2
  cases b' with
  | nil =>
    simp [e2]
    exact p
  | cons t b' =>
    have am := at_mid (q := q') (b := b') (t := t)
    rw [e2] at am
    simp at am
    simp [e2, am]
    exact .inr ⟨by omega, p⟩⟩
/-- the first thing in which two boxes differ -/
def unB (b c : B) (l m : List It) : D :=
  if b.w ≠ c.w then .tup [.str "width"] else if b.h ≠ c.h then .tup [.str "height"] else if b.d ≠ c.d then .tup [.str "depth"] else unD (walk (msort l) (msort m))
theorem c_first_unlike {b c : B} {l m : List It} (hb : okB b) (hc : okB c) (kb : hasI b l) (kc : hasI c m) (p : P (unB b c l m)) : cl (G_first_unlike A) W [bD A b, bD A c] P := cl_of ⟨rfl, by
  simp only [w_first_unlike, slots0]
  simp
  refine c_check_box hb ?_
  refine c_check_box hc ?_
  simp [dFld_eq]
  unfold unB at p
  by_cases e1 : b.w = c.w
  · rw [if_neg (by simpa using e1)] at p
    refine .inl ⟨e1, ?_⟩
    by_cases e2 : b.h = c.h
    · rw [if_neg (by simpa using e2)] at p
      refine .inl ⟨e2, ?_⟩
      by_cases e3 : b.d = c.d
      · rw [if_neg (by simpa using e3)] at p
        refine .inl ⟨e3, ?_⟩
        exact c_ink_of kb (c_ink_of kc (c_unlike_ink p))
      · rw [if_pos e3] at p
        exact .inr ⟨e3, p⟩
    · rw [if_pos e2] at p
      exact .inr ⟨e2, p⟩
  · rw [if_pos e1] at p
    exact .inr ⟨e1, p⟩⟩
theorem c_same_ink {b c : B} {l m : List It} (hb : okB b) (hc : okB c) (kb : hasI b l) (kc : hasI c m) (p : P (.bl (unB b c l m).isNon)) : cl (G_same_ink A) W [bD A b, bD A c] P := cl_of ⟨rfl, by
  simp only [w_same_ink, slots0]
  simp
  refine c_first_unlike hb hc kb kc ?_
  simpa [fIsX] using p⟩
end MG.K09
set_option Elab.async false
set_option linter.all false
set_option maxRecDepth 100000
set_option maxHeartbeats 4000000
set_option autoImplicit false
/-! the law's own: the first thing in which two boxes differ -/
namespace MG.K09
open PySem L2 DL MB
variable {A : Ads} {W : Option Addr} {wa : Addr} {P : D → Prop} {PO : OD → Prop}
theorem okPy_it {t : It} (h : okI t) : okPy (itD t) := ⟨_, it_py t, it_lay h, it_depth t⟩
theorem cnt_it (a : List It) (t : It) : (a.map itD).countP (fun d => (pyOf d).eqv (pyOf (itD t))) = a.count t := by
  rw [List.countP_map, List.count]
  congr 1
  funext s
  simp only [Function.comp, it_pyOf, it_eqv]
  by_cases h : s = t <;> simp [h]
theorem d_cnt {a : List It} {t : It} {ρ : List Sl} {i j : Nat} (e1 : ρ[i]? = some (.fz (.lst (a.map itD)))) (e2 : ρ[j]? = some (.fz (itD t))) (oa : ∀ i ∈ a, okI i) (ot : okI t) (p : P (.int (a.count t : Nat))) : dCount (dVar i) (dVar j) ρ P := by
  refine ⟨_, e1, _, rfl, fun d hd => ?_, _, e2, okPy_it ot, ?_⟩
  · obtain ⟨s, hs, rfl⟩ := List.mem_map.mp hd
    exact okPy_it (oa s hs)
  · rw [cnt_it]
    exact p
abbrev bodyC : DS := (dIfS (dB (dOp (fEq true) (dCount (dVar 4) (dVar 6)) (dCount (dVar 5) (dVar 6)))) (dRet (dTup (dCons (dC (.str "ink")) (dCons (dCall fInt (dCons (dOp (fB0 fun i j => decide (i < j)) (dCount (dVar 4) (dVar 6)) (dCount (dVar 5) (dVar 6))) dNil)) (dCons (dVar 6) dNil))))) dSkip)
theorem loopC {De : DEnds} {a b : List It} (oa : ∀ i ∈ a, okI i) (ob : ∀ i ∈ b, okI i) {x0 x1 x2 x3 : Sl} : ∀ (s : List It) (x6 : Sl), (∀ i ∈ s, okI i) →
    (∀ z, s.find? (fun t => decide (a.count t ≠ b.count t)) = some z → De.rt (.tup [.str "ink", .int (bit (decide (a.count z < b.count z))), itD z])) →
    (s.find? (fun t => decide (a.count t ≠ b.count t)) = none → ∀ x6, De.nx [x0, x1, x2, x3, .fz (.lst (a.map itD)), .fz (.lst (b.map itD)), x6]) →
    dLoop (setN 6) bodyC De (s.map itD) [x0, x1, x2, x3, .fz (.lst (a.map itD)), .fz (.lst (b.map itD)), x6]
  | [], x6, _, _, hn => hn rfl x6
  | t :: s, x6, hs, hr, hn => by
    have ot := hs t List.mem_cons_self
    refine ⟨[x0, x1, x2, x3, .fz (.lst (a.map itD)), .fz (.lst (b.map itD)), .fz (itD t)], rfl, ?_⟩
    have ca : ∀ {P : D → Prop}, P (.int (a.count t : Nat)) → dCount (dVar 4) (dVar 6) [x0, x1, x2, x3, .fz (.lst (a.map itD)), .fz (.lst (b.map itD)), .fz (itD t)] P := fun p => d_cnt rfl rfl oa ot p
    have cb : ∀ {P : D → Prop}, P (.int (b.count t : Nat)) → dCount (dVar 5) (dVar 6) [x0, x1, x2, x3, .fz (.lst (a.map itD)), .fz (.lst (b.map itD)), .fz (itD t)] P := fun p => d_cnt rfl rfl ob ot p
    rw [List.find?_cons] at hr hn
    simp only [bodyC, dIfS, dB, dOp]
    refine ca ?_
    refine cb ?_
    rw [fEq_int]
    by_cases e : a.count t = b.count t
    · refine ⟨false, by simp [e], ?_⟩
      simp only [e, ne_eq, not_true_eq_false, decide_false] at hr hn
      exact loopC oa ob s _ (fun i hi => hs i (List.mem_cons_of_mem _ hi)) hr hn
    · refine ⟨true, by simp; omega, ?_⟩
      simp only [e, ne_eq, not_false_eq_true, decide_true] at hr hn
      have := hr t rfl
      rw [if_pos rfl]
      simp only [dRet, dTup, dCons, dC, dCall, dOp]
      refine ca ?_
      refine cb ?_
      simp [fB0, fInt]
      simpa [bit] using this
theorem c_law_unlike {b c : B} {l m : List It} (kb : hasI b l) (kc : hasI c m) (p : P (unB b c l m)) : cl (G__law_unlike A) W [bD A b, bD A c] P := cl_of ⟨rfl, by
  unfold unB at p
  have l10 : (10 : Nat) ≤ sizeLine := by decide
  simp only [w__law_unlike, slots0]
  simp [dFld_eq, itemsOf, fAddX]
  refine ⟨_, rfl, ?_⟩
  simp
  by_cases e1 : b.w = c.w
  · rw [if_neg (by simpa using e1)] at p
    refine .inl ⟨e1, ?_⟩
    refine ⟨_, rfl, ?_⟩
    simp
    by_cases e2 : b.h = c.h
    · rw [if_neg (by simpa using e2)] at p
      refine .inl ⟨e2, ?_⟩
      refine ⟨_, rfl, ?_⟩
      simp
      by_cases e3 : b.d = c.d
      · rw [if_neg (by simpa using e3)] at p
        refine .inl ⟨e3, ?_⟩
        simp [dLoop]
        refine c_law_ink kb (c_law_ink kc ?_)
        have h1 := hasI_len kb
        have h2 := hasI_len kc
        have L1 : (msort l).length = l.length := List.length_mergeSort l
        have L2 : (msort m).length = m.length := List.length_mergeSort m
        have k4 := lt_line (n := 1000) (by omega)
        have hk : ∀ {Q : Prop}, Q → ((msort l).map itD).length + ((msort m).map itD).length ≤ sizeLine ∧ Q := fun q => ⟨by rw [List.length_map, List.length_map]; omega, q⟩
        refine hk ?_
        rw [← List.map_append]
        refine ⟨_, rfl, sortOk_its _, ?_⟩
        rw [sort_its]
        refine ⟨_, rfl, ?_⟩
        have oa : ∀ i ∈ msort l, okI i := fun i hi => kb.ok i (msort_mem.mp hi)
        have ob : ∀ i ∈ msort m, okI i := fun i hi => kc.ok i (msort_mem.mp hi)
        refine loopC oa ob _ _ (fun i hi => ?_) (fun z hz => ?_) fun hz x6 => ?_
        · rcases List.mem_append.mp (msort_mem.mp hi) with h | h
          · exact oa i h
          · exact ob i h
        · cases hw : walk (msort l) (msort m) with
          | none =>
            rw [walk_none hw, find_none] at hz
            cases hz
          | some r =>
            obtain ⟨k, y⟩ := r
            have L := walk_some (msort_pair l) (msort_pair m) hw
            rw [find_some L] at hz
            cases hz
            rw [hw] at p
            have e : decide ((msort l).count z < (msort m).count z) = k := by
              have := L.one
              cases k <;> simp at this ⊢ <;> omega
            show P _
            rw [e]
            exact p
        · cases hw : walk (msort l) (msort m) with
          | none =>
            rw [hw] at p
            exact p
          | some r =>
            obtain ⟨k, y⟩ := r
            have L := walk_some (msort_pair l) (msort_pair m) hw
            rw [find_some L] at hz
            cases hz
      · rw [if_pos e3] at p
        exact .inr ⟨e3, p⟩
    · rw [if_pos e2] at p
      exact .inr ⟨e2, p⟩
  · rw [if_pos e1] at p
    exact .inr ⟨e1, p⟩⟩
end MG.K09
set_option Elab.async false
set_option linter.all false
set_option maxRecDepth 100000
set_option maxHeartbeats 4000000
set_option autoImplicit false
/-! a box like another one, but for something -/
namespace MG.K09
open PySem L2 DL MB
variable {A : Ads} {W : Option Addr} {wa : Addr} {P : D → Prop} {PO : OD → Prop}
theorem dSeq_to {a b : DS} {De : DEnds} {ρ ρ' : List Sl} (ha : ∀ Q : List Sl → Prop, Q ρ' → a { De with nx := Q } ρ) (hb : b De ρ') : dSeq a b De ρ := ha _ hb
theorem dSeq_pre {a b : DS} {De : DEnds} {ρ : List Sl} {I : List Sl → Prop} (hb : ∀ ρ', I ρ' → b De ρ') (ha : ∀ Q : List Sl → Prop, (∀ ρ', I ρ' → Q ρ') → a { De with nx := Q } ρ) : dSeq a b De ρ := ha _ hb
def nB (k : Nat) : Int := lim40 + k
def oT (k : Nat) (t : M3) : Prop := inB (nB k) t.1 ∧ inB (nB k) t.2.1 ∧ lwM t.2.2
structure oB (k : Nat) (b : B) : Prop where
  w : inB (nB k) b.w
  h : inB (nB k) b.h
  d : inB (nB k) b.d
  l : b.ms.length ≤ 3 + k
  m : ∀ t ∈ b.ms, oT k t
theorem in_up1 {k : Nat} {n : Int} (h : inB (nB k) n) : inB (nB (k + 1)) n := by
  unfold inB nB at *
  omega
theorem in_inc {k : Nat} {n : Int} (h : inB (nB k) n) : inB (nB (k + 1)) (n + 1) ∧ inB (nB (k + 1)) (n - 1) := by
  unfold inB nB at *
  omega
theorem in_40 {k : Nat} {n : Int} (h : inB lim40 n) : inB (nB k) n := by
  unfold inB nB at *
  omega
theorem oT_up {k : Nat} {t : M3} (h : oT k t) : oT (k + 1) t := ⟨in_up1 h.1, in_up1 h.2.1, h.2.2⟩
theorem ob_of {b : B} (h : lwB b) : oB 0 b := ⟨in_40 h.w, in_40 h.h, in_40 h.d, h.l, fun t ht => ⟨in_40 (h.m t ht).1, in_40 (h.m t ht).2.1, (h.m t ht).2.2⟩⟩
theorem lw_mk {t : M3} (h : lwM t.2.2) : ∃ i, mkI t i := by
  obtain ⟨x, y, m⟩ := t
  have hf : m.fin = true := h.sm.fin
  have ok : okM m := h.sm.ok
  cases ok with
  | rule => exact ⟨_, .rule rfl⟩
  | @glyph p f z n hp hl hf1 hz h8 hn =>
    refine ⟨_, .glyph rfl ?_⟩
    simp [glyphD, D.fin.eq_def (.tup _), D.finL, D.fin.eq_def (.str n)] at hf
    exact hf.2.2.2.2.1.2
theorem shp_pD (p : List Int) : (pD p).shp = true := by
  show D.shpL (p.map D.int) = true
  rw [shpL_mem]
  intro d hd
  obtain ⟨i, _, rfl⟩ := List.mem_map.mp hd
  rfl
theorem dep_pD (p : List Int) : (pD p).dep ≤ 1 := by
  show D.depL (p.map D.int) + 1 ≤ 1
  have : D.depL (p.map D.int) ≤ 0 := DL.depL_mem fun d hd => by
    obtain ⟨i, _, rfl⟩ := List.mem_map.mp hd
    exact Nat.le_refl _
  omega
theorem mk_shp {t : M3} {i : It} (h : mkI t i) : (mD t).shp = true := by
  obtain ⟨h1, h2, _⟩ := ws_ok
  obtain ⟨x, y, m⟩ := t
  cases h with
  | @rule p w h e =>
    simp only at e
    subst e
    simp [mD, ruleD, D.shp, D.shpL, shp_pD, h1]
  | @glyph p f z n e hn =>
    simp only at e
    subst e
    simp [mD, glyphD, D.shp, D.shpL, shp_pD, h2, hn]
theorem mk_dep {t : M3} {i : It} (h : mkI t i) : (mD t).dep ≤ 4 := by
  obtain ⟨x, y, m⟩ := t
  cases h with
  | @rule p w h e =>
    simp only at e
    subst e
    have := dep_pD p
    simp only [mD, ruleD, D.dep, D.depL]
    omega
  | @glyph p f z n e hn =>
    simp only at e
    subst e
    have := dep_pD p
    simp only [mD, glyphD, D.dep, D.depL]
    omega
theorem noL_ints (p : List Int) : noLs (p.map D.int) = true := by
  induction p with
  | nil => rfl
  | cons i r ih => simp [noLs, noL, ih]
theorem mk_noL {t : M3} {i : It} (h : mkI t i) : noL (mD t) = true := by
  obtain ⟨x, y, m⟩ := t
  cases h with
  | @rule p w h e =>
    simp only at e
    subst e
    simp [mD, ruleD, pD, noL, noLs, noL_ints]
  | @glyph p f z n e hn =>
    simp only at e
    subst e
    simp [mD, glyphD, pD, noL, noLs, noL_ints]
theorem shp_marks {ms : List M3} (h : ∀ t ∈ ms, lwM t.2.2) : D.shp (.lst (ms.map mD)) = true := by
  show D.shpL _ = true
  refine shpL_mem.mpr fun d hd => ?_
  obtain ⟨t, ht, rfl⟩ := List.mem_map.mp hd
  obtain ⟨i, hi⟩ := lw_mk (h t ht)
  exact mk_shp hi
theorem dep_marks {ms : List M3} (h : ∀ t ∈ ms, lwM t.2.2) : D.dep (.lst (ms.map mD)) ≤ 5 := by
  have : D.depL (ms.map mD) ≤ 4 := DL.depL_mem fun d hd => by
    obtain ⟨t, ht, rfl⟩ := List.mem_map.mp hd
    obtain ⟨i, hi⟩ := lw_mk (h t ht)
    exact mk_dep hi
  simp only [D.dep]
  omega
theorem fEq_nil {n : Bool} {ms : List M3} (h : ∀ t ∈ ms, lwM t.2.2) (p : P (.bl (ms.isEmpty != n))) : fEq n (.lst (ms.map mD)) (.lst []) P := by
  obtain ⟨q, e, k1, k2, k3⟩ := D.shp_py _ (shp_marks h)
  have := dep_marks h
  refine ⟨q, .list [], e, rfl, ?_, rfl, ?_⟩
  · simp only [SeqAt.shaped, Bool.and_eq_true, decide_eq_true_eq]
    exact ⟨k1, by omega⟩
  · cases ms with
    | nil => cases e; exact p
    | cons t r =>
      obtain ⟨i, hi⟩ := lw_mk (h t List.mem_cons_self)
      have e2 : ∃ a l, q = .list (a :: l) := by
        simp only [List.map_cons, D.py, D.pyL, Option.map_eq_some_iff] at e
        obtain ⟨l, e3, rfl⟩ := e
        cases e4 : (mD t).py with
        | none => rw [e4] at e3; simp at e3
        | some a =>
          rw [e4] at e3
          cases e5 : D.pyL (r.map mD) with
          | none => rw [e5] at e3; simp at e3
          | some l2 =>
            rw [e5] at e3
            simp at e3
            exact ⟨_, _, by rw [← e3]⟩
      obtain ⟨a, l, rfl⟩ := e2
      simpa [PyData.eqv, PyData.eqvAll] using p
/-- the mark with another path -/
theorem fin55 : (D.int 5).fin = true := by decide +kernel
def reP : D → D
  | .tup (s :: _ :: r) => .tup (s :: .tup [.int 5, .int 5] :: r)
  | d => d
theorem lw_re {m : D} (h : lwM m) : lwM (reP m) := by
  have hf : m.fin = true := h.sm.fin
  have ok : okM m := h.sm.ok
  cases ok with
  | @rule p w e hp hl hw hh =>
    refine ⟨⟨.rule (p := [5, 5]) (by simp) (by simp) hw hh, ?_, ?_⟩, ?_⟩
    · simp [ruleD, D.fin.eq_def (.tup _), D.finL] at hf
      simp [reP, ruleD, D.fin.eq_def (.tup _), fin55, D.finL, hf]
    · simp [reP, ruleD, D.dep, D.depL]
    · simp [reP, ruleD, D.wt, D.wtL]
  | @glyph p f z n hp hl hf1 hz h8 hn =>
    refine ⟨⟨.glyph (p := [5, 5]) (by simp) (by simp) hf1 hz h8 hn, ?_, ?_⟩, ?_⟩
    · simp [glyphD, D.fin.eq_def (.tup _), D.finL] at hf
      simp [reP, glyphD, D.fin.eq_def (.tup _), fin55, D.finL, hf]
    · simp [reP, glyphD, D.dep, D.depL]
    · simp [reP, glyphD, D.wt, D.wtL]
def reT (t : M3) : M3 := (t.1, t.2.1, reP t.2.2)
theorem mD_re {t : M3} {i : It} (h : mkI t i) {x0 x1 x2 x3 x4 x5 : Sl} {R : D → Prop} (r : R (mD (reT t))) : (dTup (dCons (dVar 6) (dCons (dVar 7) (dCons (dOp fAddX (dTup (dCons (dOp fIx (dVar 8) (dC (.int 0))) (dCons (dTup (dCons (dC (.int 5)) (dCons (dC (.int 5)) dNil))) dNil))) (dSl (dVar 8) (dPart (dC (.int 2))) dNoPart)) dNil)))) [x0, x1, x2, x3, x4, x5, .fz (.int t.1), .fz (.int t.2.1), .fz t.2.2] R := by
  obtain ⟨a, b, m⟩ := t
  have l10 : (10 : Nat) ≤ sizeLine := by decide
  cases h with
  | @rule p w h e =>
    simp only at e
    subst e
    simp [ruleD, pD, fAddX, atI, ixN]
    exact ⟨Nat.le_trans (show 2 + 2 ≤ 10 by decide) l10, r⟩
  | @glyph p f z n e hn =>
    simp only at e
    subst e
    simp [glyphD, pD, fAddX, atI, ixN]
    exact ⟨Nat.le_trans (show 2 + 3 ≤ 10 by decide) l10, r⟩
theorem skip_if {De : DEnds} {X : DS} {ρ : List Sl} {way j : Int} (e : ρ[4]? = some (.fz (.int way))) (h : way ≠ j) (q : De.nx ρ) : dIfS (dB (dOp (fEq false) (dVar 4) (dC (.int j)))) X dSkip De ρ := by
  simp [e, h, q]
theorem do_if {De : DEnds} {X : DS} {ρ : List Sl} {way j : Int} (e : ρ[4]? = some (.fz (.int way))) (h : way = j) (q : X De ρ) : dIfS (dB (dOp (fEq false) (dVar 4) (dC (.int j)))) X dSkip De ρ := by
  simp [e, h, q]
/-- what stands at the end: the box with what is in both lists -/
theorem fin_other {b c : B} {De : DEnds} {s2 x4 x5 x6 x7 x8 : Sl} (h2 : s2 = .own (.lst (c.ms.map mD)) ∨ s2 = .fz (.lst (c.ms.map mD))) (p : De.rt (bD A c)) :
    (dKeep 3 (dKeepA 2 (dRet (dFrz (dClO (GI_Box A) W [] (dCons (dOp fIx (dVar 3) (dC (.int 0))) (dCons (dOp fIx (dVar 3) (dC (.int 1))) (dCons (dOp fIx (dVar 3) (dC (.int 2))) (dCons (dVar 2) dNil))))))))) De
      [.fz (.adr wa), .fz (bD A b), s2, .own (.lst [.int c.w, .int c.h, .int c.d]), x4, x5, x6, x7, x8] := by
  rcases h2 with rfl | rfl
  · simp
    exact frz_Box p
  · simp
    exact frz_Box p
end MG.K09
set_option Elab.async false
set_option linter.all false
set_option maxRecDepth 100000
set_option maxHeartbeats 4000000
set_option autoImplicit false
/-! _law_other -/
namespace MG.K09
open PySem L2 DL MB
variable {A : Ads} {W : Option Addr} {wa : Addr} {P : D → Prop} {PO : OD → Prop}
theorem skip_lend {De : DEnds} {X : DS} {ds : List D} {s : Sl} {x0 x1 x3 x5 x6 x7 x8 : Sl} {T : DT} {way j : Int} (hs : s = .own (.lst ds) ∨ s = .fz (.lst ds)) (h : way ≠ j) (q : De.nx [x0, x1, s, x3, .fz (.int way), x5, x6, x7, x8]) :
    dIfS (dLendTA 2 (dTAnd (dB (dOp (fEq false) (dVar 4) (dC (.int j)))) T)) X dSkip De [x0, x1, s, x3, .fz (.int way), x5, x6, x7, x8] := by
  rcases hs with rfl | rfl
  · refine .inr ⟨_, rfl, rfl, ?_⟩
    simp [h, q]
  · refine .inl ⟨_, rfl, ?_⟩
    simp [h, q]
def M55 (b : B) (k : Nat) (ms : List M3) : Prop := ms.length ≤ 3 + k ∧ ∀ t ∈ ms, oT (k + 1) t
theorem set_all {R : M3 → Prop} {ms : List M3} {j : Nat} {u : M3} (h : ∀ t ∈ ms, R t) (hu : R u) : ∀ t ∈ ms.set j u, R t := fun t ht => by
  rcases List.mem_or_eq_of_mem_set ht with h1 | h1
  · exact h t h1
  · rw [h1]; exact hu
abbrev condA : DT := (dLendT 2 (dTAnd (dB (dOp (fB0 fun i j => decide (i < j)) (dVar 4) (dC (.int 3)))) (dB (dOp (fEq true) (dVar 2) (dLst dNil)))))
theorem if_lend {De : DEnds} {X : DS} {ms : List M3} {x0 x1 x3 x5 x6 x7 x8 : Sl} {way : Int} (hm : ∀ t ∈ ms, lwM t.2.2) (h1 : De.nx [x0, x1, .own (.lst (ms.map mD)), x3, .fz (.int way), x5, x6, x7, x8])
    (h2 : way < 3 → ms ≠ [] → X De [x0, x1, .own (.lst (ms.map mD)), x3, .fz (.int way), x5, x6, x7, x8]) :
    dIfS condA X dSkip De [x0, x1, .own (.lst (ms.map mD)), x3, .fz (.int way), x5, x6, x7, x8] := by
  refine ⟨_, rfl, rfl, ?_⟩
  simp only [OD.frozen]
  by_cases h3 : way < 3
  · simp [h3]
    refine fEq_nil hm ?_
    cases ms with
    | nil => exact .inl ⟨rfl, h1⟩
    | cons t r => exact .inr ⟨rfl, h2 h3 (by simp)⟩
  · simp [h3]
    exact h1
theorem at_get {ms : List M3} {j : Nat} {t : M3} (h : ms[j]? = some t) : atI (ms.map mD) (j : Int) = some (mD t) := atI_nat (by simp [h])
theorem chg {De : DEnds} {b : B} {ms : List M3} {x0 x1 x3 x5 x6 x7 x8 : Sl} {way : Int} {k : Nat} (hW : W = some wa) (h0 : x0 = .fz (.adr wa)) (w0 : 0 ≤ way) (w3 : way < 3) (hn : ms ≠ []) (hl : ms.length ≤ 3 + k) (hk : k ≤ 1) (hm : ∀ t ∈ ms, oT k t)
    (q : ∀ ms x5 x6 x7 x8, M55 b k ms → De.nx [x0, x1, .own (.lst (ms.map mD)), x3, .fz (.int way), x5, x6, x7, x8]) :
    (dSeq (dSet 5 (dCl (G__law_draw A) W [] (dCons (dVar 0) (dCons (dLend 2 (dCall fLenX (dCons (dVar 2) dNil))) dNil)))) (dSeq (dAsg (dOitem 2 (dVar 5)) (setS (setCons (setN 6) (setCons (setN 7) (setCons (setN 8) setNil))))) (dLput 2 (dVar 5) (dOp fIx (dLst (dCons (dTup (dCons (dVar 6) (dCons (dVar 7) (dCons (dOp fAddX (dTup (dCons (dOp fIx (dVar 8) (dC (.int 0))) (dCons (dTup (dCons (dC (.int 5)) (dCons (dC (.int 5)) dNil))) dNil))) (dSl (dVar 8) (dPart (dC (.int 2))) dNoPart)) dNil)))) (dCons (dTup (dCons (dOp fAddX (dVar 6) (dC (.int 1))) (dCons (dVar 7) (dCons (dVar 8) dNil)))) (dCons (dTup (dCons (dVar 6) (dCons (dOp (fI0 fun i j => i - j) (dVar 7) (dC (.int 1))) (dCons (dVar 8) dNil)))) dNil)))) (dVar 4))))) De [x0, x1, .own (.lst (ms.map mD)), x3, .fz (.int way), x5, x6, x7, x8] := by
  subst h0
  have hp : 0 < ms.length := List.length_pos_iff.mpr hn
  refine dSeq_pre (I := fun ρ => ∃ j : Nat, j < ms.length ∧ ρ = [.fz (.adr wa), x1, .own (.lst (ms.map mD)), x3, .fz (.int way), .fz (.int j), x6, x7, x8]) ?_ fun Q q => ?_
  rotate_left
  · simp [OD.frozen]
    refine ⟨rfl, rfl, ?_⟩
    refine c_law_draw (many := (ms.length : Int)) hW ?_ (by omega) (by omega)
    intro n n0 n1
    exact q _ ⟨n.toNat, by omega, by rw [Int.toNat_of_nonneg n0]⟩
  rintro _ ⟨j, hj, rfl⟩
  have ht : ms[j]? = some ms[j] := List.getElem?_eq_getElem hj
  have hmem : ms[j] ∈ ms := List.getElem_mem hj
  generalize ms[j] = t at ht hmem
  have ot := hm t hmem
  have at1 := at_get ht
  have ix1 : ixN ms.length (j : Int) = some j := by
    unfold ixN
    simp
    omega
  refine dSeq_to (ρ' := [.fz (.adr wa), x1, .own (.lst (ms.map mD)), x3, .fz (.int way), .fz (.int j), .fz (.int t.1), .fz (.int t.2.1), .fz t.2.2]) (fun Q q => ?_) ?_
  · refine ⟨_, rfl, _, rfl, _, rfl, _, at1, ?_⟩
    exact ⟨_, rfl, q⟩
  obtain ⟨i, hi⟩ := lw_mk ot.2.2
  simp only [dLput, dOp, dLst]
  rw [dCons]
  refine mD_re hi ?_
  have up : ∀ u ∈ ms, oT (k + 1) u := fun u hu => oT_up (hm u hu)
  have key : ∀ u, oT (k + 1) u → De.nx [.fz (.adr wa), x1, .own (.lst ((ms.map mD).set j (mD u))), x3, .fz (.int way), .fz (.int j), .fz (.int t.1), .fz (.int t.2.1), .fz t.2.2] := fun u hu => by
    rw [← List.map_set]
    exact q _ _ _ _ _ ⟨by rw [List.length_set]; exact hl, set_all up hu⟩
  simp [fAddX]
  have hw : way = 0 ∨ way = 1 ∨ way = 2 := by omega
  rcases hw with rfl | rfl | rfl
  · exact ⟨_, rfl, _, ix1, key (reT t) ⟨in_up1 ot.1, in_up1 ot.2.1, lw_re ot.2.2⟩⟩
  · exact ⟨_, rfl, _, ix1, key (t.1 + 1, t.2.1, t.2.2) ⟨(in_inc ot.1).1, in_up1 ot.2.1, ot.2.2⟩⟩
  · exact ⟨_, rfl, _, ix1, key (t.1, t.2.1 - 1, t.2.2) ⟨in_up1 ot.1, (in_inc ot.2.1).2, ot.2.2⟩⟩
theorem sIx_at {n i d : Nat} (h : i ≤ n) : HT.sIx n d (some (i : Int)) = i := by
  simp only [HT.sIx]
  rw [if_neg (by omega)]
  omega
theorem cut1 {ms : List M3} : cutD (ms.map mD) (some 1) none = (ms.drop 1).map mD := by
  cases ms with
  | nil => rfl
  | cons t r =>
    unfold cutD
    rw [show (1 : Int) = ((1 : Nat) : Int) from rfl, sIx_at (by simp)]
    rw [show ∀ n d, HT.sIx n d none = d from fun _ _ => rfl]
    rw [List.take_of_length_le (by simp)]
    simp
theorem cutE {ms : List M3} : cutD (ms.map mD) none (some 1) = (ms.take 1).map mD := by
  cases ms with
  | nil => rfl
  | cons t r =>
    unfold cutD
    rw [show (1 : Int) = ((1 : Nat) : Int) from rfl, sIx_at (by simp)]
    rw [show ∀ n d, HT.sIx n d none = d from fun _ _ => rfl]
    simp
theorem c_law_other {k : Nat} {b : B} (hW : W = some wa) (hb : oB k b) (hk : k ≤ 1) (p : ∀ c, oB (k + 1) c → P (bD A c)) : cl (G__law_other A) W [.adr wa, bD A b] P := cl_of ⟨rfl, by
  simp only [w__law_other, slots0]
  have l3 := hb.l
  refine dSeq_pre (I := fun ρ => ∃ way : Int, 0 ≤ way ∧ way < 9 ∧ ρ = [.fz (.adr wa), .fz (bD A b), .own (.lst (b.ms.map mD)), .own (.lst [.int b.w, .int b.h, .int b.d]), .fz (.int way), .un, .un, .un, .un]) ?_ fun Q q => ?_
  rotate_left
  · simp [dFld_eq]
    refine c_law_draw hW fun way w0 w9 => ?_
    exact q _ ⟨way, w0, w9, rfl⟩
  rintro _ ⟨way, w0, w9, rfl⟩
  refine dSeq_pre (I := fun ρ => ∃ ms x5 x6 x7 x8, M55 b k ms ∧ ρ = [.fz (.adr wa), .fz (bD A b), .own (.lst (ms.map mD)), .own (.lst [.int b.w, .int b.h, .int b.d]), .fz (.int way), x5, x6, x7, x8]) ?_ fun Q q => ?_
  rotate_left
  · have hm : M55 b k b.ms := ⟨l3, fun t ht => oT_up (hb.m t ht)⟩
    refine if_lend (fun t ht => (hb.m t ht).2.2) (q _ ⟨_, _, _, _, _, hm, rfl⟩) fun h3 hn => ?_
    exact chg hW rfl w0 h3 hn l3 hk hb.m fun ms x5 x6 x7 x8 h => q _ ⟨_, _, _, _, _, h, rfl⟩
  rintro _ ⟨ms, x5, x6, x7, x8, ⟨ml, mm⟩, rfl⟩
  have fin : ∀ {s2 x5 x6 x7 x8 : Sl} {ns : List M3} {w h d : Int}, (s2 = .own (.lst (ns.map mD)) ∨ s2 = .fz (.lst (ns.map mD))) → oB (k + 1) ⟨w, h, d, ns⟩ →
      (dKeep 3 (dKeepA 2 (dRet (dFrz (dClO (GI_Box A) W [] (dCons (dOp fIx (dVar 3) (dC (.int 0))) (dCons (dOp fIx (dVar 3) (dC (.int 1))) (dCons (dOp fIx (dVar 3) (dC (.int 2))) (dCons (dVar 2) dNil))))))))) { nx := fun _ => P .non, rt := P }
        [.fz (.adr wa), .fz (bD A b), s2, .own (.lst [.int w, .int h, .int d]), .fz (.int way), x5, x6, x7, x8] := fun h2 ho => fin_other (c := ⟨_, _, _, _⟩) h2 (p _ ho)
  have ho : ∀ {ns : List M3}, ns.length ≤ 4 + k → (∀ t ∈ ns, oT (k + 1) t) → oB (k + 1) ⟨b.w, b.h, b.d, ns⟩ := fun {ns} hl hm => ⟨in_up1 hb.w, in_up1 hb.h, in_up1 hb.d, by show ns.length ≤ 3 + (k + 1); omega, hm⟩
  by_cases e3 : way = 3
  · refine dSeq_to (ρ' := [.fz (.adr wa), .fz (bD A b), .fz (.lst (ms.reverse.map mD)), .own (.lst [.int b.w, .int b.h, .int b.d]), .fz (.int way), x5, x6, x7, x8]) (fun Q q => do_if rfl e3 ?_) ?_
    · simp
      simpa using q
    refine dSeq_to (fun Q q => skip_if rfl (by omega) q) ?_
    refine dSeq_to (fun Q q => skip_lend (.inr rfl) (by omega) q) ?_
    refine dSeq_to (fun Q q => skip_if rfl (by omega) q) ?_
    refine dSeq_to (fun Q q => skip_if rfl (by omega) q) ?_
    refine dSeq_to (fun Q q => skip_if rfl (by omega) q) ?_
    exact fin (.inr rfl) (ho (by simp; omega) fun t ht => mm t (List.mem_reverse.mp ht))
  refine dSeq_to (fun Q q => skip_if rfl e3 q) ?_
  by_cases e4 : way = 4
  · refine dSeq_to (ρ' := [.fz (.adr wa), .fz (bD A b), .fz (.lst ((ms.drop 1 ++ ms.take 1).map mD)), .own (.lst [.int b.w, .int b.h, .int b.d]), .fz (.int way), x5, x6, x7, x8]) (fun Q q => do_if rfl e4 ?_) ?_
    · have l9 := lt_line (n := 1000) (by omega)
      simp [cut1, cutE, fAddX]
      exact ⟨by omega, by simpa using q⟩
    refine dSeq_to (fun Q q => skip_lend (.inr rfl) (by omega) q) ?_
    refine dSeq_to (fun Q q => skip_if rfl (by omega) q) ?_
    refine dSeq_to (fun Q q => skip_if rfl (by omega) q) ?_
    refine dSeq_to (fun Q q => skip_if rfl (by omega) q) ?_
    exact fin (.inr rfl) (ho (by simp; omega) fun t ht => by
      rcases List.mem_append.mp ht with h | h
      · exact mm t (List.mem_of_mem_drop h)
      · exact mm t (List.mem_of_mem_take h))
  refine dSeq_to (fun Q q => skip_if rfl e4 q) ?_
  by_cases e5 : way = 5
  · refine dSeq_pre (I := fun ρ => ∃ ns : List M3, ns.length ≤ 4 + k ∧ (∀ t ∈ ns, oT (k + 1) t) ∧ ρ = [.fz (.adr wa), .fz (bD A b), .own (.lst (ns.map mD)), .own (.lst [.int b.w, .int b.h, .int b.d]), .fz (.int way), x5, x6, x7, x8]) ?_ fun Q q => ?_
    rotate_left
    · refine .inr ⟨_, rfl, rfl, ?_⟩
      simp only [OD.frozen]
      simp [e5]
      refine fEq_nil (fun t ht => (mm t ht).2.2) ?_
      by_cases hn : ms = []
      · subst hn
        exact .inl ⟨rfl, q _ ⟨[], by simp, by simp, by simp [e5]⟩⟩
      · refine .inr ⟨by cases ms with | nil => exact absurd rfl hn | cons t r => rfl, ?_⟩
        have hp : 0 < ms.length := List.length_pos_iff.mpr hn
        have l9 := lt_line (n := 1000) (by omega)
        refine c_law_pick hW (by simpa using hp) (by simp; omega) fun d hd => ?_
        obtain ⟨t, ht, rfl⟩ := List.mem_map.mp hd
        obtain ⟨i, hi⟩ := lw_mk (mm t ht).2.2
        refine ⟨mk_noL hi, by omega, q _ ⟨ms ++ [t], by simp; omega, fun u hu => ?_, by simp [e5]⟩⟩
        rcases List.mem_append.mp hu with h | h
        · exact mm u h
        · rw [List.mem_singleton.mp h]; exact mm t ht
    rintro _ ⟨ns, nl, nm, rfl⟩
    refine dSeq_to (fun Q q => skip_if rfl (by omega) q) ?_
    refine dSeq_to (fun Q q => skip_if rfl (by omega) q) ?_
    refine dSeq_to (fun Q q => skip_if rfl (by omega) q) ?_
    exact fin (.inl rfl) (ho nl nm)
  refine dSeq_to (fun Q q => skip_lend (.inl rfl) e5 q) ?_
  by_cases e6 : way = 6
  · refine dSeq_to (ρ' := [.fz (.adr wa), .fz (bD A b), .fz (.lst ((ms.drop 1).map mD)), .own (.lst [.int b.w, .int b.h, .int b.d]), .fz (.int way), x5, x6, x7, x8]) (fun Q q => do_if rfl e6 ?_) ?_
    · simp [cut1]
      simpa using q
    refine dSeq_to (fun Q q => skip_if rfl (by omega) q) ?_
    refine dSeq_to (fun Q q => skip_if rfl (by omega) q) ?_
    exact fin (.inr rfl) (ho (by simp; omega) fun t ht => mm t (List.mem_of_mem_drop ht))
  refine dSeq_to (fun Q q => skip_if rfl e6 q) ?_
  by_cases e7 : way = 7
  · refine dSeq_pre (I := fun ρ => ∃ ns : List M3, ns.length ≤ 4 + k ∧ (∀ t ∈ ns, oT (k + 1) t) ∧ ρ = [.fz (.adr wa), .fz (bD A b), .own (.lst (ns.map mD)), .own (.lst [.int b.w, .int b.h, .int b.d]), .fz (.int way), x5, x6, x7, x8]) ?_ fun Q q => do_if rfl e7 ?_
    rotate_left
    · have l9 := lt_line (n := 1000) (by omega)
      simp
      refine c_law_number hW fun x hx => c_law_number hW fun y hy => c_law_mark hW fun m hm => ?_
      refine ⟨by omega, ?_⟩
      refine q _ ⟨ms ++ [(x, y, m)], by simp; omega, fun t ht => ?_, by simp [mD]⟩
      rcases List.mem_append.mp ht with h | h
      · exact mm t h
      · simp at h
        subst h
        exact ⟨in_40 hx, in_40 hy, hm⟩
    rintro _ ⟨ns, nl, nm, rfl⟩
    refine dSeq_to (fun Q q => skip_if rfl (by omega) q) ?_
    exact fin (.inl rfl) (ho nl nm)
  refine dSeq_to (fun Q q => skip_if rfl e7 q) ?_
  by_cases e8 : way = 8
  · refine dSeq_pre (I := fun ρ => ∃ (x5 : Sl) (w h d : Int), inB (nB (k + 1)) w ∧ inB (nB (k + 1)) h ∧ inB (nB (k + 1)) d ∧ ρ = [.fz (.adr wa), .fz (bD A b), .own (.lst (ms.map mD)), .own (.lst [.int w, .int h, .int d]), .fz (.int way), x5, x6, x7, x8]) ?_ fun Q q => do_if rfl e8 ?_
    rotate_left
    · simp
      refine c_law_draw hW fun n n0 n3 => ?_
      have hn : n = 0 ∨ n = 1 ∨ n = 2 := by omega
      rcases hn with rfl | rfl | rfl
      · simp [atI, ixN, fAddX]
        exact q _ ⟨_, _, _, _, (in_inc hb.w).1, in_up1 hb.h, in_up1 hb.d, rfl⟩
      · simp [atI, ixN, fAddX]
        exact q _ ⟨_, _, _, _, in_up1 hb.w, (in_inc hb.h).1, in_up1 hb.d, rfl⟩
      · simp [atI, ixN, fAddX]
        exact q _ ⟨_, _, _, _, in_up1 hb.w, in_up1 hb.h, (in_inc hb.d).1, rfl⟩
    rintro _ ⟨y5, w, h, d, hw, hh, hd, rfl⟩
    exact fin (.inl rfl) ⟨hw, hh, hd, by show ms.length ≤ 3 + (k + 1); omega, mm⟩
  refine dSeq_to (fun Q q => skip_if rfl e8 q) ?_
  exact fin (.inl rfl) (ho (by omega) mm)⟩
end MG.K09
set_option Elab.async false
set_option linter.all false
set_option maxRecDepth 100000
set_option maxHeartbeats 4000000
set_option autoImplicit false
/-! the law over data -/
namespace MG.K09
open PySem L2 DL MB
variable {A : Ads} {W : Option Addr} {wa : Addr} {P : D → Prop} {PO : OD → Prop}
theorem nb_bnd {k : Nat} {n : Int} (h : inB (nB k) n) (hk : k ≤ 2) : inB bnd n := by
  have e : bnd = 100000000000000000000000000000000000000000000 := rfl
  have e2 : lim40 = 10000000000000000000000000000000000000000 := rfl
  unfold inB nB at *
  omega
theorem ob_bg {k : Nat} {b : B} (h : oB k b) (hk : k ≤ 2) : bgB bnd b := ⟨nb_bnd h.w hk, nb_bnd h.h hk, nb_bnd h.d hk, by have := h.l; omega, fun t ht => ⟨nb_bnd (h.m t ht).1 hk, nb_bnd (h.m t ht).2.1 hk, (h.m t ht).2.2.sm⟩⟩
theorem ob_up {k : Nat} {b : B} (h : oB k b) : oB (k + 1) b := ⟨in_up1 h.w, in_up1 h.h, in_up1 h.d, by have := h.l; omega, fun t ht => oT_up (h.m t ht)⟩
theorem ob_wt {k : Nat} {b : B} (h : oB k b) (hk : k ≤ 2) : (allD b).wt ≤ 8000 := by
  have h1 : D.wtL (b.ms.map mD) ≤ (b.ms.map mD).length * (1483 + 1) := wtL_le fun x hx => by
    obtain ⟨t, ht, rfl⟩ := List.mem_map.mp hx
    have := (h.m t ht).2.2.wt
    simp only [mD, D.wt, D.wtL]
    omega
  have := h.l
  rw [List.length_map] at h1
  simp only [allD, D.wt, D.wtL]
  omega
theorem ob_repr {k : Nat} {b : B} (h : oB k b) (hk : k ≤ 2) (p : P (shD (allD b))) : fRepr [allD b] P := fRepr_sh ⟨_, .inr rfl⟩ (all_fin (ob_bg h hk)) (Nat.le_trans (all_dep (ob_bg h hk)) (by decide)) (ob_wt h hk) p
theorem ob_has {k : Nat} {b : B} (h : oB k b) (hk : k ≤ 2) : ∃ l, hasI b l := hasI_of (fun t ht => lw_mk (h.m t ht).2.2) (by have := h.l; omega)
/-! == of boxes -/
def eqM (b c : B) : Bool := (pyOf (.lst (b.ms.map mD))).eqv (pyOf (.lst (c.ms.map mD)))
def eqB (b c : B) : Bool := b.w == c.w && (b.h == c.h && (b.d == c.d && eqM b c))
theorem fEq_any {n : Bool} {d e : D} (hd : d.shp = true) (he : e.shp = true) (kd : d.dep ≤ 64) (ke : e.dep ≤ 64) (p : P (.bl ((pyOf d).eqv (pyOf e) != n))) : fEq n d e P := by
  obtain ⟨q, e1, k1, k2, _⟩ := d.shp_py hd
  obtain ⟨r, e2, j1, j2, _⟩ := e.shp_py he
  rw [py_of e1, py_of e2] at p
  refine ⟨q, r, e1, e2, ?_, ?_, p⟩ <;> simp only [SeqAt.shaped, Bool.and_eq_true, decide_eq_true_eq]
  · exact ⟨k1, by omega⟩
  · exact ⟨j1, by omega⟩
theorem fEq_marks {n : Bool} {k : Nat} {b c : B} (hb : oB k b) (hc : oB k c) (p : P (.bl (eqM b c != n))) : fEq n (.lst (b.ms.map mD)) (.lst (c.ms.map mD)) P := by
  have mb : ∀ t ∈ b.ms, lwM t.2.2 := fun t ht => (hb.m t ht).2.2
  have mc : ∀ t ∈ c.ms, lwM t.2.2 := fun t ht => (hc.m t ht).2.2
  exact fEq_any (shp_marks mb) (shp_marks mc) (Nat.le_trans (dep_marks mb) (by decide)) (Nat.le_trans (dep_marks mc) (by decide)) p
theorem all_shp {k : Nat} {b : B} (hb : oB k b) : (allD b).shp = true := by
  have := shp_marks (ms := b.ms) fun t ht => (hb.m t ht).2.2
  simp [allD, D.shp.eq_def (.tup _), D.shpL, this]
  exact ⟨rfl, rfl, rfl⟩
theorem all_dp {k : Nat} {b : B} (hb : oB k b) : (allD b).dep ≤ 6 := by
  have := dep_marks (ms := b.ms) fun t ht => (hb.m t ht).2.2
  simp only [allD, D.dep, D.depL] at *
  omega
theorem all_eqv {k : Nat} {b c : B} (hb : oB k b) (hc : oB k c) : (pyOf (allD b)).eqv (pyOf (allD c)) = eqB b c := by
  obtain ⟨q, e1, _⟩ := D.shp_py _ (shp_marks (ms := b.ms) fun t ht => (hb.m t ht).2.2)
  obtain ⟨r, e2, _⟩ := D.shp_py _ (shp_marks (ms := c.ms) fun t ht => (hc.m t ht).2.2)
  unfold eqB eqM
  rw [py_of e1, py_of e2]
  have h1 : pyOf (allD b) = .tuple [.int b.w, .int b.h, .int b.d, q] := py_of (by simp [allD, D.py.eq_def (.tup _), D.pyL, e1]; rfl)
  have h2 : pyOf (allD c) = .tuple [.int c.w, .int c.h, .int c.d, r] := py_of (by simp [allD, D.py.eq_def (.tup _), D.pyL, e2]; rfl)
  rw [h1, h2]
  simp [PyData.eqv.eq_def (.tuple _), PyData.eqvAll]
  rfl
theorem fEq_alls {n : Bool} {k : Nat} {b c : B} (hb : oB k b) (hc : oB k c) (p : P (.bl (eqB b c != n))) : fEq n (allD b) (allD c) P := by
  refine fEq_any (all_shp hb) (all_shp hc) (Nat.le_trans (all_dp hb) (by decide)) (Nat.le_trans (all_dp hc) (by decide)) ?_
  rw [all_eqv hb hc]
  exact p
theorem s_eqG {k : Nat} {b c : B} (hb : oB k b) (hc : oB k c) (p : P (.bl (eqB b c))) : G_Box___eq__ A W [bD A b, bD A c] P noX := ⟨rfl, by
  simp only [w_Box___eq__, slots0]
  simp [dFld_eq, fIsK_bD]
  unfold eqB at p
  by_cases e1 : b.w = c.w
  · refine .inr ⟨e1, ?_⟩
    by_cases e2 : b.h = c.h
    · refine .inr ⟨e2, ?_⟩
      by_cases e3 : b.d = c.d
      · refine .inr ⟨e3, fEq_marks hb hc ?_⟩
        simpa [e1, e2, e3] using p
      · exact .inl ⟨e3, by simpa [e1, e2, beq_eq_false_iff_ne.mpr e3] using p⟩
    · exact .inl ⟨e2, by simpa [e1, beq_eq_false_iff_ne.mpr e2] using p⟩
  · exact .inl ⟨e1, by simpa [beq_eq_false_iff_ne.mpr e1] using p⟩⟩
theorem own_eqG {k : Nat} {b c : B} (hb : oB k b) (hc : oB k c) (p : P (.bl (eqB b c))) : fOwnZ A.Box (G_Box___eq__ A) W false (bD A b) (bD A c) P :=
  ⟨_, _, rfl, rfl, cl_of (s_eqG hb hc ⟨_, rfl, by simpa using p⟩)⟩
/-! what differs -/
theorem un_shp {b c : B} {l m : List It} (hl : ∀ i ∈ l, okI i) (hm : ∀ i ∈ m, okI i) : (unB b c l m).shp = true := by
  obtain ⟨_, _, h3, h4, h5, h6⟩ := ws_ok
  unfold unB
  split
  · simp [D.shp, D.shpL, h4]
  split
  · simp [D.shp, D.shpL, h5]
  split
  · simp [D.shp, D.shpL, h6]
  cases hw : walk (msort l) (msort m) with
  | none => rfl
  | some r =>
    obtain ⟨k, z⟩ := r
    have L := walk_some (msort_pair l) (msort_pair m) hw
    have ok : okI z := by
      rcases L.mem with h | h
      · exact hl z (msort_mem.mp h)
      · exact hm z (msort_mem.mp h)
    simp [unD, D.shp.eq_def (.tup _), D.shpL, it_shp ok]
    exact ⟨h3, rfl⟩
theorem un_dep {b c : B} {l m : List It} : (unB b c l m).dep ≤ 3 := by
  unfold unB
  split
  · simp [D.dep, D.depL]
  split
  · simp [D.dep, D.depL]
  split
  · simp [D.dep, D.depL]
  cases walk (msort l) (msort m) with
  | none => simp [unD, D.dep]
  | some r =>
    have := it_dep r.2
    simp only [unD, D.dep, D.depL]
    omega
theorem fEq_un {n : Bool} {b c : B} {l m : List It} (hl : ∀ i ∈ l, okI i) (hm : ∀ i ∈ m, okI i) (p : P (.bl (true != n))) : fEq n (unB b c l m) (unB b c l m) P := fEq_shp (un_shp hl hm) (Nat.le_trans un_dep (by decide)) p
theorem un_self {b : B} {l : List It} : unB b b l l = .non := by simp [unB, walk_self, unD]
theorem fEq_its {n : Bool} {l : List It} (hl : ∀ i ∈ l, okI i) (p : P (.bl (true != n))) : fEq n (.lst (l.map itD)) (.lst (l.map itD)) P := by
  refine fEq_shp ?_ ?_ p
  · show D.shpL _ = true
    refine shpL_mem.mpr fun d hd => ?_
    obtain ⟨t, ht, rfl⟩ := List.mem_map.mp hd
    exact it_shp (hl t ht)
  · have : D.depL (l.map itD) ≤ 1 := DL.depL_mem fun d hd => by
      obtain ⟨t, ht, rfl⟩ := List.mem_map.mp hd
      exact it_dep t
    simp only [D.dep]
    omega
theorem un_words : (("width" : Str) == ("ink" : Str)) = false ∧ (("height" : Str) == ("ink" : Str)) = false ∧ (("depth" : Str) == ("ink" : Str)) = false ∧ (("ink" : Str) == ("ink" : Str)) = true := by decide +kernel
theorem d_back {b c : B} {l m : List It} {ρ : List Sl} (e : ρ[5]? = some (.fz (unB b c l m))) (p : P (unB c b m l)) :
    (dIf (dTOr (dB (dOp (fIsX false) (dVar 5) (dC .non))) (dB (dOp (fEq true) (dOp fIx (dVar 5) (dC (.int 0))) (dC (.str "ink"))))) (dVar 5) (dTup (dCons (dC (.str "ink")) (dCons (dOp (fI0 fun i j => i - j) (dC (.int 1)) (dOp fIx (dVar 5) (dC (.int 1)))) (dCons (dOp fIx (dVar 5) (dC (.int 2))) dNil))))) ρ P := by
  obtain ⟨_, _, h3, h4, h5, h6⟩ := ws_ok
  obtain ⟨n1, n2, n3, n4⟩ := un_words
  have one : ∀ (w : Str), PyData.strOk w = true → (w == ("ink" : Str)) = false → unB b c l m = .tup [.str w] → unB c b m l = .tup [.str w] → (dIf (dTOr (dB (dOp (fIsX false) (dVar 5) (dC .non))) (dB (dOp (fEq true) (dOp fIx (dVar 5) (dC (.int 0))) (dC (.str "ink"))))) (dVar 5) (dTup (dCons (dC (.str "ink")) (dCons (dOp (fI0 fun i j => i - j) (dC (.int 1)) (dOp fIx (dVar 5) (dC (.int 1)))) (dCons (dOp fIx (dVar 5) (dC (.int 2))) dNil))))) ρ P := fun w hw hn e1 e2 => by
    rw [e1] at e
    rw [e2] at p
    simp [e, fIsX, D.isNon, atI, ixN, fEq_str hw h3, hn, p]
  by_cases c1 : b.w = c.w
  · by_cases c2 : b.h = c.h
    · by_cases c3 : b.d = c.d
      · have u1 : unB b c l m = unD (walk (msort l) (msort m)) := by simp [unB, c1, c2, c3]
        have u2 : unB c b m l = unD (walk (msort m) (msort l)) := by simp [unB, c1, c2, c3]
        rw [u1] at e
        rw [u2, walk_swap (msort l) (msort m)] at p
        cases hw : walk (msort l) (msort m) with
        | none =>
          rw [hw] at e p
          simp only [unD, Option.map_none] at e p
          simp [e, fIsX, D.isNon, p]
        | some r =>
          obtain ⟨k, z⟩ := r
          rw [hw] at e p
          simp only [unD, Option.map_some] at e p
          simp [e, fIsX, D.isNon, atI, ixN, fEq_str h3 h3, n4]
          have : (1 : Int) - bit k = bit (!k) := by cases k <;> rfl
          rw [this]
          exact p
      · exact one "depth" h6 n3 (by simp [unB, c1, c2, c3]) (by simp [unB, c1, c2]; exact fun h => absurd h.symm c3)
    · exact one "height" h5 n2 (by simp [unB, c1, c2]) (by simp [unB, c1]; exact fun h => absurd h.symm c2)
  · exact one "width" h4 n1 (by simp [unB, c1]) (by simp [unB]; exact fun h => absurd h.symm c1)
theorem fEq_kept {n : Bool} {b c : B} (hb : (allD b).fin = true) (hc : (allD c).fin = true) (p : P (.bl (true != n))) : fEq n (.tup [shD (allD b), shD (allD c)]) (.tup [shD (allD b), shD (allD c)]) P := by
  obtain ⟨s, e1, k1⟩ := sh_py hb
  obtain ⟨t, e2, k2⟩ := sh_py hc
  rw [e1, e2]
  exact fEq_shp (by simp [D.shp, D.shpL, k1, k2]) (by simp [D.dep, D.depL]) p
theorem fEq_bl {n : Bool} {x y : Bool} (p : P (.bl ((x == y) != n))) : fEq n (.bl x) (.bl y) P := ⟨.bool x, .bool y, rfl, rfl, rfl, rfl, by simpa [PyData.eqv] using p⟩
theorem G__law_right_true (hW : W = some wa) : G__law_right A W [.adr wa] (fun d => d = .bl true) noX := ⟨rfl, by
  simp only [w__law_right, slots0]
  refine Exists.intro 8 (And.intro rfl (And.intro (by decide) (And.intro (by decide) ?_)))
  refine dLoop_keep (I := fun ρ => ∃ x1 x2 x3 x4 x5 x6 : Sl, ρ = [.fz (.adr wa), x1, x2, x3, x4, x5, x6]) ?_ (fun ρ h => ?_) ⟨_, _, _, _, _, _, rfl⟩
  · rintro d hd _ ⟨x1, x2, x3, x4, x5, x6, rfl⟩ Q hQ
    obtain ⟨turn, ht, rfl⟩ := List.mem_map.mp hd
    refine ⟨_, rfl, fun ct bk => ?_⟩
    refine dSeq_pre (I := fun ρ => ∃ b, lwB b ∧ ρ = [.fz (.adr wa), .fz (.int turn), .fz (bD A b), x3, x4, x5, x6]) ?_ fun Q q => ?_
    rotate_left
    · simp
      exact c_law_box hW fun b hb => q _ ⟨b, hb, rfl⟩
    rintro _ ⟨b, hb, rfl⟩
    have b0 := ob_of hb
    have b1 := ob_up b0
    have b2 := ob_up b1
    refine dSeq_pre (I := fun ρ => ∃ c, oB 1 c ∧ ρ = [.fz (.adr wa), .fz (.int turn), .fz (bD A b), .fz (bD A c), x4, x5, x6]) ?_ fun Q q => ?_
    rotate_left
    · by_cases h6 : (turn : Int) < 6
      · simp [h6]
        exact c_law_other hW b0 (by decide) fun c hc => q _ ⟨c, hc, rfl⟩
      · simp [h6]
        exact c_law_box hW fun c hc => q _ ⟨c, ob_up (ob_of hc), rfl⟩
    rintro _ ⟨c', c1, rfl⟩
    refine dSeq_pre (I := fun ρ => ∃ c, oB 2 c ∧ ρ = [.fz (.adr wa), .fz (.int turn), .fz (bD A b), .fz (bD A c), x4, x5, x6]) ?_ fun Q q => ?_
    rotate_left
    · by_cases h5 : (turn : Int) = 5
      · simp [h5]
        exact c_law_other hW c1 (by decide) fun c hc => q _ ⟨c, hc, by simp [h5]⟩
      · simp [h5]
        exact q _ ⟨c', ob_up c1, rfl⟩
    rintro _ ⟨c, c2, rfl⟩
    have bb := ob_bg b2 (Nat.le_refl _)
    have bc := ob_bg c2 (Nat.le_refl _)
    have okb := bg_ok bb
    have okc := bg_ok bc
    obtain ⟨l, hl⟩ := ob_has b2 (Nat.le_refl _)
    obtain ⟨m, hm⟩ := ob_has c2 (Nat.le_refl _)
    have okl : ∀ i ∈ msort l, okI i := fun i hi => hl.ok i (msort_mem.mp hi)
    have okm : ∀ i ∈ msort m, okI i := fun i hi => hm.ok i (msort_mem.mp hi)
    refine dSeq_to (ρ' := [.fz (.adr wa), .fz (.int turn), .fz (bD A b), .fz (bD A c), .fz (.tup [shD (allD b), shD (allD c)]), x5, x6]) (fun Q q => ?_) ?_
    · simp [c_law_all]
      refine ob_repr b2 (Nat.le_refl _) (ob_repr c2 (Nat.le_refl _) q)
    refine dSeq_to (ρ' := [.fz (.adr wa), .fz (.int turn), .fz (bD A b), .fz (bD A c), .fz (.tup [shD (allD b), shD (allD c)]), x5, x6]) (fun Q q => ?_) ?_
    · simp
      refine c_ink okb hl (c_law_ink hl (fEq_its okl ⟨rfl, ?_⟩))
      refine c_ink okc hm (c_law_ink hm (fEq_its okm ⟨rfl, ?_⟩))
      refine c_same_ink okb okb hl hl ?_
      rw [un_self]
      exact ⟨rfl, q⟩
    refine dSeq_to (ρ' := [.fz (.adr wa), .fz (.int turn), .fz (bD A b), .fz (bD A c), .fz (.tup [shD (allD b), shD (allD c)]), .fz (unB b c l m), x6]) (fun Q q => ?_) ?_
    · simp
      exact c_law_unlike hl hm q
    refine dSeq_to (ρ' := [.fz (.adr wa), .fz (.int turn), .fz (bD A b), .fz (bD A c), .fz (.tup [shD (allD b), shD (allD c)]), .fz (unB b c l m), x6]) (fun Q q => ?_) ?_
    · simp
      refine c_first_unlike okb okc hl hm (fEq_un hl.ok hm.ok ⟨rfl, ?_⟩)
      refine c_same_ink okb okc hl hm ?_
      refine fEq_bl ⟨by simp, q⟩
    refine dSeq_to (ρ' := [.fz (.adr wa), .fz (.int turn), .fz (bD A b), .fz (bD A c), .fz (.tup [shD (allD b), shD (allD c)]), .fz (unB b c l m), .fz (unB c b m l)]) (fun Q q => ?_) ?_
    · exact d_back rfl q
    refine dSeq_to (ρ' := [.fz (.adr wa), .fz (.int turn), .fz (bD A b), .fz (bD A c), .fz (.tup [shD (allD b), shD (allD c)]), .fz (unB b c l m), .fz (unB c b m l)]) (fun Q q => ?_) ?_
    · simp
      refine c_first_unlike okc okb hm hl (fEq_un hm.ok hl.ok ⟨rfl, ?_⟩)
      refine c_first_unlike okc okc hm hm ?_
      rw [un_self]
      exact ⟨rfl, q⟩
    refine dSeq_to (ρ' := [.fz (.adr wa), .fz (.int turn), .fz (bD A b), .fz (bD A c), .fz (.tup [shD (allD b), shD (allD c)]), .fz (unB b c l m), .fz (unB c b m l)]) (fun Q q => ?_) ?_
    · simp
      refine clO_of (s_ink okb hl ⟨_, rfl, ?_, q⟩)
      have h1 := hasI_len hl
      have L1 : (msort l).length = l.length := List.length_mergeSort l
      have := lt_line (n := 1000) (by omega)
      rw [List.length_map]
      omega
    simp [c_law_all]
    refine ob_repr b2 (Nat.le_refl _) (ob_repr c2 (Nat.le_refl _) ?_)
    refine fEq_kept (all_fin bb) (all_fin bc) ⟨rfl, ?_⟩
    refine own_eqG b2 c2 (fEq_alls b2 c2 (fEq_bl ⟨by simp, hQ _ ⟨_, _, _, _, _, _, rfl⟩⟩))
  · trivial⟩
end MG.K09
set_option Elab.async false
set_option linter.all false
set_option maxRecDepth 100000
set_option maxHeartbeats 4000000
set_option autoImplicit false
namespace MG.K09
open PySem PySem.Spec PyProof.Rows L2 DL MB
section
variable {P : Program} {w : World} {K : PySem.W.Frag} {mg : Str → Option Value} {base : Heap}
theorem ok_is_integer (T : Txt K mg) : FnOk P w K mg base CX0 1 T.a_is_integer T.fd_is_integer ["value"] (spZ K (G_is_integer T.A)) :=
  okZ T.F_is_integer sc_is_integer fun cdv A outer s H E W F0 hr => (pssd_one (psd_ret (pd_and (pd_callB call_isi serves_isi mono_fIsi rfl T.z_isinstance (by decide +kernel) (pda_cons (pd_var (pv 0)) (pda_cons (pd_bty (T := "int") rfl T.z_int (by decide +kernel)) pda_nil))) (pd_and (pd_cmp op_isnotX serves_isnotX mono_fIsX (pd_var (pv 0)) pd_bl (nobehind _ (by decide) (by decide))) (pd_one (pd_cmp op_isnotX serves_isnotX mono_fIsX (pd_var (pv 0)) pd_bl (nobehind _ (by decide) (by decide))))))))
theorem ok_is_signed (T : Txt K mg) : FnOk P w K mg base CX0 1 T.a_is_signed T.fd_is_signed ["value"] (spZ K (G_is_signed T.A)) :=
  okZ T.F_is_signed sc_is_signed fun cdv A outer s H E W F0 hr => (pssd_cons (psd_if (pdt_w (pdw_and (pdt_cmp op_neTy serves_tyCmp mono_fTyCmp (pd_callTy call_typX serves_typ mono_fTyp rfl T.z_type (by decide +kernel) (pda_cons (pd_var (pv 0)) pda_nil)) (pd_bty (T := "int") rfl T.z_int (by decide +kernel)) (nobehind _ (by decide) (by decide))) (pdw_and1 (pdt_w (pdw_or (pdt_not (pdt_val (pd_callB call_isi serves_isi mono_fIsi rfl T.z_isinstance (by decide +kernel) (pda_cons (pd_var (pv 0)) (pda_cons (pd_bty (T := "int") rfl T.z_int (by decide +kernel)) pda_nil))))) (pdw_or (pdt_cmp op_isX serves_isX mono_fIsX (pd_var (pv 0)) pd_bl (nobehind _ (by decide) (by decide))) (pdw_or1 (pdt_cmp op_isX serves_isX mono_fIsX (pd_var (pv 0)) pd_bl (nobehind _ (by decide) (by decide)))))))))) (pssd_one (psd_ret pd_bl)) pssd_nil) (pssd_one (psd_ret (pd_chain op_le op_le serves_B0 serves_B0 mono_fB0 mono_fB0 (pd_gint rfl T.m_LEAST) (pd_var (pv 0)) (pd_gint rfl T.m_LIMIT)))))
theorem ok_Box___init__ (T : Txt K mg) : FnOk P w K mg base CX0 1 T.a_Box___init__ T.fd_Box___init__ ["self", "width", "height", "depth", "marks"] (spIo K T.A.Box (GI_Box T.A)) :=
  okIo T.F_Box___init__ sc_Box___init__ fun cdv A outer s H E W F0 H0 hr => (pssd_cons (psd_fset (pv 0) T.cl_Box T.n_Box_width (pd_var (pv 1))) (pssd_cons (psd_fset (pv 0) T.cl_Box T.n_Box_height (pd_var (pv 2))) (pssd_cons (psd_fset (pv 0) T.cl_Box T.n_Box_depth (pd_var (pv 3))) (pssd_one (psd_fsetL (pv 0) T.cl_Box T.n_Box_marks rfl T.z_list (pdt_val (pd_callB call_isiS serves_isiT mono_fIsiT rfl T.z_isinstance (by decide +kernel) (pda_cons (pd_var (pv 4)) (pda_cons (pd_tup (pda_cons (pd_bty (T := "list") rfl T.z_list (by decide +kernel)) (pda_cons (pd_bty (T := "tuple") rfl T.z_tuple (by decide +kernel)) pda_nil))) pda_nil)))) (pd_var (pv 4)) (PD.pe (c := ⟨W, F0, H0, noX⟩) (pd_var (pv 4))))))))
theorem ok_Box___eq__ (T : Txt K mg) : FnOk P w K mg base CX0 1 T.a_Box___eq__ T.fd_Box___eq__ ["self", "other"] (spZ K (G_Box___eq__ T.A)) :=
  okZ T.F_Box___eq__ sc_Box___eq__ fun cdv A outer s H E W F0 hr => (pssd_one (psd_ret (pd_and (pd_callB (call_isK T.is_Box) serves_isK mono_fIsK rfl T.z_isinstance (by decide +kernel) (pda_cons (pd_var (pv 1)) (pda_cons (pd_gref rfl T.m_Box) pda_nil))) (pd_and (pd_cmp (op_eqD (hu64 hr)) serves_eq mono_fEq (pd_fld T.cl_Box T.n_Box_width (pd_var (pv 0))) (pd_fld T.cl_Box T.n_Box_width (pd_var (pv 1))) (nobehind _ (by decide) (by decide))) (pd_and (pd_cmp (op_eqD (hu64 hr)) serves_eq mono_fEq (pd_fld T.cl_Box T.n_Box_height (pd_var (pv 0))) (pd_fld T.cl_Box T.n_Box_height (pd_var (pv 1))) (nobehind _ (by decide) (by decide))) (pd_and (pd_cmp (op_eqD (hu64 hr)) serves_eq mono_fEq (pd_fld T.cl_Box T.n_Box_depth (pd_var (pv 0))) (pd_fld T.cl_Box T.n_Box_depth (pd_var (pv 1))) (nobehind _ (by decide) (by decide))) (pd_one (pd_cmp (op_eqD (hu64 hr)) serves_eq mono_fEq (pd_fld T.cl_Box T.n_Box_marks (pd_var (pv 0))) (pd_fld T.cl_Box T.n_Box_marks (pd_var (pv 1))) (nobehind _ (by decide) (by decide))))))))))
theorem okO_ink_of (T : Txt K mg) : FnOk P w K mg base CX0 1 T.a_ink_of T.fd_ink_of ["box"] (spO K (GO_ink_of T.A)) :=
  okO T.F_ink_of sc_ink_of fun cdv A outer s H E W F0 hr => (pssd_one (psd_retO (pdn_sort (hu64 hr) rfl T.z_sorted (by decide +kernel) (pd_lc (own := [("x", 1), ("y", 2), ("mark", 3)]) rfl sc_ink_of.nd (pid_any (pd_fld T.cl_Box T.n_Box_marks (pd_var (pv 0)))) (blkOk_by (N := sc_ink_ofN) (sc := defScope stm_ink_of) (by decide +kernel)) (fun _ _ _ _ _ => (pgd_seq (K := K) rfl rfl (pgds_cons (pgd_name (i := 1) sc_ink_of.nd rfl (by first | exact Or.inl rfl | exact Or.inr rfl)) (pgds_cons (pgd_name (i := 2) sc_ink_of.nd rfl (by first | exact Or.inl rfl | exact Or.inr rfl)) (pgds_cons (pgd_name (i := 3) sc_ink_of.nd rfl (by first | exact Or.inl rfl | exact Or.inr rfl)) pgds_nil))) (setCons_len (setCons_len (setCons_len set0))))) (by decide) (fun _ _ _ _ _ => ptd_nil) (fun _ _ _ _ _ => (pd_addX (pd_tup (pda_cons (pd_var (pv 1)) (pda_cons (pd_var (pv 2)) (pda_cons (pd_item (pd_var (pv 3)) pd_int (fun _ _ => rfl)) pda_nil)))) (pd_slice (pd_var (pv 3)) (pdo_some pd_int) pdo_none)))))))
theorem ok_ink_of (T : Txt K mg) : FnOk P w K mg base CX0 1 T.a_ink_of T.fd_ink_of ["box"] (spZ K (G_ink_of T.A)) := DL.FnOk.frz (okO_ink_of T)
theorem ok_unlike_ink (T : Txt K mg) : FnOk P w K mg base CX0 1 T.a_unlike_ink T.fd_unlike_ink ["one", "other"] (spZ K (G_unlike_ink T.A)) :=
  okZ T.F_unlike_ink sc_unlike_ink fun cdv A outer s H E W F0 hr => (pssd_cons (psd_for PassesOwn.never rfl (pid_enum rfl T.z_enumerate (pda_cons (pd_var (pv 0)) pda_nil)) (pgd_seq (K := K) rfl rfl (pgds_cons (pgd_name (i := 2) sc_unlike_ink.nd rfl (by first | exact Or.inl rfl | exact Or.inr rfl)) (pgds_cons (pgd_name (i := 3) sc_unlike_ink.nd rfl (by first | exact Or.inl rfl | exact Or.inr rfl)) pgds_nil)) (setCons_len (setCons_len set0))) (pssd_cons (psd_if (pdt_w (pdw_or (pdt_cmp (op_eqD (hu64 hr)) serves_eq mono_fEq (pd_var (pv 2)) (pd_callB call_lenX serves_lenX mono_fLenX rfl T.z_len (by decide +kernel) (pda_cons (pd_var (pv 1)) pda_nil)) (nobehind _ (by decide) (by decide))) (pdw_or1 (pdt_cmp (op_ltD (hu64 hr)) serves_ltD mono_fLtD (pd_var (pv 3)) (pd_item (pd_var (pv 1)) (pd_var (pv 2)) (fun _ _ => rfl)) (nobehind _ (by decide) (by decide)))))) (pssd_one (psd_ret (pd_tup (pda_cons pd_str (pda_cons pd_int (pda_cons (pd_var (pv 3)) pda_nil)))))) pssd_nil) (pssd_one (psd_if (pdt_cmp (op_ltD (hu64 hr)) serves_ltD mono_fLtD (pd_item (pd_var (pv 1)) (pd_var (pv 2)) (fun _ _ => rfl)) (pd_var (pv 3)) (nobehind _ (by decide) (by decide))) (pssd_one (psd_ret (pd_tup (pda_cons pd_str (pda_cons pd_int (pda_cons (pd_item (pd_var (pv 1)) (pd_var (pv 2)) (fun _ _ => rfl)) pda_nil)))))) pssd_nil)))) (pssd_cons (psd_if (pdt_cmp op_lt serves_B0 mono_fB0 (pd_callB call_lenX serves_lenX mono_fLenX rfl T.z_len (by decide +kernel) (pda_cons (pd_var (pv 0)) pda_nil)) (pd_callB call_lenX serves_lenX mono_fLenX rfl T.z_len (by decide +kernel) (pda_cons (pd_var (pv 1)) pda_nil)) (nobehind _ (by decide) (by decide))) (pssd_one (psd_ret (pd_tup (pda_cons pd_str (pda_cons pd_int (pda_cons (pd_item (pd_var (pv 1)) (pd_callB call_lenX serves_lenX mono_fLenX rfl T.z_len (by decide +kernel) (pda_cons (pd_var (pv 0)) pda_nil)) (fun _ _ => rfl)) pda_nil)))))) pssd_nil) (pssd_one (psd_ret pd_non))))
theorem ok__law_mix (T : Txt K mg) : FnOk P w K mg base CX0 1 T.a__law_mix T.fd__law_mix ["cell", "lap"] (spZ K (G__law_mix T.A)) :=
  okZ T.F__law_mix sc__law_mix fun cdv A outer s H E W F0 hr => (pssd_cons (psd_set (i := 2) sc__law_mix.nd rfl (by first | exact Or.inl rfl | exact Or.inr rfl) (pd_addX (pd_addX (pd_addX (pd_mod (pd_callTy call_int1 serves_int mono_fInt rfl T.z_int (by decide +kernel) (pda_cons (pd_var (pv 0)) pda_nil)) pd_int) (pd_mulA pd_int (pd_var (pv 1)))) (pd_mod (pd_callTy call_int1 serves_int mono_fInt rfl T.z_int (by decide +kernel) (pda_cons (pd_fdiv (pd_var (pv 0)) pd_int) pda_nil)) pd_int)) pd_int)) (pssd_cons (psd_set (i := 2) sc__law_mix.nd rfl (by first | exact Or.inl rfl | exact Or.inr rfl) (pd_mod (pd_callTy call_int1 serves_int mono_fInt rfl T.z_int (by decide +kernel) (pda_cons (pd_mulA (pd_var (pv 2)) pd_int) pda_nil)) pd_int)) (pssd_cons (psd_set (i := 2) sc__law_mix.nd rfl (by first | exact Or.inl rfl | exact Or.inr rfl) (pd_mod (pd_callTy call_int1 serves_int mono_fInt rfl T.z_int (by decide +kernel) (pda_cons (pd_mulA (pd_var (pv 2)) (pd_addX (pd_addX (pd_fdiv (pd_var (pv 2)) pd_int) pd_int) (pd_var (pv 1)))) pda_nil)) pd_int)) (pssd_one (psd_ret (pd_mod (pd_callTy call_int1 serves_int mono_fInt rfl T.z_int (by decide +kernel) (pda_cons (pd_mulA (pd_var (pv 2)) (pd_addX (pd_fdiv (pd_var (pv 2)) pd_int) pd_int)) pda_nil)) pd_int))))))
theorem ok__law_source (T : Txt K mg) : FnOk P w K mg base CX0 1 T.a__law_source T.fd__law_source ["script", "k"] (spSource K) := by
  refine T.F__law_source.ok sc__law_source (fun vs H Q E h => ?_) (fun cdv A outer s H vs Q E hr h => ?_)
  · obtain ⟨a, ns, k, rfl, _⟩ := h
    rfl
  · obtain ⟨a, ns, k, rfl, hS, hl, hk, q⟩ := h
    have line : ∀ n : Nat, n ≤ 100 → n ≤ sizeLine := fun n h => Nat.le_trans h (by decide)
    refine ⟨_, pss_cons (ps_set (i := 2) sc__law_source.nd rfl (Or.inl rfl) (pe_op op_add (pe_ix ix_list (pe_op op_catS (pv 0) (pe_lst (pa_cons pe_int pa_nil))) pe_int (fun _ _ => rfl)) (pe_op op_mulA pe_int (pv 1))))
      (C8.pss_cut (ps_if (pt_cmpR op_lt (pv 1) (pe_callB call_len_seq (by rfl) T.z_len PySem.boot_len (pa_cons (pv 0) pa_nil)) (nomark _)) (pss_one (ps_set (i := 2) sc__law_source.nd rfl (Or.inl rfl) (pe_ix ix_list (pv 0) (pv 1) (fun _ _ => rfl)))) pss_nil)
        (pss_one (ps_ret (pe_lst (pa_cons (pe_op op_mulA (pv 2) (pe_callTy call_int1 rfl T.z_int (by decide +kernel) (pa_cons (pe_cmpR op_ge (pv 2) (pe_op op_pow pe_int pe_int) (nomark _)) pa_nil))) (pa_cons (pv 2) (pa_cons pe_int pa_nil))))))), ?_⟩
    have h0 : ∃ z, atI (ns.map V.int ++ [V.int 0]) 0 = some (.int z) := by
      cases ns with
      | nil => exact ⟨0, atI_nat (j := 0) rfl⟩
      | cons z r => exact ⟨z, atI_nat (j := 0) rfl⟩
    obtain ⟨z, hz⟩ := h0
    refine ⟨_, rfl, (by show 1 ≤ sizeLine; decide), fun l hl => ?_⟩
    have s1 : Same H (upd H l (.lst [.int 0])) := DL.same_upd hl
    refine ⟨a, l, _, _, rfl, rfl, s1.seq hS, .of upd_same, (by rw [List.length_map]; exact line _ (by show ns.length + 1 ≤ 100; omega)), fun p hp => ?_⟩
    have s2 := s1.trans (DL.same_upd (o := .lst (ns.map V.int ++ [.int 0])) hp)
    refine ⟨p, _, 0, .int z, rfl, rfl, .of upd_same, hz, _, rfl, 7919, (k : Int), rfl, rfl, mulOk_left (by decide) (by decide), z, 7919 * (k : Int), rfl, rfl, ?_⟩
    refine ⟨fun σ' H' => ∃ z, σ' = [some (.ref a), some (.int (k : Int)), some (.int z)] ∧ Same H H', ?_, fun σ' H' h => ?_⟩
    · refine ⟨_, rfl, _, rfl, a, ns.map V.int, rfl, .inl (s2.seq hS), (k : Int), _, rfl, rfl, _, rfl, ite2 (fun hlt => ?_) (fun _ => ?_)⟩
      · have hlt' : k < ns.length := by simpa using hlt
        refine ⟨_, rfl, _, rfl, a, _, (k : Int), .int ns[k], rfl, rfl, s2.seq hS, atI_nat (by simp [hlt']), ?_⟩
        exact ⟨_, rfl, s2⟩
      · exact ⟨_, rfl, s2⟩
    · obtain ⟨z, rfl, s⟩ := h
      refine ⟨_, rfl, _, rfl, 10, 18, rfl, rfl, ⟨by decide, by decide, by decide⟩, z, _, rfl, rfl, .inr ⟨_, rfl, z, _, rfl, rfl, mulOk_right (by split <;> decide) (by split <;> decide), _, rfl, (by show 3 ≤ sizeLine; decide), fun l hl => ?_⟩⟩
      exact q H' l _ _ s hl
theorem ok__law_all (T : Txt K mg) : FnOk P w K mg base CX0 1 T.a__law_all T.fd__law_all ["one"] (spZ K (G__law_all T.A)) :=
  okZ T.F__law_all sc__law_all fun cdv A outer s H E W F0 hr => (pssd_one (psd_ret (pd_tup (pda_cons (pd_fld T.cl_Box T.n_Box_width (pd_var (pv 0))) (pda_cons (pd_fld T.cl_Box T.n_Box_height (pd_var (pv 0))) (pda_cons (pd_fld T.cl_Box T.n_Box_depth (pd_var (pv 0))) (pda_cons (pd_fld T.cl_Box T.n_Box_marks (pd_var (pv 0))) pda_nil)))))))
theorem ok__law_ink (T : Txt K mg) : FnOk P w K mg base CX0 1 T.a__law_ink T.fd__law_ink ["one"] (spZ K (G__law_ink T.A)) :=
  okZ T.F__law_ink sc__law_ink fun cdv A outer s H E W F0 hr => (pssd_one (psd_ret (pd_callB (cr_sortD (hu64 hr)) serves_sortD mono_fSort rfl T.z_sorted (by decide +kernel) (pda_cons (pd_lc (own := [("x", 1), ("y", 2), ("mark", 3)]) rfl sc__law_ink.nd (pid_any (pd_fld T.cl_Box T.n_Box_marks (pd_var (pv 0)))) (blkOk_by (N := sc__law_inkN) (sc := defScope stm__law_ink) (by decide +kernel)) (fun _ _ _ _ _ => (pgd_seq (K := K) rfl rfl (pgds_cons (pgd_name (i := 1) sc__law_ink.nd rfl (by first | exact Or.inl rfl | exact Or.inr rfl)) (pgds_cons (pgd_name (i := 2) sc__law_ink.nd rfl (by first | exact Or.inl rfl | exact Or.inr rfl)) (pgds_cons (pgd_name (i := 3) sc__law_ink.nd rfl (by first | exact Or.inl rfl | exact Or.inr rfl)) pgds_nil))) (setCons_len (setCons_len (setCons_len set0))))) (by decide) (fun _ _ _ _ _ => ptd_nil) (fun _ _ _ _ _ => (pd_addX (pd_tup (pda_cons (pd_var (pv 1)) (pda_cons (pd_var (pv 2)) (pda_cons (pd_item (pd_var (pv 3)) pd_int (fun _ _ => rfl)) pda_nil)))) (pd_slice (pd_var (pv 3)) (pdo_some pd_int) pdo_none)))) pda_nil))))
theorem ok_are_marks (T : Txt K mg) : FnOk P w K mg base CX0 2 T.a_are_marks T.fd_are_marks ["marks"] (spZ K (G_are_marks T.A)) :=
  okZ T.F_are_marks sc_are_marks fun cdv A outer s H E W F0 hr => (pssd_cons (psd_for PassesOwn.never rfl (pid_any (pd_var (pv 0))) (pgd_name (i := 1) sc_are_marks.nd rfl (by first | exact Or.inl rfl | exact Or.inr rfl)) (pssd_cons (psd_if (pdt_w (pdw_or (pdt_not (pdt_val (pd_callB call_isi serves_isi mono_fIsi rfl T.z_isinstance (by decide +kernel) (pda_cons (pd_var (pv 1)) (pda_cons (pd_bty (T := "tuple") rfl T.z_tuple (by decide +kernel)) pda_nil))))) (pdw_or1 (pdt_cmp (op_neD (hu64 hr)) serves_ne mono_fEq (pd_callB call_lenX serves_lenX mono_fLenX rfl T.z_len (by decide +kernel) (pda_cons (pd_var (pv 1)) pda_nil)) pd_int (nobehind _ (by decide) (by decide)))))) (pssd_one (psd_ret pd_bl)) pssd_nil) (pssd_cons (psd_asg (pd_var (pv 1)) (pgd_seq (K := K) rfl rfl (pgds_cons (pgd_name (i := 2) sc_are_marks.nd rfl (by first | exact Or.inl rfl | exact Or.inr rfl)) (pgds_cons (pgd_name (i := 3) sc_are_marks.nd rfl (by first | exact Or.inl rfl | exact Or.inr rfl)) (pgds_cons (pgd_name (i := 4) sc_are_marks.nd rfl (by first | exact Or.inl rfl | exact Or.inr rfl)) pgds_nil))) (setCons_len (setCons_len (setCons_len set0))))) (pssd_cons (psd_if (pdt_not (pdt_w (pdw_or (pdt_w (pdw_and (pdt_cmp op_eqTy serves_tyCmp mono_fTyCmp (pd_callTy call_typX serves_typ mono_fTyp rfl T.z_type (by decide +kernel) (pda_cons (pd_var (pv 2)) pda_nil)) (pd_bty (T := "int") rfl T.z_int (by decide +kernel)) (nobehind _ (by decide) (by decide))) (pdw_and1 (pdt_chain op_le op_le serves_B0 serves_B0 mono_fB0 mono_fB0 (pd_gint rfl T.m_LEAST) (pd_var (pv 2)) (pd_gint rfl T.m_LIMIT))))) (pdw_or1 (pdt_val (pd_callZ (ok_is_signed T) (hr.mono (by decide)) rfl T.m_is_signed T.F_is_signed.kp T.b_is_signed .nil (fun _ => .nil) (pda_cons (pd_var (pv 2)) pda_nil))))))) (pssd_one (psd_ret pd_bl)) pssd_nil) (pssd_cons (psd_if (pdt_not (pdt_w (pdw_or (pdt_w (pdw_and (pdt_cmp op_eqTy serves_tyCmp mono_fTyCmp (pd_callTy call_typX serves_typ mono_fTyp rfl T.z_type (by decide +kernel) (pda_cons (pd_var (pv 3)) pda_nil)) (pd_bty (T := "int") rfl T.z_int (by decide +kernel)) (nobehind _ (by decide) (by decide))) (pdw_and1 (pdt_chain op_le op_le serves_B0 serves_B0 mono_fB0 mono_fB0 (pd_gint rfl T.m_LEAST) (pd_var (pv 3)) (pd_gint rfl T.m_LIMIT))))) (pdw_or1 (pdt_val (pd_callZ (ok_is_signed T) (hr.mono (by decide)) rfl T.m_is_signed T.F_is_signed.kp T.b_is_signed .nil (fun _ => .nil) (pda_cons (pd_var (pv 3)) pda_nil))))))) (pssd_one (psd_ret pd_bl)) pssd_nil) (pssd_cons (psd_if (pdt_not (pdt_val (pd_callB call_isi serves_isi mono_fIsi rfl T.z_isinstance (by decide +kernel) (pda_cons (pd_var (pv 4)) (pda_cons (pd_bty (T := "tuple") rfl T.z_tuple (by decide +kernel)) pda_nil))))) (pssd_one (psd_ret pd_bl)) pssd_nil) (pssd_cons (psd_if (pdt_cmp (op_eqD (hu64 hr)) serves_eq mono_fEq (pd_callB call_lenX serves_lenX mono_fLenX rfl T.z_len (by decide +kernel) (pda_cons (pd_var (pv 4)) pda_nil)) pd_int (nobehind _ (by decide) (by decide))) (pssd_cons (psd_asg (pd_var (pv 4)) (pgd_seq (K := K) rfl rfl (pgds_cons (pgd_name (i := 5) sc_are_marks.nd rfl (by first | exact Or.inl rfl | exact Or.inr rfl)) (pgds_cons (pgd_name (i := 6) sc_are_marks.nd rfl (by first | exact Or.inl rfl | exact Or.inr rfl)) (pgds_cons (pgd_name (i := 7) sc_are_marks.nd rfl (by first | exact Or.inl rfl | exact Or.inr rfl)) (pgds_cons (pgd_name (i := 8) sc_are_marks.nd rfl (by first | exact Or.inl rfl | exact Or.inr rfl)) pgds_nil)))) (setCons_len (setCons_len (setCons_len (setCons_len set0)))))) (pssd_cons (psd_if (pdt_w (pdw_or (pdt_not (pdt_val (pd_callB call_isi serves_isi mono_fIsi rfl T.z_isinstance (by decide +kernel) (pda_cons (pd_var (pv 5)) (pda_cons (pd_bty (T := "str") rfl T.z_str (by decide +kernel)) pda_nil))))) (pdw_or1 (pdt_cmp (op_neD (hu64 hr)) serves_ne mono_fEq (pd_var (pv 5)) pd_str (nobehind _ (by decide) (by decide)))))) (pssd_one (psd_ret pd_bl)) pssd_nil) (pssd_cons (psd_if (pdt_not (pdt_w (pdw_or (pdt_w (pdw_and (pdt_cmp op_eqTy serves_tyCmp mono_fTyCmp (pd_callTy call_typX serves_typ mono_fTyp rfl T.z_type (by decide +kernel) (pda_cons (pd_var (pv 7)) pda_nil)) (pd_bty (T := "int") rfl T.z_int (by decide +kernel)) (nobehind _ (by decide) (by decide))) (pdw_and1 (pdt_chain op_le op_le serves_B0 serves_B0 mono_fB0 mono_fB0 (pd_gint rfl T.m_LEAST) (pd_var (pv 7)) (pd_gint rfl T.m_LIMIT))))) (pdw_or1 (pdt_val (pd_callZ (ok_is_signed T) (hr.mono (by decide)) rfl T.m_is_signed T.F_is_signed.kp T.b_is_signed .nil (fun _ => .nil) (pda_cons (pd_var (pv 7)) pda_nil))))))) (pssd_one (psd_ret pd_bl)) pssd_nil) (pssd_one (psd_if (pdt_not (pdt_w (pdw_or (pdt_w (pdw_and (pdt_cmp op_eqTy serves_tyCmp mono_fTyCmp (pd_callTy call_typX serves_typ mono_fTyp rfl T.z_type (by decide +kernel) (pda_cons (pd_var (pv 8)) pda_nil)) (pd_bty (T := "int") rfl T.z_int (by decide +kernel)) (nobehind _ (by decide) (by decide))) (pdw_and1 (pdt_chain op_le op_le serves_B0 serves_B0 mono_fB0 mono_fB0 (pd_gint rfl T.m_LEAST) (pd_var (pv 8)) (pd_gint rfl T.m_LIMIT))))) (pdw_or1 (pdt_val (pd_callZ (ok_is_signed T) (hr.mono (by decide)) rfl T.m_is_signed T.F_is_signed.kp T.b_is_signed .nil (fun _ => .nil) (pda_cons (pd_var (pv 8)) pda_nil))))))) (pssd_one (psd_ret pd_bl)) pssd_nil))))) (pssd_one (psd_if (pdt_cmp (op_eqD (hu64 hr)) serves_eq mono_fEq (pd_callB call_lenX serves_lenX mono_fLenX rfl T.z_len (by decide +kernel) (pda_cons (pd_var (pv 4)) pda_nil)) pd_int (nobehind _ (by decide) (by decide))) (pssd_cons (psd_asg (pd_var (pv 4)) (pgd_seq (K := K) rfl rfl (pgds_cons (pgd_name (i := 5) sc_are_marks.nd rfl (by first | exact Or.inl rfl | exact Or.inr rfl)) (pgds_cons (pgd_name (i := 6) sc_are_marks.nd rfl (by first | exact Or.inl rfl | exact Or.inr rfl)) (pgds_cons (pgd_name (i := 9) sc_are_marks.nd rfl (by first | exact Or.inl rfl | exact Or.inr rfl)) (pgds_cons (pgd_name (i := 10) sc_are_marks.nd rfl (by first | exact Or.inl rfl | exact Or.inr rfl)) (pgds_cons (pgd_name (i := 11) sc_are_marks.nd rfl (by first | exact Or.inl rfl | exact Or.inr rfl)) pgds_nil))))) (setCons_len (setCons_len (setCons_len (setCons_len (setCons_len set0))))))) (pssd_cons (psd_if (pdt_w (pdw_or (pdt_not (pdt_val (pd_callB call_isi serves_isi mono_fIsi rfl T.z_isinstance (by decide +kernel) (pda_cons (pd_var (pv 5)) (pda_cons (pd_bty (T := "str") rfl T.z_str (by decide +kernel)) pda_nil))))) (pdw_or1 (pdt_cmp (op_neD (hu64 hr)) serves_ne mono_fEq (pd_var (pv 5)) pd_str (nobehind _ (by decide) (by decide)))))) (pssd_one (psd_ret pd_bl)) pssd_nil) (pssd_cons (psd_if (pdt_w (pdw_or (pdt_not (pdt_w (pdw_or (pdt_cmp op_eqTy serves_tyCmp mono_fTyCmp (pd_callTy call_typX serves_typ mono_fTyp rfl T.z_type (by decide +kernel) (pda_cons (pd_var (pv 9)) pda_nil)) (pd_bty (T := "int") rfl T.z_int (by decide +kernel)) (nobehind _ (by decide) (by decide))) (pdw_or1 (pdt_val (pd_callZ (ok_is_integer T) (hr.mono (by decide)) rfl T.m_is_integer T.F_is_integer.kp T.b_is_integer .nil (fun _ => .nil) (pda_cons (pd_var (pv 9)) pda_nil))))))) (pdw_or1 (pdt_not (pdt_chain op_le op_lt serves_B0 serves_B0 mono_fB0 mono_fB0 pd_int (pd_var (pv 9)) (pd_gint rfl T.m_MOST_FAMILIES)))))) (pssd_one (psd_ret pd_bl)) pssd_nil) (pssd_cons (psd_if (pdt_w (pdw_or (pdt_not (pdt_w (pdw_or (pdt_cmp op_eqTy serves_tyCmp mono_fTyCmp (pd_callTy call_typX serves_typ mono_fTyp rfl T.z_type (by decide +kernel) (pda_cons (pd_var (pv 10)) pda_nil)) (pd_bty (T := "int") rfl T.z_int (by decide +kernel)) (nobehind _ (by decide) (by decide))) (pdw_or1 (pdt_val (pd_callZ (ok_is_integer T) (hr.mono (by decide)) rfl T.m_is_integer T.F_is_integer.kp T.b_is_integer .nil (fun _ => .nil) (pda_cons (pd_var (pv 10)) pda_nil))))))) (pdw_or1 (pdt_not (pdt_chain op_le op_lt serves_B0 serves_B0 mono_fB0 mono_fB0 pd_int (pd_var (pv 10)) (pd_gint rfl T.m_SIZES)))))) (pssd_one (psd_ret pd_bl)) pssd_nil) (pssd_cons (psd_if (pdt_not (pdt_w (pdw_and (pdt_val (pd_callB call_isi serves_isi mono_fIsi rfl T.z_isinstance (by decide +kernel) (pda_cons (pd_var (pv 11)) (pda_cons (pd_bty (T := "str") rfl T.z_str (by decide +kernel)) pda_nil)))) (pdw_and1 (pdt_cmp op_le serves_B0 mono_fB0 (pd_callB call_lenX serves_lenX mono_fLenX rfl T.z_len (by decide +kernel) (pda_cons (pd_var (pv 11)) pda_nil)) (pd_gint rfl T.m_MOST_LETTERS) (nobehind _ (by decide) (by decide))))))) (pssd_one (psd_ret pd_bl)) pssd_nil) (pssd_one (psd_if (pdt_not (pdt_w (pdw_and (pdt_val (pd_strB PySem.F.slot_str_isascii PySem.F.type_str_isascii mt_isascii (pd_var (pv 11)))) (pdw_and (pdt_val (pd_strB PySem.F.slot_str_isalpha PySem.F.type_str_isalpha mt_isalpha (pd_var (pv 11)))) (pdw_and1 (pdt_val (pd_strB PySem.F.slot_str_islower PySem.F.type_str_islower mt_islower (pd_var (pv 11))))))))) (pssd_one (psd_ret pd_bl)) pssd_nil))))))) (pssd_one (psd_ret pd_bl))))) (pssd_cons (psd_if (pdt_not (pdt_val (pd_callB call_isi serves_isi mono_fIsi rfl T.z_isinstance (by decide +kernel) (pda_cons (pd_var (pv 6)) (pda_cons (pd_bty (T := "tuple") rfl T.z_tuple (by decide +kernel)) pda_nil))))) (pssd_one (psd_ret pd_bl)) pssd_nil) (pssd_one (psd_for PassesOwn.never rfl (pid_any (pd_var (pv 6))) (pgd_name (i := 12) sc_are_marks.nd rfl (by first | exact Or.inl rfl | exact Or.inr rfl)) (pssd_one (psd_if (pdt_not (pdt_w (pdw_and (pdt_w (pdw_or (pdt_cmp op_eqTy serves_tyCmp mono_fTyCmp (pd_callTy call_typX serves_typ mono_fTyp rfl T.z_type (by decide +kernel) (pda_cons (pd_var (pv 12)) pda_nil)) (pd_bty (T := "int") rfl T.z_int (by decide +kernel)) (nobehind _ (by decide) (by decide))) (pdw_or1 (pdt_val (pd_callZ (ok_is_integer T) (hr.mono (by decide)) rfl T.m_is_integer T.F_is_integer.kp T.b_is_integer .nil (fun _ => .nil) (pda_cons (pd_var (pv 12)) pda_nil)))))) (pdw_and1 (pdt_cmp op_ge serves_B0 mono_fB0 (pd_var (pv 12)) pd_int (nobehind _ (by decide) (by decide))))))) (pssd_one (psd_ret pd_bl)) pssd_nil)))))))))))) (pssd_one (psd_ret pd_bl)))
theorem ok__law_draw (T : Txt K mg) : FnOk P w K mg base CX0 2 T.a__law_draw T.fd__law_draw ["well", "many"] (spZ K (G__law_draw T.A)) := by
  refine T.F__law_draw.ok sc__law_draw (fun vs H Q E h => ?_) (fun cdv A outer s H vs Q E hr h => ?_)
  · obtain ⟨W, F, ds, Pd, _, d, ⟨wa, many, rfl, _⟩, _⟩ := h
    rw [d.length]
    rfl
  · obtain ⟨W, F, ds, Pd, G, d, ⟨wa, many, rfl, hw, h0, h30, q⟩, kq⟩ := h
    obtain ⟨v1, v2, rfl, d1, d2⟩ := datL2 d
    cases d1
    cases d2
    obtain ⟨nF, i, j, l, hH⟩ := G.well wa hw
    refine ⟨_, pss_cons (ps_if (pt_cmpR op_gt (pe_ix ix_list (pv 0) pe_int (fun _ _ => rfl)) pe_int (nomark _))
        (pss_cons (ps_set (i := 2) sc__law_draw.nd rfl (Or.inl rfl) (pe_op op_mod (pe_callTy call_int1 rfl T.z_int (by decide +kernel) (pa_cons (pe_ix ix_list (pv 0) pe_int (fun _ _ => rfl)) pa_nil)) (pv 1)))
          (pss_cons (ps_asg (pe_op op_fdivW (pe_ix ix_list (pv 0) pe_int (fun _ _ => rfl)) (pv 1)) (pg_sub (pv 0) pe_int set_list)) (pss_one (ps_ret (pv 2))))) pss_nil)
      (pss_cons (ps_asg (pe_op op_add (pe_ix ix_list (pv 0) pe_int (fun _ _ => rfl)) pe_int) (pg_sub (pv 0) pe_int set_list))
        (pss_one (ps_ret (pe_op op_mod (pe_callTy call_int1 rfl T.z_int (by decide +kernel) (pa_cons (pe_call (E := E0) (ok__law_mix T) (hr.mono (by decide)) rfl T.m__law_mix T.F__law_mix.kp T.b__law_mix .nil pass0 (pa_cons (pe_ix ix_list (pv 0) pe_int (fun _ _ => rfl)) (pa_cons (pe_ix ix_list (pv 0) pe_int (fun _ _ => rfl)) pa_nil))) pa_nil)) (pv 1))))), ?_⟩
    refine ⟨_, rfl, wa, _, 0, .int i, rfl, rfl, .of hH, rfl, i, 0, rfl, rfl, _, rfl, ?_⟩
    refine ite2 (fun hg => ?_) (fun hg => ?_)
    · refine ⟨_, rfl, wa, _, 0, .int i, rfl, rfl, .of hH, rfl, .inl ⟨i, rfl, _, rfl, i, many, rfl, rfl, h0, ?_⟩⟩
      refine ⟨_, rfl, wa, _, 0, .int i, rfl, rfl, .of hH, rfl, _, rfl, i, many, rfl, rfl, wide_div h0 (b := 30) (by omega) (by decide) (by decide), _, rfl, wa, _, 0, 0, rfl, rfl, hH, rfl, ?_⟩
      exact ⟨_, rfl, kq _ (q (i % many) (Int.emod_nonneg _ (by omega)) (Int.emod_lt_of_pos _ h0)) _ F _ (well_upd G hw) (.int _)⟩
    · refine ⟨_, rfl, wa, _, 2, .int l, rfl, rfl, .of hH, rfl, l, 1, rfl, rfl, _, rfl, wa, _, 2, 2, rfl, rfl, hH, rfl, ?_⟩
      refine ⟨_, rfl, wa, _, 1, .int j, rfl, rfl, .of upd_same, rfl, _, rfl, wa, _, 2, .int (l + 1), rfl, rfl, .of upd_same, rfl, ?_⟩
      refine ⟨none, fun _ => none, [.int j, .int (l + 1)], fun d => ∃ n, d = .int n, good0, .cons (.int _) (.cons (.int _) .nil), MG.g_law_mix fun n => ⟨n, rfl⟩, fun d hd v F' H' f dv => ?_⟩
      obtain ⟨n, rfl⟩ := hd
      cases dv
      exact .inl ⟨n, rfl, _, rfl, n, many, rfl, rfl, h0, kq _ (q (n % many) (Int.emod_nonneg _ (by omega)) (Int.emod_lt_of_pos _ h0)) _ F H' ((well_upd G hw).trans (fr_weak (well_upd G hw).good f)) (.int _)⟩
theorem ok__law_unlike (T : Txt K mg) : FnOk P w K mg base CX0 2 T.a__law_unlike T.fd__law_unlike ["one", "other"] (spZ K (G__law_unlike T.A)) :=
  okZ T.F__law_unlike sc__law_unlike fun cdv A outer s H E W F0 hr => (pssd_cons (psd_set (i := 2) sc__law_unlike.nd rfl (by first | exact Or.inl rfl | exact Or.inr rfl) (pd_lst (pda_cons (pd_tup (pda_cons pd_str (pda_cons (pd_fld T.cl_Box T.n_Box_width (pd_var (pv 0))) (pda_cons (pd_fld T.cl_Box T.n_Box_width (pd_var (pv 1))) pda_nil)))) (pda_cons (pd_tup (pda_cons pd_str (pda_cons (pd_fld T.cl_Box T.n_Box_height (pd_var (pv 0))) (pda_cons (pd_fld T.cl_Box T.n_Box_height (pd_var (pv 1))) pda_nil)))) pda_nil)))) (pssd_cons (psd_for PassesOwn.never rfl (pid_any (pd_addX (pd_var (pv 2)) (pd_lst (pda_cons (pd_tup (pda_cons pd_str (pda_cons (pd_fld T.cl_Box T.n_Box_depth (pd_var (pv 0))) (pda_cons (pd_fld T.cl_Box T.n_Box_depth (pd_var (pv 1))) pda_nil)))) pda_nil)))) (pgd_seq (K := K) rfl rfl (pgds_cons (pgd_name (i := 3) sc__law_unlike.nd rfl (by first | exact Or.inl rfl | exact Or.inr rfl)) (pgds_cons (pgd_name (i := 4) sc__law_unlike.nd rfl (by first | exact Or.inl rfl | exact Or.inr rfl)) (pgds_cons (pgd_name (i := 5) sc__law_unlike.nd rfl (by first | exact Or.inl rfl | exact Or.inr rfl)) pgds_nil))) (setCons_len (setCons_len (setCons_len set0)))) (pssd_one (psd_if (pdt_cmp (op_neD (hu64 hr)) serves_ne mono_fEq (pd_var (pv 4)) (pd_var (pv 5)) (nobehind _ (by decide) (by decide))) (pssd_one (psd_ret (pd_tup (pda_cons (pd_var (pv 3)) pda_nil)))) pssd_nil))) (pssd_cons (psd_par (i := 4) (j := 5) rfl sc__law_unlike.nd rfl rfl (by decide) rfl rfl (pda_cons (pd_callZ (ok__law_ink T) (hr.mono (by decide)) rfl T.m__law_ink T.F__law_ink.kp T.b__law_ink .nil (fun _ => .nil) (pda_cons (pd_var (pv 0)) pda_nil)) (pda_cons (pd_callZ (ok__law_ink T) (hr.mono (by decide)) rfl T.m__law_ink T.F__law_ink.kp T.b__law_ink .nil (fun _ => .nil) (pda_cons (pd_var (pv 1)) pda_nil)) pda_nil)) rfl) (pssd_cons (psd_for PassesOwn.never rfl (pid_any (pd_callB (cr_sortD (hu64 hr)) serves_sortD mono_fSort rfl T.z_sorted (by decide +kernel) (pda_cons (pd_addX (pd_var (pv 4)) (pd_var (pv 5))) pda_nil))) (pgd_name (i := 6) sc__law_unlike.nd rfl (by first | exact Or.inl rfl | exact Or.inr rfl)) (pssd_one (psd_if (pdt_cmp (op_neD (hu64 hr)) serves_ne mono_fEq (pd_count (hu64 hr) (pd_var (pv 4)) (pd_var (pv 6))) (pd_count (hu64 hr) (pd_var (pv 5)) (pd_var (pv 6))) (nobehind _ (by decide) (by decide))) (pssd_one (psd_ret (pd_tup (pda_cons pd_str (pda_cons (pd_callTy call_int1 serves_int mono_fInt rfl T.z_int (by decide +kernel) (pda_cons (pd_cmp op_lt serves_B0 mono_fB0 (pd_count (hu64 hr) (pd_var (pv 4)) (pd_var (pv 6))) (pd_count (hu64 hr) (pd_var (pv 5)) (pd_var (pv 6))) (nobehind _ (by decide) (by decide))) pda_nil)) (pda_cons (pd_var (pv 6)) pda_nil)))))) pssd_nil))) (pssd_one (psd_ret pd_non))))))
theorem ok_wrong_part (T : Txt K mg) : FnOk P w K mg base CX0 3 T.a_wrong_part T.fd_wrong_part ["box"] (spZ K (G_wrong_part T.A)) :=
  okZ T.F_wrong_part sc_wrong_part fun cdv A outer s H E W F0 hr => (pssd_cons (psd_if (pdt_not (pdt_val (pd_callB (call_isK T.is_Box) serves_isK mono_fIsK rfl T.z_isinstance (by decide +kernel) (pda_cons (pd_var (pv 0)) (pda_cons (pd_gref rfl T.m_Box) pda_nil))))) (pssd_one (psd_ret pd_str)) pssd_nil) (pssd_cons (psd_asg (pd_tup (pda_cons (pd_fld T.cl_Box T.n_Box_width (pd_var (pv 0))) (pda_cons (pd_fld T.cl_Box T.n_Box_height (pd_var (pv 0))) (pda_cons (pd_fld T.cl_Box T.n_Box_depth (pd_var (pv 0))) (pda_cons (pd_fld T.cl_Box T.n_Box_marks (pd_var (pv 0))) pda_nil))))) (pgd_seq (K := K) rfl rfl (pgds_cons (pgd_name (i := 1) sc_wrong_part.nd rfl (by first | exact Or.inl rfl | exact Or.inr rfl)) (pgds_cons (pgd_name (i := 2) sc_wrong_part.nd rfl (by first | exact Or.inl rfl | exact Or.inr rfl)) (pgds_cons (pgd_name (i := 3) sc_wrong_part.nd rfl (by first | exact Or.inl rfl | exact Or.inr rfl)) (pgds_cons (pgd_name (i := 4) sc_wrong_part.nd rfl (by first | exact Or.inl rfl | exact Or.inr rfl)) pgds_nil)))) (setCons_len (setCons_len (setCons_len (setCons_len set0)))))) (pssd_cons (psd_if (pdt_not (pdt_w (pdw_or (pdt_w (pdw_and (pdt_cmp op_eqTy serves_tyCmp mono_fTyCmp (pd_callTy call_typX serves_typ mono_fTyp rfl T.z_type (by decide +kernel) (pda_cons (pd_var (pv 1)) pda_nil)) (pd_bty (T := "int") rfl T.z_int (by decide +kernel)) (nobehind _ (by decide) (by decide))) (pdw_and1 (pdt_chain op_le op_le serves_B0 serves_B0 mono_fB0 mono_fB0 (pd_gint rfl T.m_LEAST) (pd_var (pv 1)) (pd_gint rfl T.m_LIMIT))))) (pdw_or1 (pdt_val (pd_callZ (ok_is_signed T) (hr.mono (by decide)) rfl T.m_is_signed T.F_is_signed.kp T.b_is_signed .nil (fun _ => .nil) (pda_cons (pd_var (pv 1)) pda_nil))))))) (pssd_one (psd_ret pd_str)) pssd_nil) (pssd_cons (psd_if (pdt_not (pdt_w (pdw_or (pdt_w (pdw_and (pdt_cmp op_eqTy serves_tyCmp mono_fTyCmp (pd_callTy call_typX serves_typ mono_fTyp rfl T.z_type (by decide +kernel) (pda_cons (pd_var (pv 2)) pda_nil)) (pd_bty (T := "int") rfl T.z_int (by decide +kernel)) (nobehind _ (by decide) (by decide))) (pdw_and1 (pdt_chain op_le op_le serves_B0 serves_B0 mono_fB0 mono_fB0 (pd_gint rfl T.m_LEAST) (pd_var (pv 2)) (pd_gint rfl T.m_LIMIT))))) (pdw_or1 (pdt_val (pd_callZ (ok_is_signed T) (hr.mono (by decide)) rfl T.m_is_signed T.F_is_signed.kp T.b_is_signed .nil (fun _ => .nil) (pda_cons (pd_var (pv 2)) pda_nil))))))) (pssd_one (psd_ret pd_str)) pssd_nil) (pssd_cons (psd_if (pdt_not (pdt_w (pdw_or (pdt_w (pdw_and (pdt_cmp op_eqTy serves_tyCmp mono_fTyCmp (pd_callTy call_typX serves_typ mono_fTyp rfl T.z_type (by decide +kernel) (pda_cons (pd_var (pv 3)) pda_nil)) (pd_bty (T := "int") rfl T.z_int (by decide +kernel)) (nobehind _ (by decide) (by decide))) (pdw_and1 (pdt_chain op_le op_le serves_B0 serves_B0 mono_fB0 mono_fB0 (pd_gint rfl T.m_LEAST) (pd_var (pv 3)) (pd_gint rfl T.m_LIMIT))))) (pdw_or1 (pdt_val (pd_callZ (ok_is_signed T) (hr.mono (by decide)) rfl T.m_is_signed T.F_is_signed.kp T.b_is_signed .nil (fun _ => .nil) (pda_cons (pd_var (pv 3)) pda_nil))))))) (pssd_one (psd_ret pd_str)) pssd_nil) (pssd_cons (psd_if (pdt_w (pdw_or (pdt_not (pdt_val (pd_callB call_isi serves_isi mono_fIsi rfl T.z_isinstance (by decide +kernel) (pda_cons (pd_var (pv 4)) (pda_cons (pd_bty (T := "list") rfl T.z_list (by decide +kernel)) pda_nil))))) (pdw_or1 (pdt_w (pdw_and (pdt_seq (pd_var (pv 4))) (pdw_and1 (pdt_not (pdt_val (pd_callZ (ok_are_marks T) (hr.mono (by decide)) rfl T.m_are_marks T.F_are_marks.kp T.b_are_marks .nil (fun _ => .nil) (pda_cons (pd_var (pv 4)) pda_nil)))))))))) (pssd_one (psd_ret pd_str)) pssd_nil) (pssd_one (psd_ret pd_non))))))))
theorem ok__law_pick (T : Txt K mg) : FnOk P w K mg base CX0 3 T.a__law_pick T.fd__law_pick ["well", "some"] (spZ K (G__law_pick T.A)) :=
  okZ T.F__law_pick sc__law_pick fun cdv A outer s H E W F0 hr => (pssd_one (psd_ret (pd_item (pd_var (pv 1)) (pd_callZ (ok__law_draw T) (hr.mono (by decide)) rfl T.m__law_draw T.F__law_draw.kp T.b__law_draw .nil (fun _ => .nil) (pda_cons (pd_var (pv 0)) (pda_cons (pd_callB call_lenX serves_lenX mono_fLenX rfl T.z_len (by decide +kernel) (pda_cons (pd_var (pv 1)) pda_nil)) pda_nil))) (fun _ _ => rfl))))
theorem ok_check_box (T : Txt K mg) : FnOk P w K mg base CX0 4 T.a_check_box T.fd_check_box ["box"] (spZ K (G_check_box T.A)) :=
  okZ T.F_check_box sc_check_box fun cdv A outer s H E W F0 hr => (pssd_cons (psd_set (i := 1) sc_check_box.nd rfl (by first | exact Or.inl rfl | exact Or.inr rfl) (pd_callZ (ok_wrong_part T) (hr.mono (by decide)) rfl T.m_wrong_part T.F_wrong_part.kp T.b_wrong_part .nil (fun _ => .nil) (pda_cons (pd_var (pv 0)) pda_nil))) (pssd_one (psd_if (pdt_cmp op_isnotX serves_isnotX mono_fIsX (pd_var (pv 1)) pd_non (nobehind _ (by decide) (by decide))) (pssd_one psd_never) pssd_nil)))
theorem ok__law_number (T : Txt K mg) : FnOk P w K mg base CX0 4 T.a__law_number T.fd__law_number ["well"] (spZ K (G__law_number T.A)) :=
  okZ T.F__law_number sc__law_number fun cdv A outer s H E W F0 hr => (pssd_one (psd_ret (pd_callZ (ok__law_pick T) (hr.mono (by decide)) rfl T.m__law_pick T.F__law_pick.kp T.b__law_pick .nil (fun _ => .nil) (pda_cons (pd_var (pv 0)) (pda_cons (pd_lst (pda_cons pd_int (pda_cons pd_int (pda_cons (pd_neg pd_int) (pda_cons pd_int (pda_cons (pd_neg pd_int) (pda_cons (pd_pow pd_int pd_int) (pda_cons (pd_neg (pd_pow pd_int pd_int)) (pda_cons (pd_callZ (ok__law_draw T) (hr.mono (by decide)) rfl T.m__law_draw T.F__law_draw.kp T.b__law_draw .nil (fun _ => .nil) (pda_cons (pd_var (pv 0)) (pda_cons pd_int pda_nil))) (pda_cons (pd_neg (pd_callZ (ok__law_draw T) (hr.mono (by decide)) rfl T.m__law_draw T.F__law_draw.kp T.b__law_draw .nil (fun _ => .nil) (pda_cons (pd_var (pv 0)) (pda_cons pd_int pda_nil)))) pda_nil)))))))))) pda_nil)))))
theorem okO_ink (T : Txt K mg) : FnOk P w K mg base CX0 5 T.a_ink T.fd_ink ["box"] (spO K (GO_ink T.A)) :=
  okO T.F_ink sc_ink fun cdv A outer s H E W F0 hr => (pssd_cons (psd_expr (pd_callZ (ok_check_box T) (hr.mono (by decide)) rfl T.m_check_box T.F_check_box.kp T.b_check_box .nil (fun _ => .nil) (pda_cons (pd_var (pv 0)) pda_nil))) (pssd_one (psd_retO (pdn_call (okO_ink_of T) (hr.mono (by decide)) rfl T.m_ink_of T.F_ink_of.kp T.b_ink_of .nil (fun _ => .nil) (pda_cons (pd_var (pv 0)) pda_nil)))))
theorem ok_ink (T : Txt K mg) : FnOk P w K mg base CX0 5 T.a_ink T.fd_ink ["box"] (spZ K (G_ink T.A)) := DL.FnOk.frz (okO_ink T)
theorem ok_first_unlike (T : Txt K mg) : FnOk P w K mg base CX0 5 T.a_first_unlike T.fd_first_unlike ["one", "other"] (spZ K (G_first_unlike T.A)) :=
  okZ T.F_first_unlike sc_first_unlike fun cdv A outer s H E W F0 hr => (pssd_cons (psd_expr (pd_callZ (ok_check_box T) (hr.mono (by decide)) rfl T.m_check_box T.F_check_box.kp T.b_check_box .nil (fun _ => .nil) (pda_cons (pd_var (pv 0)) pda_nil))) (pssd_cons (psd_expr (pd_callZ (ok_check_box T) (hr.mono (by decide)) rfl T.m_check_box T.F_check_box.kp T.b_check_box .nil (fun _ => .nil) (pda_cons (pd_var (pv 1)) pda_nil))) (pssd_cons (psd_if (pdt_cmp (op_neD (hu64 hr)) serves_ne mono_fEq (pd_fld T.cl_Box T.n_Box_width (pd_var (pv 0))) (pd_fld T.cl_Box T.n_Box_width (pd_var (pv 1))) (nobehind _ (by decide) (by decide))) (pssd_one (psd_ret (pd_tup (pda_cons pd_str pda_nil)))) pssd_nil) (pssd_cons (psd_if (pdt_cmp (op_neD (hu64 hr)) serves_ne mono_fEq (pd_fld T.cl_Box T.n_Box_height (pd_var (pv 0))) (pd_fld T.cl_Box T.n_Box_height (pd_var (pv 1))) (nobehind _ (by decide) (by decide))) (pssd_one (psd_ret (pd_tup (pda_cons pd_str pda_nil)))) pssd_nil) (pssd_cons (psd_if (pdt_cmp (op_neD (hu64 hr)) serves_ne mono_fEq (pd_fld T.cl_Box T.n_Box_depth (pd_var (pv 0))) (pd_fld T.cl_Box T.n_Box_depth (pd_var (pv 1))) (nobehind _ (by decide) (by decide))) (pssd_one (psd_ret (pd_tup (pda_cons pd_str pda_nil)))) pssd_nil) (pssd_one (psd_ret (pd_callZ (ok_unlike_ink T) (hr.mono (by decide)) rfl T.m_unlike_ink T.F_unlike_ink.kp T.b_unlike_ink .nil (fun _ => .nil) (pda_cons (pd_callZ (ok_ink_of T) (hr.mono (by decide)) rfl T.m_ink_of T.F_ink_of.kp T.b_ink_of .nil (fun _ => .nil) (pda_cons (pd_var (pv 0)) pda_nil)) (pda_cons (pd_callZ (ok_ink_of T) (hr.mono (by decide)) rfl T.m_ink_of T.F_ink_of.kp T.b_ink_of .nil (fun _ => .nil) (pda_cons (pd_var (pv 1)) pda_nil)) pda_nil))))))))))
theorem ok__law_mark (T : Txt K mg) : FnOk P w K mg base CX0 5 T.a__law_mark T.fd__law_mark ["well"] (spZ K (G__law_mark T.A)) :=
  okZ T.F__law_mark sc__law_mark fun cdv A outer s H E W F0 hr => (pssd_cons (psd_set (i := 1) sc__law_mark.nd rfl (by first | exact Or.inl rfl | exact Or.inr rfl) (pd_callTy call_tuple_of serves_tupOf mono_fTupOf rfl T.z_tuple (by decide +kernel) (pda_cons (pd_lc (own := [("turn", 2)]) rfl sc__law_mark.nd (pid_range rfl T.z_range (pd_callZ (ok__law_draw T) (hr.mono (by decide)) rfl T.m__law_draw T.F__law_draw.kp T.b__law_draw .nil (fun _ => .nil) (pda_cons (pd_var (pv 0)) (pda_cons pd_int pda_nil)))) (blkOk_by (N := sc__law_markN) (sc := defScope stm__law_mark) (by decide +kernel)) (fun _ _ _ _ _ => (pgd_name (i := 2) sc__law_mark.nd rfl (by first | exact Or.inl rfl | exact Or.inr rfl))) (by decide) (fun _ _ _ _ _ => ptd_nil) (fun _ _ _ _ _ => (pd_callZ (ok__law_draw T) (hr.mono (by decide)) rfl T.m__law_draw T.F__law_draw.kp T.b__law_draw .nil (fun _ => .nil) (pda_cons (pd_var (pv 0)) (pda_cons pd_int pda_nil))))) pda_nil))) (pssd_cons (psd_if (pdt_cmp (op_eqD (hu64 hr)) serves_eq mono_fEq (pd_callZ (ok__law_draw T) (hr.mono (by decide)) rfl T.m__law_draw T.F__law_draw.kp T.b__law_draw .nil (fun _ => .nil) (pda_cons (pd_var (pv 0)) (pda_cons pd_int pda_nil))) pd_int (nobehind _ (by decide) (by decide))) (pssd_one (psd_ret (pd_tup (pda_cons pd_str (pda_cons (pd_var (pv 1)) (pda_cons (pd_callZ (ok__law_number T) (hr.mono (by decide)) rfl T.m__law_number T.F__law_number.kp T.b__law_number .nil (fun _ => .nil) (pda_cons (pd_var (pv 0)) pda_nil)) (pda_cons (pd_callZ (ok__law_number T) (hr.mono (by decide)) rfl T.m__law_number T.F__law_number.kp T.b__law_number .nil (fun _ => .nil) (pda_cons (pd_var (pv 0)) pda_nil)) pda_nil))))))) pssd_nil) (pssd_one (psd_ret (pd_tup (pda_cons pd_str (pda_cons (pd_var (pv 1)) (pda_cons (pd_callZ (ok__law_draw T) (hr.mono (by decide)) rfl T.m__law_draw T.F__law_draw.kp T.b__law_draw .nil (fun _ => .nil) (pda_cons (pd_var (pv 0)) (pda_cons pd_int pda_nil))) (pda_cons (pd_callZ (ok__law_draw T) (hr.mono (by decide)) rfl T.m__law_draw T.F__law_draw.kp T.b__law_draw .nil (fun _ => .nil) (pda_cons (pd_var (pv 0)) (pda_cons pd_int pda_nil))) (pda_cons (pd_callZ (ok__law_pick T) (hr.mono (by decide)) rfl T.m__law_pick T.F__law_pick.kp T.b__law_pick .nil (fun _ => .nil) (pda_cons (pd_var (pv 0)) (pda_cons (pd_lst (pda_cons pd_str (pda_cons pd_str (pda_cons pd_str pda_nil)))) pda_nil))) pda_nil))))))))))
theorem ok_same_ink (T : Txt K mg) : FnOk P w K mg base CX0 6 T.a_same_ink T.fd_same_ink ["one", "other"] (spZ K (G_same_ink T.A)) :=
  okZ T.F_same_ink sc_same_ink fun cdv A outer s H E W F0 hr => (pssd_one (psd_ret (pd_cmp op_isX serves_isX mono_fIsX (pd_callZ (ok_first_unlike T) (hr.mono (by decide)) rfl T.m_first_unlike T.F_first_unlike.kp T.b_first_unlike .nil (fun _ => .nil) (pda_cons (pd_var (pv 0)) (pda_cons (pd_var (pv 1)) pda_nil))) pd_non (nobehind _ (by decide) (by decide)))))
theorem ok__law_marks (T : Txt K mg) : FnOk P w K mg base CX0 6 T.a__law_marks T.fd__law_marks ["well"] (spZ K (G__law_marks T.A)) :=
  okZ T.F__law_marks sc__law_marks fun cdv A outer s H E W F0 hr => (pssd_one (psd_ret (pd_lc (own := [("turn", 1)]) rfl sc__law_marks.nd (pid_range rfl T.z_range (pd_callZ (ok__law_draw T) (hr.mono (by decide)) rfl T.m__law_draw T.F__law_draw.kp T.b__law_draw .nil (fun _ => .nil) (pda_cons (pd_var (pv 0)) (pda_cons pd_int pda_nil)))) (blkOk_by (N := sc__law_marksN) (sc := defScope stm__law_marks) (by decide +kernel)) (fun _ _ _ _ _ => (pgd_name (i := 1) sc__law_marks.nd rfl (by first | exact Or.inl rfl | exact Or.inr rfl))) (by decide) (fun _ _ _ _ _ => ptd_nil) (fun _ _ _ _ _ => (pd_tup (pda_cons (pd_callZ (ok__law_number T) (hr.mono (by decide)) rfl T.m__law_number T.F__law_number.kp T.b__law_number .nil (fun _ => .nil) (pda_cons (pd_var (pv 0)) pda_nil)) (pda_cons (pd_callZ (ok__law_number T) (hr.mono (by decide)) rfl T.m__law_number T.F__law_number.kp T.b__law_number .nil (fun _ => .nil) (pda_cons (pd_var (pv 0)) pda_nil)) (pda_cons (pd_callZ (ok__law_mark T) (hr.mono (by decide)) rfl T.m__law_mark T.F__law_mark.kp T.b__law_mark .nil (fun _ => .nil) (pda_cons (pd_var (pv 0)) pda_nil)) pda_nil))))))))
theorem ok__law_other (T : Txt K mg) : FnOk P w K mg base CX0 6 T.a__law_other T.fd__law_other ["well", "one"] (spZ K (G__law_other T.A)) :=
  okZ T.F__law_other sc__law_other fun cdv A outer s H E W F0 hr => (pssd_cons (psd_parM3 (i := 2) (j := 3) (m := 4) rfl sc__law_other.nd rfl rfl rfl (by decide) (by decide) (by decide) rfl rfl rfl (pdm_o (pdn_listof rfl T.z_list (pd_fld T.cl_Box T.n_Box_marks (pd_var (pv 1))))) (pdm_o (pdn_lst (pda_cons (pd_fld T.cl_Box T.n_Box_width (pd_var (pv 1))) (pda_cons (pd_fld T.cl_Box T.n_Box_height (pd_var (pv 1))) (pda_cons (pd_fld T.cl_Box T.n_Box_depth (pd_var (pv 1))) pda_nil))))) (pdm_v (pd_callZ (ok__law_draw T) (hr.mono (by decide)) rfl T.m__law_draw T.F__law_draw.kp T.b__law_draw .nil (fun _ => .nil) (pda_cons (pd_var (pv 0)) (pda_cons pd_int pda_nil)))) rfl) (pssd_cons (psd_if (pdt_lend 2 (pdt_w (pdw_and (pdt_cmp op_lt serves_B0 mono_fB0 (pd_var (pv 4)) pd_int (nobehind _ (by decide) (by decide))) (pdw_and1 (pdt_cmp (op_neD (hu64 hr)) serves_ne mono_fEq (pd_var (pv 2)) (pd_lst pda_nil) (nobehind _ (by decide) (by decide))))))) (pssd_cons (psd_set (i := 5) sc__law_other.nd rfl (by first | exact Or.inl rfl | exact Or.inr rfl) (pd_callZ (ok__law_draw T) (hr.mono (by decide)) rfl T.m__law_draw T.F__law_draw.kp T.b__law_draw .nil (fun _ => .nil) (pda_cons (pd_var (pv 0)) (pda_cons (pd_lend 2 (pd_callB call_lenX serves_lenX mono_fLenX rfl T.z_len (by decide +kernel) (pda_cons (pd_var (pv 2)) pda_nil))) pda_nil)))) (pssd_cons (psd_asg (pd_oitem (pv 2) (pd_var (pv 5)) (fun _ _ => rfl)) (pgd_seq (K := K) rfl rfl (pgds_cons (pgd_name (i := 6) sc__law_other.nd rfl (by first | exact Or.inl rfl | exact Or.inr rfl)) (pgds_cons (pgd_name (i := 7) sc__law_other.nd rfl (by first | exact Or.inl rfl | exact Or.inr rfl)) (pgds_cons (pgd_name (i := 8) sc__law_other.nd rfl (by first | exact Or.inl rfl | exact Or.inr rfl)) pgds_nil))) (setCons_len (setCons_len (setCons_len set0))))) (pssd_one (psd_lput (pv 2) (pd_var (pv 5)) (pd_item (pd_lst (pda_cons (pd_tup (pda_cons (pd_var (pv 6)) (pda_cons (pd_var (pv 7)) (pda_cons (pd_addX (pd_tup (pda_cons (pd_item (pd_var (pv 8)) pd_int (fun _ _ => rfl)) (pda_cons (pd_tup (pda_cons pd_int (pda_cons pd_int pda_nil))) pda_nil))) (pd_slice (pd_var (pv 8)) (pdo_some pd_int) pdo_none)) pda_nil)))) (pda_cons (pd_tup (pda_cons (pd_addX (pd_var (pv 6)) pd_int) (pda_cons (pd_var (pv 7)) (pda_cons (pd_var (pv 8)) pda_nil)))) (pda_cons (pd_tup (pda_cons (pd_var (pv 6)) (pda_cons (pd_sub (pd_var (pv 7)) pd_int) (pda_cons (pd_var (pv 8)) pda_nil)))) pda_nil)))) (pd_var (pv 4)) (fun _ _ => rfl)))))) pssd_nil) (pssd_cons (psd_if (pdt_cmp (op_eqD (hu64 hr)) serves_eq mono_fEq (pd_var (pv 4)) pd_int (nobehind _ (by decide) (by decide))) (pssd_keep 2 (pssd_one (psd_set (i := 2) sc__law_other.nd rfl (by first | exact Or.inl rfl | exact Or.inr rfl) (pd_revL (pd_var (pv 2)))))) pssd_nil) (pssd_cons (psd_if (pdt_cmp (op_eqD (hu64 hr)) serves_eq mono_fEq (pd_var (pv 4)) pd_int (nobehind _ (by decide) (by decide))) (pssd_keep 2 (pssd_one (psd_set (i := 2) sc__law_other.nd rfl (by first | exact Or.inl rfl | exact Or.inr rfl) (pd_addX (pd_slice (pd_var (pv 2)) (pdo_some pd_int) pdo_none) (pd_slice (pd_var (pv 2)) pdo_none (pdo_some pd_int)))))) pssd_nil) (pssd_cons (psd_if (pdt_lendA 2 (pdt_w (pdw_and (pdt_cmp (op_eqD (hu64 hr)) serves_eq mono_fEq (pd_var (pv 4)) pd_int (nobehind _ (by decide) (by decide))) (pdw_and1 (pdt_cmp (op_neD (hu64 hr)) serves_ne mono_fEq (pd_var (pv 2)) (pd_lst pda_nil) (nobehind _ (by decide) (by decide))))))) (pssd_one (psd_append (pv 2) (pd_lendNL 2 (pd_callZ (ok__law_pick T) (hr.mono (by decide)) rfl T.m__law_pick T.F__law_pick.kp T.b__law_pick .nil (fun _ => .nil) (pda_cons (pd_var (pv 0)) (pda_cons (pd_var (pv 2)) pda_nil)))))) pssd_nil) (pssd_cons (psd_if (pdt_cmp (op_eqD (hu64 hr)) serves_eq mono_fEq (pd_var (pv 4)) pd_int (nobehind _ (by decide) (by decide))) (pssd_keep 2 (pssd_one (psd_set (i := 2) sc__law_other.nd rfl (by first | exact Or.inl rfl | exact Or.inr rfl) (pd_slice (pd_var (pv 2)) (pdo_some pd_int) pdo_none)))) pssd_nil) (pssd_cons (psd_if (pdt_cmp (op_eqD (hu64 hr)) serves_eq mono_fEq (pd_var (pv 4)) pd_int (nobehind _ (by decide) (by decide))) (pssd_one (psd_append (pv 2) (pd_tup (pda_cons (pd_callZ (ok__law_number T) (hr.mono (by decide)) rfl T.m__law_number T.F__law_number.kp T.b__law_number .nil (fun _ => .nil) (pda_cons (pd_var (pv 0)) pda_nil)) (pda_cons (pd_callZ (ok__law_number T) (hr.mono (by decide)) rfl T.m__law_number T.F__law_number.kp T.b__law_number .nil (fun _ => .nil) (pda_cons (pd_var (pv 0)) pda_nil)) (pda_cons (pd_callZ (ok__law_mark T) (hr.mono (by decide)) rfl T.m__law_mark T.F__law_mark.kp T.b__law_mark .nil (fun _ => .nil) (pda_cons (pd_var (pv 0)) pda_nil)) pda_nil)))))) pssd_nil) (pssd_cons (psd_if (pdt_cmp (op_eqD (hu64 hr)) serves_eq mono_fEq (pd_var (pv 4)) pd_int (nobehind _ (by decide) (by decide))) (pssd_cons (psd_set (i := 5) sc__law_other.nd rfl (by first | exact Or.inl rfl | exact Or.inr rfl) (pd_callZ (ok__law_draw T) (hr.mono (by decide)) rfl T.m__law_draw T.F__law_draw.kp T.b__law_draw .nil (fun _ => .nil) (pda_cons (pd_var (pv 0)) (pda_cons pd_int pda_nil)))) (pssd_one (psd_lput (pv 3) (pd_var (pv 5)) (pd_addX (pd_oitem (pv 3) (pd_var (pv 5)) (fun _ _ => rfl)) pd_int)))) pssd_nil) (pssd_keep 3 (pssd_keepA 2 (pssd_one (psd_ret (pd_frz (pdn_make T.mk_Box (ok_Box___init__ T) (hr.mono (by decide)) rfl T.m_Box T.b_Box4 .nil (fun _ => .nil) (pda_cons (pd_item (pd_var (pv 3)) pd_int (fun _ _ => rfl)) (pda_cons (pd_item (pd_var (pv 3)) pd_int (fun _ _ => rfl)) (pda_cons (pd_item (pd_var (pv 3)) pd_int (fun _ _ => rfl)) (pda_cons (pd_var (pv 2)) pda_nil))))))))))))))))))
theorem ok__law_box (T : Txt K mg) : FnOk P w K mg base CX0 7 T.a__law_box T.fd__law_box ["well"] (spZ K (G__law_box T.A)) :=
  okZ T.F__law_box sc__law_box fun cdv A outer s H E W F0 hr => (pssd_one (psd_ret (pd_frz (pdn_make T.mk_Box (ok_Box___init__ T) (hr.mono (by decide)) rfl T.m_Box T.b_Box4 .nil (fun _ => .nil) (pda_cons (pd_callZ (ok__law_number T) (hr.mono (by decide)) rfl T.m__law_number T.F__law_number.kp T.b__law_number .nil (fun _ => .nil) (pda_cons (pd_var (pv 0)) pda_nil)) (pda_cons (pd_callZ (ok__law_number T) (hr.mono (by decide)) rfl T.m__law_number T.F__law_number.kp T.b__law_number .nil (fun _ => .nil) (pda_cons (pd_var (pv 0)) pda_nil)) (pda_cons (pd_callZ (ok__law_number T) (hr.mono (by decide)) rfl T.m__law_number T.F__law_number.kp T.b__law_number .nil (fun _ => .nil) (pda_cons (pd_var (pv 0)) pda_nil)) (pda_cons (pd_callZ (ok__law_marks T) (hr.mono (by decide)) rfl T.m__law_marks T.F__law_marks.kp T.b__law_marks .nil (fun _ => .nil) (pda_cons (pd_var (pv 0)) pda_nil)) pda_nil))))))))
theorem ok__law_right (T : Txt K mg) : FnG P w K mg base 8 T.a__law_right T.fd__law_right ["well"] (spZ K (G__law_right T.A)) :=
  okZG T.F__law_right sc__law_right fun cdv A outer s H E W F0 hgd hr => (pssd_cons (psd_for PassesOwn.never rfl (pid_range rfl T.z_range pd_int) (pgd_name (i := 1) sc__law_right.nd rfl (by first | exact Or.inl rfl | exact Or.inr rfl)) (pssd_cons (psd_set (i := 2) sc__law_right.nd rfl (by first | exact Or.inl rfl | exact Or.inr rfl) (pd_callZ (ok__law_box T) (hr.mono (by decide)) rfl T.m__law_box T.F__law_box.kp T.b__law_box .nil (fun _ => .nil) (pda_cons (pd_var (pv 0)) pda_nil))) (pssd_cons (psd_set (i := 3) sc__law_right.nd rfl (by first | exact Or.inl rfl | exact Or.inr rfl) (pd_if (pdt_cmp op_lt serves_B0 mono_fB0 (pd_var (pv 1)) pd_int (nobehind _ (by decide) (by decide))) (pd_callZ (ok__law_other T) (hr.mono (by decide)) rfl T.m__law_other T.F__law_other.kp T.b__law_other .nil (fun _ => .nil) (pda_cons (pd_var (pv 0)) (pda_cons (pd_var (pv 2)) pda_nil))) (pd_callZ (ok__law_box T) (hr.mono (by decide)) rfl T.m__law_box T.F__law_box.kp T.b__law_box .nil (fun _ => .nil) (pda_cons (pd_var (pv 0)) pda_nil)))) (pssd_cons (psd_if (pdt_cmp (op_eqD (hu64 hr)) serves_eq mono_fEq (pd_var (pv 1)) pd_int (nobehind _ (by decide) (by decide))) (pssd_one (psd_set (i := 3) sc__law_right.nd rfl (by first | exact Or.inl rfl | exact Or.inr rfl) (pd_callZ (ok__law_other T) (hr.mono (by decide)) rfl T.m__law_other T.F__law_other.kp T.b__law_other .nil (fun _ => .nil) (pda_cons (pd_var (pv 0)) (pda_cons (pd_var (pv 3)) pda_nil))))) pssd_nil) (pssd_cons (psd_set (i := 4) sc__law_right.nd rfl (by first | exact Or.inl rfl | exact Or.inr rfl) (pd_tup (pda_cons (pd_callB (call_repr hgd hr) serves_repr mono_fRepr rfl T.z_repr (by decide +kernel) (pda_cons (pd_callZ (ok__law_all T) (hr.mono (by decide)) rfl T.m__law_all T.F__law_all.kp T.b__law_all .nil (fun _ => .nil) (pda_cons (pd_var (pv 2)) pda_nil)) pda_nil)) (pda_cons (pd_callB (call_repr hgd hr) serves_repr mono_fRepr rfl T.z_repr (by decide +kernel) (pda_cons (pd_callZ (ok__law_all T) (hr.mono (by decide)) rfl T.m__law_all T.F__law_all.kp T.b__law_all .nil (fun _ => .nil) (pda_cons (pd_var (pv 3)) pda_nil)) pda_nil)) pda_nil)))) (pssd_cons (psd_if (pdt_w (pdw_or (pdt_cmp (op_neD (hu64 hr)) serves_ne mono_fEq (pd_callZ (ok_ink T) (hr.mono (by decide)) rfl T.m_ink T.F_ink.kp T.b_ink .nil (fun _ => .nil) (pda_cons (pd_var (pv 2)) pda_nil)) (pd_callZ (ok__law_ink T) (hr.mono (by decide)) rfl T.m__law_ink T.F__law_ink.kp T.b__law_ink .nil (fun _ => .nil) (pda_cons (pd_var (pv 2)) pda_nil)) (nobehind _ (by decide) (by decide))) (pdw_or (pdt_cmp (op_neD (hu64 hr)) serves_ne mono_fEq (pd_callZ (ok_ink T) (hr.mono (by decide)) rfl T.m_ink T.F_ink.kp T.b_ink .nil (fun _ => .nil) (pda_cons (pd_var (pv 3)) pda_nil)) (pd_callZ (ok__law_ink T) (hr.mono (by decide)) rfl T.m__law_ink T.F__law_ink.kp T.b__law_ink .nil (fun _ => .nil) (pda_cons (pd_var (pv 3)) pda_nil)) (nobehind _ (by decide) (by decide))) (pdw_or1 (pdt_not (pdt_val (pd_callZ (ok_same_ink T) (hr.mono (by decide)) rfl T.m_same_ink T.F_same_ink.kp T.b_same_ink .nil (fun _ => .nil) (pda_cons (pd_var (pv 2)) (pda_cons (pd_var (pv 2)) pda_nil))))))))) (pssd_one (psd_ret pd_bl)) pssd_nil) (pssd_cons (psd_set (i := 5) sc__law_right.nd rfl (by first | exact Or.inl rfl | exact Or.inr rfl) (pd_callZ (ok__law_unlike T) (hr.mono (by decide)) rfl T.m__law_unlike T.F__law_unlike.kp T.b__law_unlike .nil (fun _ => .nil) (pda_cons (pd_var (pv 2)) (pda_cons (pd_var (pv 3)) pda_nil)))) (pssd_cons (psd_if (pdt_w (pdw_or (pdt_cmp (op_neD (hu64 hr)) serves_ne mono_fEq (pd_callZ (ok_first_unlike T) (hr.mono (by decide)) rfl T.m_first_unlike T.F_first_unlike.kp T.b_first_unlike .nil (fun _ => .nil) (pda_cons (pd_var (pv 2)) (pda_cons (pd_var (pv 3)) pda_nil))) (pd_var (pv 5)) (nobehind _ (by decide) (by decide))) (pdw_or1 (pdt_cmp (op_neD (hu64 hr)) serves_ne mono_fEq (pd_callZ (ok_same_ink T) (hr.mono (by decide)) rfl T.m_same_ink T.F_same_ink.kp T.b_same_ink .nil (fun _ => .nil) (pda_cons (pd_var (pv 2)) (pda_cons (pd_var (pv 3)) pda_nil))) (pd_cmp op_isX serves_isX mono_fIsX (pd_var (pv 5)) pd_non (nobehind _ (by decide) (by decide))) (nobehind _ (by decide) (by decide)))))) (pssd_one (psd_ret pd_bl)) pssd_nil) (pssd_cons (psd_set (i := 6) sc__law_right.nd rfl (by first | exact Or.inl rfl | exact Or.inr rfl) (pd_if (pdt_w (pdw_or (pdt_cmp op_isX serves_isX mono_fIsX (pd_var (pv 5)) pd_non (nobehind _ (by decide) (by decide))) (pdw_or1 (pdt_cmp (op_neD (hu64 hr)) serves_ne mono_fEq (pd_item (pd_var (pv 5)) pd_int (fun _ _ => rfl)) pd_str (nobehind _ (by decide) (by decide)))))) (pd_var (pv 5)) (pd_tup (pda_cons pd_str (pda_cons (pd_sub pd_int (pd_item (pd_var (pv 5)) pd_int (fun _ _ => rfl))) (pda_cons (pd_item (pd_var (pv 5)) pd_int (fun _ _ => rfl)) pda_nil)))))) (pssd_cons (psd_if (pdt_w (pdw_or (pdt_cmp (op_neD (hu64 hr)) serves_ne mono_fEq (pd_callZ (ok_first_unlike T) (hr.mono (by decide)) rfl T.m_first_unlike T.F_first_unlike.kp T.b_first_unlike .nil (fun _ => .nil) (pda_cons (pd_var (pv 3)) (pda_cons (pd_var (pv 2)) pda_nil))) (pd_var (pv 6)) (nobehind _ (by decide) (by decide))) (pdw_or1 (pdt_cmp op_isnotX serves_isnotX mono_fIsX (pd_callZ (ok_first_unlike T) (hr.mono (by decide)) rfl T.m_first_unlike T.F_first_unlike.kp T.b_first_unlike .nil (fun _ => .nil) (pda_cons (pd_var (pv 3)) (pda_cons (pd_var (pv 3)) pda_nil))) pd_non (nobehind _ (by decide) (by decide)))))) (pssd_one (psd_ret pd_bl)) pssd_nil) (pssd_cons (psd_napp (pdn_call (okO_ink T) (hr.mono (by decide)) rfl T.m_ink T.F_ink.kp T.b_ink .nil (fun _ => .nil) (pda_cons (pd_var (pv 2)) pda_nil)) pd_non) (pssd_one (psd_if (pdt_w (pdw_or (pdt_cmp (op_neD (hu64 hr)) serves_ne mono_fEq (pd_tup (pda_cons (pd_callB (call_repr hgd hr) serves_repr mono_fRepr rfl T.z_repr (by decide +kernel) (pda_cons (pd_callZ (ok__law_all T) (hr.mono (by decide)) rfl T.m__law_all T.F__law_all.kp T.b__law_all .nil (fun _ => .nil) (pda_cons (pd_var (pv 2)) pda_nil)) pda_nil)) (pda_cons (pd_callB (call_repr hgd hr) serves_repr mono_fRepr rfl T.z_repr (by decide +kernel) (pda_cons (pd_callZ (ok__law_all T) (hr.mono (by decide)) rfl T.m__law_all T.F__law_all.kp T.b__law_all .nil (fun _ => .nil) (pda_cons (pd_var (pv 3)) pda_nil)) pda_nil)) pda_nil))) (pd_var (pv 4)) (nobehind _ (by decide) (by decide))) (pdw_or1 (pdt_cmp (op_neD (hu64 hr)) serves_ne mono_fEq (pd_cmp (op_eqZ (ok_Box___eq__ T) T.eq_Box T.b_Box___eq__ (hr.mono (by decide))) serves_ownZ mono_fOwnZ (pd_var (pv 2)) (pd_var (pv 3)) (nobehind _ (by decide) (by decide))) (pd_cmp (op_eqD (hu64 hr)) serves_eq mono_fEq (pd_callZ (ok__law_all T) (hr.mono (by decide)) rfl T.m__law_all T.F__law_all.kp T.b__law_all .nil (fun _ => .nil) (pda_cons (pd_var (pv 2)) pda_nil)) (pd_callZ (ok__law_all T) (hr.mono (by decide)) rfl T.m__law_all T.F__law_all.kp T.b__law_all .nil (fun _ => .nil) (pda_cons (pd_var (pv 3)) pda_nil)) (nobehind _ (by decide) (by decide))) (nobehind _ (by decide) (by decide)))))) (pssd_one (psd_ret pd_bl)) pssd_nil))))))))))))) (pssd_one (psd_ret pd_bl)))
theorem ok_law (T : Txt K mg) : FnG P w K mg base 9 T.a_law T.fd_law ["script"] (spLawD K) := by
  refine okGs T.F_law sc_law (fun vs H Q E h => ?_) (fun cdv A outer s H vs Q E hgd hr h => ?_)
  · obtain ⟨a, ns, rfl, _⟩ := h
    rfl
  · obtain ⟨a, ns, rfl, hS, hl, q⟩ := h
    refine ⟨_, pss_cons (ps_for PassesOwn.never rfl (pi_range1 rfl T.z_range (pa_cons (pe_callB (call_max2 rfl) rfl T.z_max (by decide +kernel) (pa_cons pe_int (pa_cons (pe_callB (call_min2 rfl) rfl T.z_min (by decide +kernel) (pa_cons pe_int (pa_cons (pe_callB call_len_seq (by rfl) T.z_len PySem.boot_len (pa_cons (pv 0) pa_nil)) pa_nil))) pa_nil))) pa_nil)) (pg_name (i := 1) sc_law.nd rfl (Or.inl rfl))
        (pss_one (ps_if (pt_not (pt_val (pe_callG (ok__law_right T) hgd (hr.mono (by decide)) rfl T.m__law_right T.F__law_right.kp T.b__law_right (pa_cons (pe_call (E := E0) (ok__law_source T) (hr.mono (by decide)) rfl T.m__law_source T.F__law_source.kp T.b__law_source .nil pass0 (pa_cons (pv 0) (pa_cons (pv 1) pa_nil))) pa_nil)))) (pss_one (ps_ret pe_bl)) pss_nil)))
      (pss_one (ps_ret pe_bl)), ?_⟩
    have hm : ∀ L : Int, (if (if L < 4 then L else 4) > 1 then (if L < 4 then L else 4) else 1) ≤ 4 ∧ 1 ≤ (if (if L < 4 then L else 4) > 1 then (if L < 4 then L else 4) else 1) := fun L => by
      split <;> (try split) <;> omega
    refine ⟨_, rfl, a, ns.map V.int, rfl, .inl hS, 4, _, rfl, 1, _, rfl, _, rfl, (by have := hm (((ns.map V.int).length : Nat) : Int); omega), (by have := hm (((ns.map V.int).length : Nat) : Int); omega),
      for_range (lo := 0) (fun i σ H' => ∃ v, σ = [some (.ref a), v] ∧ Same H H') ⟨none, rfl, Same.refl H⟩ (fun i σ H' hi h => ?_) (fun σ H' _ => q H')⟩
    obtain ⟨v, rfl, s1⟩ := h
    have hi4 : i < 100 := by
      have := hm (((ns.map V.int).length : Nat) : Int)
      omega
    refine ⟨_, rfl, _, rfl, a, ns, i, by simp, s1.seq hS, hl, hi4, fun H2 l j1 j2 s2 hl0 => ?_⟩
    refine ⟨some l, fun _ => none, [.adr l], fun d => d = .bl true, ⟨fun _ _ e => (nomatch e), fun b hb => ?_⟩, .cons (.adr l) .nil, G__law_right_true rfl, fun d hd v' F' H4 f dv => ?_⟩
    · cases hb
      exact ⟨rfl, j1, j2, 0, upd_same⟩
    · subst hd
      cases dv
      refine ⟨true, rfl, ?_⟩
      show if false = true then _ else _
      rw [if_neg (by decide)]
      refine ⟨_, rfl, fun b o e => ?_⟩
      have e2 : H2 b = some o := s2 _ _ (s1 _ _ e)
      have ne : b ≠ l := ne_of_none e2 hl0
      exact f.keep b o (by rw [upd_ne ne]; exact e2) (fun z => ne (Option.some.inj z).symm)
end
end MG.K09
set_option Elab.async false
set_option linter.all false
set_option maxRecDepth 100000
set_option maxHeartbeats 4000000
set_option autoImplicit false
namespace MG.K09
open PySem PySem.Spec PyProof.Rows L2 DL MB
theorem all_mk {l : PySem.W.OpenLaw} {w : World} {K : PySem.W.Frag} {h : Heap} {mg : Str → Option Value} {fa : Addr} {f_is_integer f_is_signed f_wrong_part f_are_marks f_check_box f_ink_of f_ink f_unlike_ink f_first_unlike f_same_ink f__law_mix f__law_source f__law_draw f__law_pick f__law_number f__law_mark f__law_marks f__law_box f__law_all f__law_ink f__law_other f__law_unlike f__law_right f_law f_Box___eq__ f_Box___init__ C_Box Td e0  : Addr} {od_is_integer an_is_integer od_is_signed an_is_signed od_wrong_part an_wrong_part od_are_marks an_are_marks od_check_box an_check_box od_ink_of an_ink_of od_ink an_ink od_unlike_ink an_unlike_ink od_first_unlike an_first_unlike od_same_ink an_same_ink od__law_mix an__law_mix od__law_source an__law_source od__law_draw an__law_draw od__law_pick an__law_pick od__law_number an__law_number od__law_mark an__law_mark od__law_marks an__law_marks od__law_box an__law_box od__law_all an__law_all od__law_ink an__law_ink od__law_other an__law_other od__law_unlike an__law_unlike od__law_right an__law_right od_law an_law od_Box___eq__ an_Box___eq__ od_Box___init__ an_Box___init__ : Option Addr} {sl_is_integer sl_is_signed sl_wrong_part sl_are_marks sl_check_box sl_ink_of sl_ink sl_unlike_ink sl_first_unlike sl_same_ink sl__law_mix sl__law_source sl__law_draw sl__law_pick sl__law_number sl__law_mark sl__law_marks sl__law_box sl__law_all sl__law_ink sl__law_other sl__law_unlike sl__law_right sl_law sl_Box___eq__ sl_Box___init__ : Array (Option Value)} {oc_is_integer kV_is_integer dc_is_integer pm_is_integer cd_is_integer ct_is_integer oc_is_signed kV_is_signed dc_is_signed pm_is_signed cd_is_signed ct_is_signed oc_wrong_part kV_wrong_part dc_wrong_part pm_wrong_part cd_wrong_part ct_wrong_part oc_are_marks kV_are_marks dc_are_marks pm_are_marks cd_are_marks ct_are_marks oc_check_box kV_check_box dc_check_box pm_check_box cd_check_box ct_check_box oc_ink_of kV_ink_of dc_ink_of pm_ink_of cd_ink_of ct_ink_of oc_ink kV_ink dc_ink pm_ink cd_ink ct_ink oc_unlike_ink kV_unlike_ink dc_unlike_ink pm_unlike_ink cd_unlike_ink ct_unlike_ink oc_first_unlike kV_first_unlike dc_first_unlike pm_first_unlike cd_first_unlike ct_first_unlike oc_same_ink kV_same_ink dc_same_ink pm_same_ink cd_same_ink ct_same_ink oc__law_mix kV__law_mix dc__law_mix pm__law_mix cd__law_mix ct__law_mix oc__law_source kV__law_source dc__law_source pm__law_source cd__law_source ct__law_source oc__law_draw kV__law_draw dc__law_draw pm__law_draw cd__law_draw ct__law_draw oc__law_pick kV__law_pick dc__law_pick pm__law_pick cd__law_pick ct__law_pick oc__law_number kV__law_number dc__law_number pm__law_number cd__law_number ct__law_number oc__law_mark kV__law_mark dc__law_mark pm__law_mark cd__law_mark ct__law_mark oc__law_marks kV__law_marks dc__law_marks pm__law_marks cd__law_marks ct__law_marks oc__law_box kV__law_box dc__law_box pm__law_box cd__law_box ct__law_box oc__law_all kV__law_all dc__law_all pm__law_all cd__law_all ct__law_all oc__law_ink kV__law_ink dc__law_ink pm__law_ink cd__law_ink ct__law_ink oc__law_other kV__law_other dc__law_other pm__law_other cd__law_other ct__law_other oc__law_unlike kV__law_unlike dc__law_unlike pm__law_unlike cd__law_unlike ct__law_unlike oc__law_right kV__law_right dc__law_right pm__law_right cd__law_right ct__law_right oc_law kV_law dc_law pm_law cd_law ct_law oc_Box___eq__ kV_Box___eq__ dc_Box___eq__ pm_Box___eq__ cd_Box___eq__ ct_Box___eq__ oc_Box___init__ kV_Box___init__ dc_Box___init__ pm_Box___init__ cd_Box___init__ ct_Box___init__ : Value} {oT  : Obj} {nT  : Nat}  {t_LIMIT t_LEAST t_MOST_FAMILIES t_SIZES t_MOST_LETTERS : Tok} (X : K.In h) (G : h.Ns mainGlobals mg) (hfa : mg "law" = some (.ref fa))
    (a_is_integer : PySem.W.nsIn K mainGlobals "is_integer" = some (some (.ref f_is_integer)))
    (l_is_integer : K.lookup f_is_integer = some ⟨oc_is_integer, od_is_integer, .func (PySem.W.fnOf "is_integer" "is_integer" (defArgs stm_is_integer) (defBody stm_is_integer) (defScope stm_is_integer) .none kV_is_integer dc_is_integer pm_is_integer an_is_integer cd_is_integer ct_is_integer), sl_is_integer⟩)
    (c_is_integer : PySem.W.codeIn K cd_is_integer "is_integer" = true)
    (k_is_integer : PySem.W.keepIn K (.ref f_is_integer) = true)
    (a_is_signed : PySem.W.nsIn K mainGlobals "is_signed" = some (some (.ref f_is_signed)))
    (l_is_signed : K.lookup f_is_signed = some ⟨oc_is_signed, od_is_signed, .func (PySem.W.fnOf "is_signed" "is_signed" (defArgs stm_is_signed) (defBody stm_is_signed) (defScope stm_is_signed) .none kV_is_signed dc_is_signed pm_is_signed an_is_signed cd_is_signed ct_is_signed), sl_is_signed⟩)
    (c_is_signed : PySem.W.codeIn K cd_is_signed "is_signed" = true)
    (k_is_signed : PySem.W.keepIn K (.ref f_is_signed) = true)
    (a_wrong_part : PySem.W.nsIn K mainGlobals "wrong_part" = some (some (.ref f_wrong_part)))
    (l_wrong_part : K.lookup f_wrong_part = some ⟨oc_wrong_part, od_wrong_part, .func (PySem.W.fnOf "wrong_part" "wrong_part" (defArgs stm_wrong_part) (defBody stm_wrong_part) (defScope stm_wrong_part) .none kV_wrong_part dc_wrong_part pm_wrong_part an_wrong_part cd_wrong_part ct_wrong_part), sl_wrong_part⟩)
    (c_wrong_part : PySem.W.codeIn K cd_wrong_part "wrong_part" = true)
    (k_wrong_part : PySem.W.keepIn K (.ref f_wrong_part) = true)
    (a_are_marks : PySem.W.nsIn K mainGlobals "are_marks" = some (some (.ref f_are_marks)))
    (l_are_marks : K.lookup f_are_marks = some ⟨oc_are_marks, od_are_marks, .func (PySem.W.fnOf "are_marks" "are_marks" (defArgs stm_are_marks) (defBody stm_are_marks) (defScope stm_are_marks) .none kV_are_marks dc_are_marks pm_are_marks an_are_marks cd_are_marks ct_are_marks), sl_are_marks⟩)
    (c_are_marks : PySem.W.codeIn K cd_are_marks "are_marks" = true)
    (k_are_marks : PySem.W.keepIn K (.ref f_are_marks) = true)
    (a_check_box : PySem.W.nsIn K mainGlobals "check_box" = some (some (.ref f_check_box)))
    (l_check_box : K.lookup f_check_box = some ⟨oc_check_box, od_check_box, .func (PySem.W.fnOf "check_box" "check_box" (defArgs stm_check_box) (defBody stm_check_box) (defScope stm_check_box) .none kV_check_box dc_check_box pm_check_box an_check_box cd_check_box ct_check_box), sl_check_box⟩)
    (c_check_box : PySem.W.codeIn K cd_check_box "check_box" = true)
    (k_check_box : PySem.W.keepIn K (.ref f_check_box) = true)
    (a_ink_of : PySem.W.nsIn K mainGlobals "ink_of" = some (some (.ref f_ink_of)))
    (l_ink_of : K.lookup f_ink_of = some ⟨oc_ink_of, od_ink_of, .func (PySem.W.fnOf "ink_of" "ink_of" (defArgs stm_ink_of) (defBody stm_ink_of) (defScope stm_ink_of) .none kV_ink_of dc_ink_of pm_ink_of an_ink_of cd_ink_of ct_ink_of), sl_ink_of⟩)
    (c_ink_of : PySem.W.codeIn K cd_ink_of "ink_of" = true)
    (k_ink_of : PySem.W.keepIn K (.ref f_ink_of) = true)
    (a_ink : PySem.W.nsIn K mainGlobals "ink" = some (some (.ref f_ink)))
    (l_ink : K.lookup f_ink = some ⟨oc_ink, od_ink, .func (PySem.W.fnOf "ink" "ink" (defArgs stm_ink) (defBody stm_ink) (defScope stm_ink) .none kV_ink dc_ink pm_ink an_ink cd_ink ct_ink), sl_ink⟩)
    (c_ink : PySem.W.codeIn K cd_ink "ink" = true)
    (k_ink : PySem.W.keepIn K (.ref f_ink) = true)
    (a_unlike_ink : PySem.W.nsIn K mainGlobals "unlike_ink" = some (some (.ref f_unlike_ink)))
    (l_unlike_ink : K.lookup f_unlike_ink = some ⟨oc_unlike_ink, od_unlike_ink, .func (PySem.W.fnOf "unlike_ink" "unlike_ink" (defArgs stm_unlike_ink) (defBody stm_unlike_ink) (defScope stm_unlike_ink) .none kV_unlike_ink dc_unlike_ink pm_unlike_ink an_unlike_ink cd_unlike_ink ct_unlike_ink), sl_unlike_ink⟩)
    (c_unlike_ink : PySem.W.codeIn K cd_unlike_ink "unlike_ink" = true)
    (k_unlike_ink : PySem.W.keepIn K (.ref f_unlike_ink) = true)
    (a_first_unlike : PySem.W.nsIn K mainGlobals "first_unlike" = some (some (.ref f_first_unlike)))
    (l_first_unlike : K.lookup f_first_unlike = some ⟨oc_first_unlike, od_first_unlike, .func (PySem.W.fnOf "first_unlike" "first_unlike" (defArgs stm_first_unlike) (defBody stm_first_unlike) (defScope stm_first_unlike) .none kV_first_unlike dc_first_unlike pm_first_unlike an_first_unlike cd_first_unlike ct_first_unlike), sl_first_unlike⟩)
    (c_first_unlike : PySem.W.codeIn K cd_first_unlike "first_unlike" = true)
    (k_first_unlike : PySem.W.keepIn K (.ref f_first_unlike) = true)
    (a_same_ink : PySem.W.nsIn K mainGlobals "same_ink" = some (some (.ref f_same_ink)))
    (l_same_ink : K.lookup f_same_ink = some ⟨oc_same_ink, od_same_ink, .func (PySem.W.fnOf "same_ink" "same_ink" (defArgs stm_same_ink) (defBody stm_same_ink) (defScope stm_same_ink) .none kV_same_ink dc_same_ink pm_same_ink an_same_ink cd_same_ink ct_same_ink), sl_same_ink⟩)
    (c_same_ink : PySem.W.codeIn K cd_same_ink "same_ink" = true)
    (k_same_ink : PySem.W.keepIn K (.ref f_same_ink) = true)
    (a__law_mix : PySem.W.nsIn K mainGlobals "_law_mix" = some (some (.ref f__law_mix)))
    (l__law_mix : K.lookup f__law_mix = some ⟨oc__law_mix, od__law_mix, .func (PySem.W.fnOf "_law_mix" "_law_mix" (defArgs stm__law_mix) (defBody stm__law_mix) (defScope stm__law_mix) .none kV__law_mix dc__law_mix pm__law_mix an__law_mix cd__law_mix ct__law_mix), sl__law_mix⟩)
    (c__law_mix : PySem.W.codeIn K cd__law_mix "_law_mix" = true)
    (k__law_mix : PySem.W.keepIn K (.ref f__law_mix) = true)
    (a__law_source : PySem.W.nsIn K mainGlobals "_law_source" = some (some (.ref f__law_source)))
    (l__law_source : K.lookup f__law_source = some ⟨oc__law_source, od__law_source, .func (PySem.W.fnOf "_law_source" "_law_source" (defArgs stm__law_source) (defBody stm__law_source) (defScope stm__law_source) .none kV__law_source dc__law_source pm__law_source an__law_source cd__law_source ct__law_source), sl__law_source⟩)
    (c__law_source : PySem.W.codeIn K cd__law_source "_law_source" = true)
    (k__law_source : PySem.W.keepIn K (.ref f__law_source) = true)
    (a__law_draw : PySem.W.nsIn K mainGlobals "_law_draw" = some (some (.ref f__law_draw)))
    (l__law_draw : K.lookup f__law_draw = some ⟨oc__law_draw, od__law_draw, .func (PySem.W.fnOf "_law_draw" "_law_draw" (defArgs stm__law_draw) (defBody stm__law_draw) (defScope stm__law_draw) .none kV__law_draw dc__law_draw pm__law_draw an__law_draw cd__law_draw ct__law_draw), sl__law_draw⟩)
    (c__law_draw : PySem.W.codeIn K cd__law_draw "_law_draw" = true)
    (k__law_draw : PySem.W.keepIn K (.ref f__law_draw) = true)
    (a__law_pick : PySem.W.nsIn K mainGlobals "_law_pick" = some (some (.ref f__law_pick)))
    (l__law_pick : K.lookup f__law_pick = some ⟨oc__law_pick, od__law_pick, .func (PySem.W.fnOf "_law_pick" "_law_pick" (defArgs stm__law_pick) (defBody stm__law_pick) (defScope stm__law_pick) .none kV__law_pick dc__law_pick pm__law_pick an__law_pick cd__law_pick ct__law_pick), sl__law_pick⟩)
    (c__law_pick : PySem.W.codeIn K cd__law_pick "_law_pick" = true)
    (k__law_pick : PySem.W.keepIn K (.ref f__law_pick) = true)
    (a__law_number : PySem.W.nsIn K mainGlobals "_law_number" = some (some (.ref f__law_number)))
    (l__law_number : K.lookup f__law_number = some ⟨oc__law_number, od__law_number, .func (PySem.W.fnOf "_law_number" "_law_number" (defArgs stm__law_number) (defBody stm__law_number) (defScope stm__law_number) .none kV__law_number dc__law_number pm__law_number an__law_number cd__law_number ct__law_number), sl__law_number⟩)
    (c__law_number : PySem.W.codeIn K cd__law_number "_law_number" = true)
    (k__law_number : PySem.W.keepIn K (.ref f__law_number) = true)
    (a__law_mark : PySem.W.nsIn K mainGlobals "_law_mark" = some (some (.ref f__law_mark)))
    (l__law_mark : K.lookup f__law_mark = some ⟨oc__law_mark, od__law_mark, .func (PySem.W.fnOf "_law_mark" "_law_mark" (defArgs stm__law_mark) (defBody stm__law_mark) (defScope stm__law_mark) .none kV__law_mark dc__law_mark pm__law_mark an__law_mark cd__law_mark ct__law_mark), sl__law_mark⟩)
    (c__law_mark : PySem.W.codeIn K cd__law_mark "_law_mark" = true)
    (k__law_mark : PySem.W.keepIn K (.ref f__law_mark) = true)
    (a__law_marks : PySem.W.nsIn K mainGlobals "_law_marks" = some (some (.ref f__law_marks)))
    (l__law_marks : K.lookup f__law_marks = some ⟨oc__law_marks, od__law_marks, .func (PySem.W.fnOf "_law_marks" "_law_marks" (defArgs stm__law_marks) (defBody stm__law_marks) (defScope stm__law_marks) .none kV__law_marks dc__law_marks pm__law_marks an__law_marks cd__law_marks ct__law_marks), sl__law_marks⟩)
    (c__law_marks : PySem.W.codeIn K cd__law_marks "_law_marks" = true)
    (k__law_marks : PySem.W.keepIn K (.ref f__law_marks) = true)
    (a__law_box : PySem.W.nsIn K mainGlobals "_law_box" = some (some (.ref f__law_box)))
    (l__law_box : K.lookup f__law_box = some ⟨oc__law_box, od__law_box, .func (PySem.W.fnOf "_law_box" "_law_box" (defArgs stm__law_box) (defBody stm__law_box) (defScope stm__law_box) .none kV__law_box dc__law_box pm__law_box an__law_box cd__law_box ct__law_box), sl__law_box⟩)
    (c__law_box : PySem.W.codeIn K cd__law_box "_law_box" = true)
    (k__law_box : PySem.W.keepIn K (.ref f__law_box) = true)
    (a__law_all : PySem.W.nsIn K mainGlobals "_law_all" = some (some (.ref f__law_all)))
    (l__law_all : K.lookup f__law_all = some ⟨oc__law_all, od__law_all, .func (PySem.W.fnOf "_law_all" "_law_all" (defArgs stm__law_all) (defBody stm__law_all) (defScope stm__law_all) .none kV__law_all dc__law_all pm__law_all an__law_all cd__law_all ct__law_all), sl__law_all⟩)
    (c__law_all : PySem.W.codeIn K cd__law_all "_law_all" = true)
    (k__law_all : PySem.W.keepIn K (.ref f__law_all) = true)
    (a__law_ink : PySem.W.nsIn K mainGlobals "_law_ink" = some (some (.ref f__law_ink)))
    (l__law_ink : K.lookup f__law_ink = some ⟨oc__law_ink, od__law_ink, .func (PySem.W.fnOf "_law_ink" "_law_ink" (defArgs stm__law_ink) (defBody stm__law_ink) (defScope stm__law_ink) .none kV__law_ink dc__law_ink pm__law_ink an__law_ink cd__law_ink ct__law_ink), sl__law_ink⟩)
    (c__law_ink : PySem.W.codeIn K cd__law_ink "_law_ink" = true)
    (k__law_ink : PySem.W.keepIn K (.ref f__law_ink) = true)
    (a__law_other : PySem.W.nsIn K mainGlobals "_law_other" = some (some (.ref f__law_other)))
    (l__law_other : K.lookup f__law_other = some ⟨oc__law_other, od__law_other, .func (PySem.W.fnOf "_law_other" "_law_other" (defArgs stm__law_other) (defBody stm__law_other) (defScope stm__law_other) .none kV__law_other dc__law_other pm__law_other an__law_other cd__law_other ct__law_other), sl__law_other⟩)
    (c__law_other : PySem.W.codeIn K cd__law_other "_law_other" = true)
    (k__law_other : PySem.W.keepIn K (.ref f__law_other) = true)
    (a__law_unlike : PySem.W.nsIn K mainGlobals "_law_unlike" = some (some (.ref f__law_unlike)))
    (l__law_unlike : K.lookup f__law_unlike = some ⟨oc__law_unlike, od__law_unlike, .func (PySem.W.fnOf "_law_unlike" "_law_unlike" (defArgs stm__law_unlike) (defBody stm__law_unlike) (defScope stm__law_unlike) .none kV__law_unlike dc__law_unlike pm__law_unlike an__law_unlike cd__law_unlike ct__law_unlike), sl__law_unlike⟩)
    (c__law_unlike : PySem.W.codeIn K cd__law_unlike "_law_unlike" = true)
    (k__law_unlike : PySem.W.keepIn K (.ref f__law_unlike) = true)
    (a__law_right : PySem.W.nsIn K mainGlobals "_law_right" = some (some (.ref f__law_right)))
    (l__law_right : K.lookup f__law_right = some ⟨oc__law_right, od__law_right, .func (PySem.W.fnOf "_law_right" "_law_right" (defArgs stm__law_right) (defBody stm__law_right) (defScope stm__law_right) .none kV__law_right dc__law_right pm__law_right an__law_right cd__law_right ct__law_right), sl__law_right⟩)
    (c__law_right : PySem.W.codeIn K cd__law_right "_law_right" = true)
    (k__law_right : PySem.W.keepIn K (.ref f__law_right) = true)
    (a_law : PySem.W.nsIn K mainGlobals "law" = some (some (.ref f_law)))
    (l_law : K.lookup f_law = some ⟨oc_law, od_law, .func (PySem.W.fnOf "law" "law" (defArgs stm_law) (defBody stm_law) (defScope stm_law) .none kV_law dc_law pm_law an_law cd_law ct_law), sl_law⟩)
    (c_law : PySem.W.codeIn K cd_law "law" = true)
    (k_law : PySem.W.keepIn K (.ref f_law) = true)
    (aC_Box : PySem.W.nsIn K mainGlobals "Box" = some (some (.ref C_Box)))
    (a_Box___init__ : PySem.W.findIn K (.ref C_Box) "__init__" = some (some (.ref f_Box___init__)))
    (i_Box___init__ : PySem.W.isFn K (.ref f_Box___init__) = true)
    (l_Box___init__ : K.lookup f_Box___init__ = some ⟨oc_Box___init__, od_Box___init__, .func (PySem.W.fnOf "__init__" "Box.__init__" (defArgs stm_Box___init__) (defBody stm_Box___init__) (defScope stm_Box___init__) (.ref Td) kV_Box___init__ dc_Box___init__ pm_Box___init__ an_Box___init__ cd_Box___init__ ct_Box___init__), sl_Box___init__⟩)
    (c_Box___init__ : PySem.W.codeIn K cd_Box___init__ "Box.__init__" = true)
    (k_Box___init__ : PySem.W.keepIn K (.ref f_Box___init__) = true)
    (ht_Box : PySem.W.typeIn K (.ref C_Box) = some (.type "type"))
    (hs_Box_NoneType : PySem.W.subIn K (.type "NoneType") (.ref C_Box) = some false)
    (hs_Box_bool : PySem.W.subIn K (.type "bool") (.ref C_Box) = some false)
    (hs_Box_int : PySem.W.subIn K (.type "int") (.ref C_Box) = some false)
    (hs_Box_str : PySem.W.subIn K (.type "str") (.ref C_Box) = some false)
    (hs_Box_tuple : PySem.W.subIn K (.type "tuple") (.ref C_Box) = some false)
    (hs_Box_list : PySem.W.subIn K (.type "list") (.ref C_Box) = some false)
    (hs_Box_dict : PySem.W.subIn K (.type "dict") (.ref C_Box) = some false)
    (pg_Box : PySem.W.plainGet K C_Box Str.empty = true)
    (hd_Box : PySem.W.hasDictIn K C_Box = true)
    (po_Box : PySem.W.plainOver K C_Box = true)
    (sa_Box : PySem.W.findIn K (.ref C_Box) "__setattr__" = some (some (.builtin "object.__setattr__")))
    (mk_Box : PySem.W.makesIn K C_Box = true)
    (kc_Box : PySem.W.keepIn K (.ref C_Box) = true)
    (n_Box_width : PySem.W.findIn K (.ref C_Box) "width" = some none)
    (n_Box_height : PySem.W.findIn K (.ref C_Box) "height" = some none)
    (n_Box_depth : PySem.W.findIn K (.ref C_Box) "depth" = some none)
    (n_Box_marks : PySem.W.findIn K (.ref C_Box) "marks" = some none)
    (ha_Box : PySem.W.findIn K (.ref C_Box) "__class__" = some (some (.builtin "object.__class__")))
    (hm_Box : PySem.W.mroIn K C_Box (.type "object") = some true)
    (hn : PySem.W.specialIn K (.builtin "object.__class__") "__get__" = some (some (.builtin "getset_descriptor.__get__")))
    (htk : PySem.W.takesIn K (.builtin "object.__class__") = some true)
    (l_T : K.lookup Td = some oT)
    (d_T : oT.data = .seq #[.ref e0] nT)
    (a_Box___eq__ : PySem.W.findIn K (.ref C_Box) "__eq__" = some (some (.ref f_Box___eq__)))
    (i_Box___eq__ : PySem.W.isFn K (.ref f_Box___eq__) = true)
    (l_Box___eq__ : K.lookup f_Box___eq__ = some ⟨oc_Box___eq__, od_Box___eq__, .func (PySem.W.fnOf "__eq__" "Box.__eq__" (defArgs stm_Box___eq__) (defBody stm_Box___eq__) (defScope stm_Box___eq__) .none kV_Box___eq__ dc_Box___eq__ pm_Box___eq__ an_Box___eq__ cd_Box___eq__ ct_Box___eq__), sl_Box___eq__⟩)
    (c_Box___eq__ : PySem.W.codeIn K cd_Box___eq__ "Box.__eq__" = true)
    (k_Box___eq__ : PySem.W.keepIn K (.ref f_Box___eq__) = true)
    (ne : PySem.W.findIn K (.ref C_Box) "__ne__" = some (some (.builtin "object.__ne__")))
    (v_LIMIT : PySem.W.nsIn K mainGlobals "LIMIT" = some (some (.int (1000000000000000000000000000000000000000000000000000000000000) t_LIMIT)))
    (v_LEAST : PySem.W.nsIn K mainGlobals "LEAST" = some (some (.int (-1000000000000000000000000000000000000000000000000000000000000) t_LEAST)))
    (v_MOST_FAMILIES : PySem.W.nsIn K mainGlobals "MOST_FAMILIES" = some (some (.int (4) t_MOST_FAMILIES)))
    (v_SIZES : PySem.W.nsIn K mainGlobals "SIZES" = some (some (.int (3) t_SIZES)))
    (v_MOST_LETTERS : PySem.W.nsIn K mainGlobals "MOST_LETTERS" = some (some (.int (8) t_MOST_LETTERS)))
    (z_isinstance : PySem.W.nsIn K mainGlobals "isinstance" = some none)
    (z_int : PySem.W.nsIn K mainGlobals "int" = some none)
    (z_str : PySem.W.nsIn K mainGlobals "str" = some none)
    (z_tuple : PySem.W.nsIn K mainGlobals "tuple" = some none)
    (z_list : PySem.W.nsIn K mainGlobals "list" = some none)
    (z_len : PySem.W.nsIn K mainGlobals "len" = some none)
    (z_max : PySem.W.nsIn K mainGlobals "max" = some none)
    (z_min : PySem.W.nsIn K mainGlobals "min" = some none)
    (z_range : PySem.W.nsIn K mainGlobals "range" = some none)
    (z_type : PySem.W.nsIn K mainGlobals "type" = some none)
    (z_repr : PySem.W.nsIn K mainGlobals "repr" = some none)
    (z_sorted : PySem.W.nsIn K mainGlobals "sorted" = some none)
    (z_enumerate : PySem.W.nsIn K mainGlobals "enumerate" = some none) :
    ∃ fd : FuncData, (∀ (s : Shared) (v : Value), BindsTo s fd ⟨[v], []⟩ [("script", v)]) ∧ ∀ base : Heap, K.In base → base.Ns mainGlobals mg → FnG l.prog w K mg base 9 fa fd ["script"] (spLawD K) := by
  have e := hfa.symm.trans (PySem.W.mg_of X G a_law)
  cases e
  have cl_Box : Cls K C_Box := ⟨pg_Box, hd_Box, po_Box, sa_Box⟩
  have F_is_integer := fun_mk (st := stm_is_integer) l_is_integer c_is_integer k_is_integer
  have b_is_integer := F_is_integer.binds (ps := ["value"]) fun _ _ _ _ _ _ us hl => match us, hl with | [_], _ => rfl
  have F_is_signed := fun_mk (st := stm_is_signed) l_is_signed c_is_signed k_is_signed
  have b_is_signed := F_is_signed.binds (ps := ["value"]) fun _ _ _ _ _ _ us hl => match us, hl with | [_], _ => rfl
  have F_wrong_part := fun_mk (st := stm_wrong_part) l_wrong_part c_wrong_part k_wrong_part
  have b_wrong_part := F_wrong_part.binds (ps := ["box"]) fun _ _ _ _ _ _ us hl => match us, hl with | [_], _ => rfl
  have F_are_marks := fun_mk (st := stm_are_marks) l_are_marks c_are_marks k_are_marks
  have b_are_marks := F_are_marks.binds (ps := ["marks"]) fun _ _ _ _ _ _ us hl => match us, hl with | [_], _ => rfl
  have F_check_box := fun_mk (st := stm_check_box) l_check_box c_check_box k_check_box
  have b_check_box := F_check_box.binds (ps := ["box"]) fun _ _ _ _ _ _ us hl => match us, hl with | [_], _ => rfl
  have F_ink_of := fun_mk (st := stm_ink_of) l_ink_of c_ink_of k_ink_of
  have b_ink_of := F_ink_of.binds (ps := ["box"]) fun _ _ _ _ _ _ us hl => match us, hl with | [_], _ => rfl
  have F_ink := fun_mk (st := stm_ink) l_ink c_ink k_ink
  have b_ink := F_ink.binds (ps := ["box"]) fun _ _ _ _ _ _ us hl => match us, hl with | [_], _ => rfl
  have F_unlike_ink := fun_mk (st := stm_unlike_ink) l_unlike_ink c_unlike_ink k_unlike_ink
  have b_unlike_ink := F_unlike_ink.binds (ps := ["one", "other"]) fun _ _ _ _ _ _ us hl => match us, hl with | [_, _], _ => rfl
  have F_first_unlike := fun_mk (st := stm_first_unlike) l_first_unlike c_first_unlike k_first_unlike
  have b_first_unlike := F_first_unlike.binds (ps := ["one", "other"]) fun _ _ _ _ _ _ us hl => match us, hl with | [_, _], _ => rfl
  have F_same_ink := fun_mk (st := stm_same_ink) l_same_ink c_same_ink k_same_ink
  have b_same_ink := F_same_ink.binds (ps := ["one", "other"]) fun _ _ _ _ _ _ us hl => match us, hl with | [_, _], _ => rfl
  have F__law_mix := fun_mk (st := stm__law_mix) l__law_mix c__law_mix k__law_mix
  have b__law_mix := F__law_mix.binds (ps := ["cell", "lap"]) fun _ _ _ _ _ _ us hl => match us, hl with | [_, _], _ => rfl
  have F__law_source := fun_mk (st := stm__law_source) l__law_source c__law_source k__law_source
  have b__law_source := F__law_source.binds (ps := ["script", "k"]) fun _ _ _ _ _ _ us hl => match us, hl with | [_, _], _ => rfl
  have F__law_draw := fun_mk (st := stm__law_draw) l__law_draw c__law_draw k__law_draw
  have b__law_draw := F__law_draw.binds (ps := ["well", "many"]) fun _ _ _ _ _ _ us hl => match us, hl with | [_, _], _ => rfl
  have F__law_pick := fun_mk (st := stm__law_pick) l__law_pick c__law_pick k__law_pick
  have b__law_pick := F__law_pick.binds (ps := ["well", "some"]) fun _ _ _ _ _ _ us hl => match us, hl with | [_, _], _ => rfl
  have F__law_number := fun_mk (st := stm__law_number) l__law_number c__law_number k__law_number
  have b__law_number := F__law_number.binds (ps := ["well"]) fun _ _ _ _ _ _ us hl => match us, hl with | [_], _ => rfl
  have F__law_mark := fun_mk (st := stm__law_mark) l__law_mark c__law_mark k__law_mark
  have b__law_mark := F__law_mark.binds (ps := ["well"]) fun _ _ _ _ _ _ us hl => match us, hl with | [_], _ => rfl
  have F__law_marks := fun_mk (st := stm__law_marks) l__law_marks c__law_marks k__law_marks
  have b__law_marks := F__law_marks.binds (ps := ["well"]) fun _ _ _ _ _ _ us hl => match us, hl with | [_], _ => rfl
  have F__law_box := fun_mk (st := stm__law_box) l__law_box c__law_box k__law_box
  have b__law_box := F__law_box.binds (ps := ["well"]) fun _ _ _ _ _ _ us hl => match us, hl with | [_], _ => rfl
  have F__law_all := fun_mk (st := stm__law_all) l__law_all c__law_all k__law_all
  have b__law_all := F__law_all.binds (ps := ["one"]) fun _ _ _ _ _ _ us hl => match us, hl with | [_], _ => rfl
  have F__law_ink := fun_mk (st := stm__law_ink) l__law_ink c__law_ink k__law_ink
  have b__law_ink := F__law_ink.binds (ps := ["one"]) fun _ _ _ _ _ _ us hl => match us, hl with | [_], _ => rfl
  have F__law_other := fun_mk (st := stm__law_other) l__law_other c__law_other k__law_other
  have b__law_other := F__law_other.binds (ps := ["well", "one"]) fun _ _ _ _ _ _ us hl => match us, hl with | [_, _], _ => rfl
  have F__law_unlike := fun_mk (st := stm__law_unlike) l__law_unlike c__law_unlike k__law_unlike
  have b__law_unlike := F__law_unlike.binds (ps := ["one", "other"]) fun _ _ _ _ _ _ us hl => match us, hl with | [_, _], _ => rfl
  have F__law_right := fun_mk (st := stm__law_right) l__law_right c__law_right k__law_right
  have b__law_right := F__law_right.binds (ps := ["well"]) fun _ _ _ _ _ _ us hl => match us, hl with | [_], _ => rfl
  have F_law := fun_mk (st := stm_law) l_law c_law k_law
  have b_law := F_law.binds (ps := ["script"]) fun _ _ _ _ _ _ us hl => match us, hl with | [_], _ => rfl
  have F_Box___eq__ := fun_mk (st := stm_Box___eq__) l_Box___eq__ c_Box___eq__ k_Box___eq__
  have b_Box___eq__ := F_Box___eq__.binds (ps := ["self", "other"]) fun _ _ _ _ _ _ us hl => match us, hl with | [_, _], _ => rfl
  have FB : FunD K "__init__" "Box.__init__" (defArgs stm_Box___init__) (defBody stm_Box___init__) (defScope stm_Box___init__) [.ref e0] [] f_Box___init__ (PySem.W.fnOf "__init__" "Box.__init__" (defArgs stm_Box___init__) (defBody stm_Box___init__) (defScope stm_Box___init__) (.ref Td) kV_Box___init__ dc_Box___init__ pm_Box___init__ an_Box___init__ cd_Box___init__ ct_Box___init__) :=
    ⟨⟨_, _, _, _, _, _, _, _, _, _, rfl, l_Box___init__, c_Box___init__, .inr ⟨by simp, Td, oT, [.ref e0], nT, rfl, l_T, d_T, .cons rfl .nil⟩, .inl rfl⟩, k_Box___init__⟩
  have bB : Binds K (PySem.W.fnOf "__init__" "Box.__init__" (defArgs stm_Box___init__) (defBody stm_Box___init__) (defScope stm_Box___init__) (.ref Td) kV_Box___init__ dc_Box___init__ pm_Box___init__ an_Box___init__ cd_Box___init__ ct_Box___init__) ["self", "width", "height", "depth", "marks"] [] := by
    obtain ⟨ds, hv, hb⟩ := FB.binds1 (ps := ["self", "width", "height", "depth", "marks"]) 5 1 (by simp) rfl fun T kV doc pm an cdv ct us its hl hi => match us, hl, its, hi with | [_, _, _, _, _], _, [_], _ => ⟨_, rfl, rfl⟩
    cases hv
    exact hb
  have isk_Box : ∀ t ∈ tnames, PySem.W.kitOne K (.type t) (.ref C_Box) = some false := by
    intro t ht
    simp only [tnames, List.mem_cons, List.not_mem_nil, or_false] at ht
    rcases ht with rfl | rfl | rfl | rfl | rfl | rfl | rfl
    · exact kitOne_no hd_Box ht_Box hs_Box_NoneType
    · exact kitOne_no hd_Box ht_Box hs_Box_bool
    · exact kitOne_no hd_Box ht_Box hs_Box_int
    · exact kitOne_no hd_Box ht_Box hs_Box_str
    · exact kitOne_no hd_Box ht_Box hs_Box_tuple
    · exact kitOne_no hd_Box ht_Box hs_Box_list
    · exact kitOne_no hd_Box ht_Box hs_Box_dict
  let T : Txt K mg := { z_isinstance := PySem.W.mg_none_of X G z_isinstance, z_int := PySem.W.mg_none_of X G z_int, z_str := PySem.W.mg_none_of X G z_str, z_tuple := PySem.W.mg_none_of X G z_tuple, z_list := PySem.W.mg_none_of X G z_list, z_len := PySem.W.mg_none_of X G z_len, z_max := PySem.W.mg_none_of X G z_max, z_min := PySem.W.mg_none_of X G z_min, z_range := PySem.W.mg_none_of X G z_range, z_type := PySem.W.mg_none_of X G z_type, z_repr := PySem.W.mg_none_of X G z_repr, z_sorted := PySem.W.mg_none_of X G z_sorted, z_enumerate := PySem.W.mg_none_of X G z_enumerate, t_LIMIT := t_LIMIT, m_LIMIT := PySem.W.mg_of X G v_LIMIT, t_LEAST := t_LEAST, m_LEAST := PySem.W.mg_of X G v_LEAST, t_MOST_FAMILIES := t_MOST_FAMILIES, m_MOST_FAMILIES := PySem.W.mg_of X G v_MOST_FAMILIES, t_SIZES := t_SIZES, m_SIZES := PySem.W.mg_of X G v_SIZES, t_MOST_LETTERS := t_MOST_LETTERS, m_MOST_LETTERS := PySem.W.mg_of X G v_MOST_LETTERS, A := ⟨C_Box, C_Box, C_Box, C_Box, C_Box, C_Box, C_Box⟩, m_Box := PySem.W.mg_of X G aC_Box, cl_Box := cl_Box, is_Box := ⟨⟨cl_Box, ha_Box, hn, htk, hm_Box, if_pos (beq_self_eq_true _)⟩, isk_Box⟩, n_Box_width := n_Box_width, n_Box_height := n_Box_height, n_Box_depth := n_Box_depth, n_Box_marks := n_Box_marks, dv_Box := _, a_Box___init__ := f_Box___init__, fd_Box___init__ := _, F_Box___init__ := FB, mk_Box := ⟨mk_Box, a_Box___init__, i_Box___init__, kc_Box⟩, b_Box4 := bB, a_is_integer := f_is_integer, fd_is_integer := _, F_is_integer := F_is_integer, b_is_integer := b_is_integer, m_is_integer := PySem.W.mg_of X G a_is_integer, a_is_signed := f_is_signed, fd_is_signed := _, F_is_signed := F_is_signed, b_is_signed := b_is_signed, m_is_signed := PySem.W.mg_of X G a_is_signed, a_wrong_part := f_wrong_part, fd_wrong_part := _, F_wrong_part := F_wrong_part, b_wrong_part := b_wrong_part, m_wrong_part := PySem.W.mg_of X G a_wrong_part, a_are_marks := f_are_marks, fd_are_marks := _, F_are_marks := F_are_marks, b_are_marks := b_are_marks, m_are_marks := PySem.W.mg_of X G a_are_marks, a_check_box := f_check_box, fd_check_box := _, F_check_box := F_check_box, b_check_box := b_check_box, m_check_box := PySem.W.mg_of X G a_check_box, a_ink_of := f_ink_of, fd_ink_of := _, F_ink_of := F_ink_of, b_ink_of := b_ink_of, m_ink_of := PySem.W.mg_of X G a_ink_of, a_ink := f_ink, fd_ink := _, F_ink := F_ink, b_ink := b_ink, m_ink := PySem.W.mg_of X G a_ink, a_unlike_ink := f_unlike_ink, fd_unlike_ink := _, F_unlike_ink := F_unlike_ink, b_unlike_ink := b_unlike_ink, m_unlike_ink := PySem.W.mg_of X G a_unlike_ink, a_first_unlike := f_first_unlike, fd_first_unlike := _, F_first_unlike := F_first_unlike, b_first_unlike := b_first_unlike, m_first_unlike := PySem.W.mg_of X G a_first_unlike, a_same_ink := f_same_ink, fd_same_ink := _, F_same_ink := F_same_ink, b_same_ink := b_same_ink, m_same_ink := PySem.W.mg_of X G a_same_ink, a__law_mix := f__law_mix, fd__law_mix := _, F__law_mix := F__law_mix, b__law_mix := b__law_mix, m__law_mix := PySem.W.mg_of X G a__law_mix, a__law_source := f__law_source, fd__law_source := _, F__law_source := F__law_source, b__law_source := b__law_source, m__law_source := PySem.W.mg_of X G a__law_source, a__law_draw := f__law_draw, fd__law_draw := _, F__law_draw := F__law_draw, b__law_draw := b__law_draw, m__law_draw := PySem.W.mg_of X G a__law_draw, a__law_pick := f__law_pick, fd__law_pick := _, F__law_pick := F__law_pick, b__law_pick := b__law_pick, m__law_pick := PySem.W.mg_of X G a__law_pick, a__law_number := f__law_number, fd__law_number := _, F__law_number := F__law_number, b__law_number := b__law_number, m__law_number := PySem.W.mg_of X G a__law_number, a__law_mark := f__law_mark, fd__law_mark := _, F__law_mark := F__law_mark, b__law_mark := b__law_mark, m__law_mark := PySem.W.mg_of X G a__law_mark, a__law_marks := f__law_marks, fd__law_marks := _, F__law_marks := F__law_marks, b__law_marks := b__law_marks, m__law_marks := PySem.W.mg_of X G a__law_marks, a__law_box := f__law_box, fd__law_box := _, F__law_box := F__law_box, b__law_box := b__law_box, m__law_box := PySem.W.mg_of X G a__law_box, a__law_all := f__law_all, fd__law_all := _, F__law_all := F__law_all, b__law_all := b__law_all, m__law_all := PySem.W.mg_of X G a__law_all, a__law_ink := f__law_ink, fd__law_ink := _, F__law_ink := F__law_ink, b__law_ink := b__law_ink, m__law_ink := PySem.W.mg_of X G a__law_ink, a__law_other := f__law_other, fd__law_other := _, F__law_other := F__law_other, b__law_other := b__law_other, m__law_other := PySem.W.mg_of X G a__law_other, a__law_unlike := f__law_unlike, fd__law_unlike := _, F__law_unlike := F__law_unlike, b__law_unlike := b__law_unlike, m__law_unlike := PySem.W.mg_of X G a__law_unlike, a__law_right := f__law_right, fd__law_right := _, F__law_right := F__law_right, b__law_right := b__law_right, m__law_right := PySem.W.mg_of X G a__law_right, a_law := fa, fd_law := _, F_law := F_law, b_law := b_law, m_law := PySem.W.mg_of X G a_law, a_Box___eq__ := f_Box___eq__, fd_Box___eq__ := _, F_Box___eq__ := F_Box___eq__, b_Box___eq__ := b_Box___eq__, eq_Box := ⟨a_Box___eq__, i_Box___eq__, ne, hm_Box⟩ }
  exact ⟨T.fd_law, fun s v => .of_eq rfl, fun base _ _ => ok_law T⟩
end MG.K09
set_option Elab.async false
set_option linter.all false
set_option maxRecDepth 100000
set_option maxHeartbeats 4000000
set_option autoImplicit false
def PySem.W.Fast.tw88043280802296235 : Nat := 0
def PySem.W.Fast.tw17141328070592138961 : Nat := 0
def PySem.W.Fast.tw7257187189743223702 : Nat := 0
def PySem.W.Fast.tw11153717014684013087 : Nat := 0
def PySem.W.Fast.tw15968492813730569912 : Nat := 0
open PySem PySem.W PyProof.Rows in
set_option maxRecDepth 100000 in
set_option maxHeartbeats 0 in
theorem PySem.Challenge.cw_mathboxes_k09_whole_ink_and_what_differs_holds : PySem.Challenge.rw_mathboxes_k09_whole_ink_and_what_differs.Holds := by
  w_on; o_law; k_head; (case hw => w_witness2)
  k_fill
  refine DL.walkG (l := PySem.Challenge.rw_mathboxes_k09_whole_ink_and_what_differs) (n := 63) (k := 9) (x := "script") (sp := DL.spLawD) rfl (by decide) rfl ⟨rfl, by decide, by decide⟩ (fun w h Y => PySem.W.kIn_of Y) ?F (fun _ _ a ns hl _ _ hS => ⟨a, ns, rfl, hS, hl, fun _ => rfl⟩)
  case F =>
    intro w mg fa h KX G hmg
    refine' MG.K09.all_mk KX G hmg ?a_is_integer ?l_is_integer ?c_is_integer ?k_is_integer ?a_is_signed ?l_is_signed ?c_is_signed ?k_is_signed ?a_wrong_part ?l_wrong_part ?c_wrong_part ?k_wrong_part ?a_are_marks ?l_are_marks ?c_are_marks ?k_are_marks ?a_check_box ?l_check_box ?c_check_box ?k_check_box ?a_ink_of ?l_ink_of ?c_ink_of ?k_ink_of ?a_ink ?l_ink ?c_ink ?k_ink ?a_unlike_ink ?l_unlike_ink ?c_unlike_ink ?k_unlike_ink ?a_first_unlike ?l_first_unlike ?c_first_unlike ?k_first_unlike ?a_same_ink ?l_same_ink ?c_same_ink ?k_same_ink ?a__law_mix ?l__law_mix ?c__law_mix ?k__law_mix ?a__law_source ?l__law_source ?c__law_source ?k__law_source ?a__law_draw ?l__law_draw ?c__law_draw ?k__law_draw ?a__law_pick ?l__law_pick ?c__law_pick ?k__law_pick ?a__law_number ?l__law_number ?c__law_number ?k__law_number ?a__law_mark ?l__law_mark ?c__law_mark ?k__law_mark ?a__law_marks ?l__law_marks ?c__law_marks ?k__law_marks ?a__law_box ?l__law_box ?c__law_box ?k__law_box ?a__law_all ?l__law_all ?c__law_all ?k__law_all ?a__law_ink ?l__law_ink ?c__law_ink ?k__law_ink ?a__law_other ?l__law_other ?c__law_other ?k__law_other ?a__law_unlike ?l__law_unlike ?c__law_unlike ?k__law_unlike ?a__law_right ?l__law_right ?c__law_right ?k__law_right ?a_law ?l_law ?c_law ?k_law ?aC_Box ?a_Box___init__ ?i_Box___init__ ?l_Box___init__ ?c_Box___init__ ?k_Box___init__ ?ht_Box ?hs_Box_NoneType ?hs_Box_bool ?hs_Box_int ?hs_Box_str ?hs_Box_tuple ?hs_Box_list ?hs_Box_dict ?pg_Box ?hd_Box ?po_Box ?sa_Box ?mk_Box ?kc_Box ?n_Box_width ?n_Box_height ?n_Box_depth ?n_Box_marks ?ha_Box ?hm_Box ?hn ?htk ?l_T ?d_T ?a_Box___eq__ ?i_Box___eq__ ?l_Box___eq__ ?c_Box___eq__ ?k_Box___eq__ ?ne ?v_LIMIT ?v_LEAST ?v_MOST_FAMILIES ?v_SIZES ?v_MOST_LETTERS ?z_isinstance ?z_int ?z_str ?z_tuple ?z_list ?z_len ?z_max ?z_min ?z_range ?z_type ?z_repr ?z_sorted ?z_enumerate
    (case a_is_integer => k_is)
    (case l_is_integer => k_is)
    (case c_is_integer => k_is)
    (case k_is_integer => k_is)
    (case a_is_signed => k_is)
    (case l_is_signed => k_is)
    (case c_is_signed => k_is)
    (case k_is_signed => k_is)
    (case a_wrong_part => k_is)
    (case l_wrong_part => k_is)
    (case c_wrong_part => k_is)
    (case k_wrong_part => k_is)
    (case a_are_marks => k_is)
    (case l_are_marks => k_is)
    (case c_are_marks => k_is)
    (case k_are_marks => k_is)
    (case a_check_box => k_is)
    (case l_check_box => k_is)
    (case c_check_box => k_is)
    (case k_check_box => k_is)
    (case a_ink_of => k_is)
    (case l_ink_of => k_is)
    (case c_ink_of => k_is)
    (case k_ink_of => k_is)
    (case a_ink => k_is)
    (case l_ink => k_is)
    (case c_ink => k_is)
    (case k_ink => k_is)
    (case a_unlike_ink => k_is)
    (case l_unlike_ink => k_is)
    (case c_unlike_ink => k_is)
    (case k_unlike_ink => k_is)
    (case a_first_unlike => k_is)
    (case l_first_unlike => k_is)
    (case c_first_unlike => k_is)
    (case k_first_unlike => k_is)
    (case a_same_ink => k_is)
    (case l_same_ink => k_is)
    (case c_same_ink => k_is)
    (case k_same_ink => k_is)
    (case a__law_mix => k_is)
    (case l__law_mix => k_is)
    (case c__law_mix => k_is)
    (case k__law_mix => k_is)
    (case a__law_source => k_is)
    (case l__law_source => k_is)
    (case c__law_source => k_is)
    (case k__law_source => k_is)
    (case a__law_draw => k_is)
    (case l__law_draw => k_is)
    (case c__law_draw => k_is)
    (case k__law_draw => k_is)
    (case a__law_pick => k_is)
    (case l__law_pick => k_is)
    (case c__law_pick => k_is)
    (case k__law_pick => k_is)
    (case a__law_number => k_is)
    (case l__law_number => k_is)
    (case c__law_number => k_is)
    (case k__law_number => k_is)
    (case a__law_mark => k_is)
    (case l__law_mark => k_is)
    (case c__law_mark => k_is)
    (case k__law_mark => k_is)
    (case a__law_marks => k_is)
    (case l__law_marks => k_is)
    (case c__law_marks => k_is)
    (case k__law_marks => k_is)
    (case a__law_box => k_is)
    (case l__law_box => k_is)
    (case c__law_box => k_is)
    (case k__law_box => k_is)
    (case a__law_all => k_is)
    (case l__law_all => k_is)
    (case c__law_all => k_is)
    (case k__law_all => k_is)
    (case a__law_ink => k_is)
    (case l__law_ink => k_is)
    (case c__law_ink => k_is)
    (case k__law_ink => k_is)
    (case a__law_other => k_is)
    (case l__law_other => k_is)
    (case c__law_other => k_is)
    (case k__law_other => k_is)
    (case a__law_unlike => k_is)
    (case l__law_unlike => k_is)
    (case c__law_unlike => k_is)
    (case k__law_unlike => k_is)
    (case a__law_right => k_is)
    (case l__law_right => k_is)
    (case c__law_right => k_is)
    (case k__law_right => k_is)
    (case a_law => k_is)
    (case l_law => k_is)
    (case c_law => k_is)
    (case k_law => k_is)
    (case aC_Box => k_is)
    (case a_Box___init__ => k_is)
    (case i_Box___init__ => k_is)
    (case l_Box___init__ => k_is)
    (case c_Box___init__ => k_is)
    (case k_Box___init__ => k_is)
    (case ht_Box => k_is)
    (case hs_Box_NoneType => k_is)
    (case hs_Box_bool => k_is)
    (case hs_Box_int => k_is)
    (case hs_Box_str => k_is)
    (case hs_Box_tuple => k_is)
    (case hs_Box_list => k_is)
    (case hs_Box_dict => k_is)
    (case pg_Box => k_is)
    (case hd_Box => k_is)
    (case po_Box => k_is)
    (case sa_Box => k_is)
    (case mk_Box => k_is)
    (case kc_Box => k_is)
    (case n_Box_width => k_is)
    (case n_Box_height => k_is)
    (case n_Box_depth => k_is)
    (case n_Box_marks => k_is)
    (case ha_Box => k_is)
    (case hm_Box => k_is)
    (case hn => k_is)
    (case htk => k_is)
    (case l_T => k_is)
    (case d_T => rfl)
    (case a_Box___eq__ => k_is)
    (case i_Box___eq__ => k_is)
    (case l_Box___eq__ => k_is)
    (case c_Box___eq__ => k_is)
    (case k_Box___eq__ => k_is)
    (case ne => k_is)
    (case v_LIMIT => k_is)
    (case v_LEAST => k_is)
    (case v_MOST_FAMILIES => k_is)
    (case v_SIZES => k_is)
    (case v_MOST_LETTERS => k_is)
    (case z_isinstance => k_is)
    (case z_int => k_is)
    (case z_str => k_is)
    (case z_tuple => k_is)
    (case z_list => k_is)
    (case z_len => k_is)
    (case z_max => k_is)
    (case z_min => k_is)
    (case z_range => k_is)
    (case z_type => k_is)
    (case z_repr => k_is)
    (case z_sorted => k_is)
    (case z_enumerate => k_is)
#print axioms PySem.Challenge.cw_mathboxes_k09_whole_ink_and_what_differs_holds
