import PyProof.Rows.All
import Wide.All
import OpenK.AllK
import Wide.FinOn
import HandS.ForMost
import HandS.IsInst
import HandS.Style
import HandS.DictComp
import HandS.SetKeys
import HandS.Conv
import HandS.Zip
import HandS.NoneIn
import HandS.Defaults
import HandS.Evl
import HandS.Deep
import HandS.Codes
import HandS.Exc
import HandS.ExcInit
import KE.SortData
import KE.DataEq
import HandS.TupAny
import HandS.TupLen
import HandS.Text
import HandS.WordsDict
import HandS.SlotsOwn
import HandS.ListItems
import HandS.Lambda
import HandS.ExcField
import HandS.TryMany
import HandS.TupMul
import HandS.WordsExc
import KE.GoesEnum
import HandS.HeadHook4
import HandS.HeadWalk
import KE.KStateDown
import Lean
import HandS.Head0
import HandS.Head1
import HandS.Head2
import HandS.HeadEnd
import PySem.Challenge.RW_rulehouse_k31_folds_made
set_option Elab.async false
set_option linter.all false
set_option maxRecDepth 100000
set_option maxHeartbeats 4000000
/-! Data, and what of a heap is data: a layer of its own over the hand layer. -/
namespace Q
open PySem PySem.Spec PyProof.Rows L2
/-- a value of Python as data, whole -/
inductive D where
  | non | bl (b : Bool) | int (i : Int) | str (x : Str)
  | lst (xs : List D) | tup (xs : List D) | dct (ks vs : List D) | dtt (ks vs : List D)
  | ins (C : Addr) (ns : List Str) (xs : List D)
  | raw (v : V)
def kD : Key → D
  | .inl i => .int i
  | .inr x => .str x
def tD (ks : List Key) : D := .tup (ks.map kD)
mutual
inductive Rep (K : PySem.W.Frag) (F : Hp) : V → D → Prop
  | non : Rep K F .non .non
  | bl (b : Bool) : Rep K F (.bl b) (.bl b)
  | int (i : Int) : Rep K F (.int i) (.int i)
  | str (x : Str) : Rep K F (.str x) (.str x)
  | lst {a : Addr} {vs : List V} {ds : List D} : F a = some (.lst vs) → Reps K F vs ds → Rep K F (.ref a) (.lst ds)
  | tup {a : Addr} {vs : List V} {ds : List D} : SqT K F a vs → Reps K F vs ds → Rep K F (.ref a) (.tup ds)
  | dK {a : Addr} {kvs : List (Key × V)} {ks ds : List D} : F a = some (.dK kvs) → ks = kvs.map (fun p => kD p.1) → Reps K F (kvs.map (·.2)) ds → Rep K F (.ref a) (.dct ks ds)
  | dT {a : Addr} {kvs : List (List Key × V)} {ks ds : List D} : F a = some (.dT kvs) → ks = kvs.map (fun p => tD p.1) → Reps K F (kvs.map (·.2)) ds → Rep K F (.ref a) (.dtt ks ds)
  | ins {a C dx : Addr} {fs : List (Str × V)} {ns : List Str} {ds : List D} : F a = some (.ins C dx fs) → ns = fs.map (·.1) → Reps K F (fs.map (·.2)) ds → Rep K F (.ref a) (.ins C ns ds)
  | raw (v : V) : Rep K F v (.raw v)
inductive Reps (K : PySem.W.Frag) (F : Hp) : List V → List D → Prop
  | nil : Reps K F [] []
  | cons {v : V} {vs : List V} {d : D} {ds : List D} : Rep K F v d → Reps K F vs ds → Reps K F (v :: vs) (d :: ds)
end
theorem SqL.same {K : PySem.W.Frag} {F F' : Hp} {a : Addr} {vs : List V} (e : Same F F') (h : SqL K F a vs) : SqL K F' a vs := by
  rcases h with (h | ⟨o, h⟩) | h
  · exact .inl (.inl (e _ _ h))
  · exact .inl (.inr ⟨o, e _ _ h⟩)
  · exact .inr h
theorem SqT.same {K : PySem.W.Frag} {F F' : Hp} {a : Addr} {vs : List V} (e : Same F F') (h : SqT K F a vs) : SqT K F' a vs := by
  rcases h with (h | ⟨o, h⟩) | h
  · exact .inl (.inl (e _ _ h))
  · exact .inl (.inr ⟨o, e _ _ h⟩)
  · exact .inr h
section
variable {K : PySem.W.Frag} {F F' : Hp}
mutual
theorem Rep.same (e : Same F F') : ∀ {v : V} {d : D}, Rep K F v d → Rep K F' v d
  | _, _, .non => .non
  | _, _, .bl b => .bl b
  | _, _, .int i => .int i
  | _, _, .str x => .str x
  | _, _, .lst h r => .lst (e _ _ h) (Reps.same e r)
  | _, _, .tup h r => .tup (SqT.same e h) (Reps.same e r)
  | _, _, .dK h n r => .dK (e _ _ h) n (Reps.same e r)
  | _, _, .dT h n r => .dT (e _ _ h) n (Reps.same e r)
  | _, _, .ins h n r => .ins (e _ _ h) n (Reps.same e r)
  | _, _, .raw v => .raw v
theorem Reps.same (e : Same F F') : ∀ {vs : List V} {ds : List D}, Reps K F vs ds → Reps K F' vs ds
  | _, _, .nil => .nil
  | _, _, .cons h t => .cons (Rep.same e h) (Reps.same e t)
end
theorem Reps.length : ∀ {vs : List V} {ds : List D}, Reps K F vs ds → vs.length = ds.length
  | _, _, .nil => rfl
  | _, _, .cons _ t => by rw [List.length_cons, List.length_cons, Reps.length t]
theorem Reps.get : ∀ {vs : List V} {ds : List D} {i : Nat} {v : V}, Reps K F vs ds → vs[i]? = some v → ∃ d, ds[i]? = some d ∧ Rep K F v d
  | _, _, _, _, .nil, e => by simp at e
  | _, _, 0, _, .cons r _, e => by simp at e; subst e; exact ⟨_, rfl, r⟩
  | _, _, i + 1, v, .cons _ t, e => by
    obtain ⟨d, h1, h2⟩ := Reps.get (i := i) (v := v) t (by simpa using e)
    exact ⟨d, by simpa using h1, h2⟩
theorem Reps.get' : ∀ {vs : List V} {ds : List D} {i : Nat} {d : D}, Reps K F vs ds → ds[i]? = some d → ∃ v, vs[i]? = some v ∧ Rep K F v d
  | _, _, _, _, .nil, e => by simp at e
  | _, _, 0, _, .cons r _, e => by simp at e; subst e; exact ⟨_, rfl, r⟩
  | _, _, i + 1, d, .cons _ t, e => by
    obtain ⟨v, h1, h2⟩ := Reps.get' (i := i) (d := d) t (by simpa using e)
    exact ⟨v, by simpa using h1, h2⟩
theorem Reps.append : ∀ {vs us : List V} {ds es : List D}, Reps K F vs ds → Reps K F us es → Reps K F (vs ++ us) (ds ++ es)
  | _, _, _, _, .nil, s => s
  | _, _, _, _, .cons r t, s => .cons r (Reps.append t s)
theorem Reps.one {v : V} {d : D} (r : Rep K F v d) : Reps K F [v] [d] := .cons r .nil
theorem Reps.snoc {vs : List V} {ds : List D} {v : V} {d : D} (h : Reps K F vs ds) (r : Rep K F v d) : Reps K F (vs ++ [v]) (ds ++ [d]) := h.append (.one r)
theorem Reps.take : ∀ {vs : List V} {ds : List D} (n : Nat), Reps K F vs ds → Reps K F (vs.take n) (ds.take n)
  | _, _, 0, _ => .nil
  | _, _, _ + 1, .nil => .nil
  | _, _, n + 1, .cons r t => .cons r (Reps.take n t)
theorem Reps.drop : ∀ {vs : List V} {ds : List D} (n : Nat), Reps K F vs ds → Reps K F (vs.drop n) (ds.drop n)
  | _, _, 0, r => r
  | _, _, _ + 1, .nil => .nil
  | _, _, n + 1, .cons _ t => Reps.drop n t
theorem Reps.set {v : V} {d : D} (r : Rep K F v d) : ∀ {vs : List V} {ds : List D} (i : Nat), Reps K F vs ds → Reps K F (vs.set i v) (ds.set i d)
  | _, _, _, .nil => .nil
  | _, _, 0, .cons _ t => .cons r t
  | _, _, i + 1, .cons q t => .cons q (Reps.set r i t)
theorem Reps.erase : ∀ {vs : List V} {ds : List D} (i : Nat), Reps K F vs ds → Reps K F (vs.eraseIdx i) (ds.eraseIdx i)
  | _, _, _, .nil => .nil
  | _, _, 0, .cons _ t => t
  | _, _, i + 1, .cons q t => .cons q (Reps.erase i t)
theorem Reps.reverse : ∀ {vs : List V} {ds : List D}, Reps K F vs ds → Reps K F vs.reverse ds.reverse
  | _, _, .nil => .nil
  | _, _, .cons r t => by rw [List.reverse_cons, List.reverse_cons]; exact (Reps.reverse t).snoc r
theorem Reps.map {α : Type} {f : α → V} {g : α → D} (h : ∀ x, Rep K F (f x) (g x)) : ∀ xs : List α, Reps K F (xs.map f) (xs.map g)
  | [] => .nil
  | x :: xs => .cons (h x) (Reps.map h xs)
end
/-! ### regions -/
/-- something that is no data: its addresses, what is told of it -/
structure Rgn where
  G : Type
  ok : G → (Addr → Prop) → Hp → Prop
  fr : ∀ {g : G} {Z : Addr → Prop} {H H' : Hp}, ok g Z H → (∀ a, Z a → H' a = H a) → ok g Z H'
  al : ∀ {g : G} {Z : Addr → Prop} {H : Hp}, ok g Z H → ∀ a, Z a → H a ≠ none
def noR : Rgn := ⟨Unit, fun _ Z _ => ∀ a, ¬ Z a, fun h _ => h, fun h a z => (h a z).elim⟩
def noG : noR.G := ()
/-- what stands in a slot: data that stays; a list or a dict of the def's own -/
inductive DV where
  | fz (d : D) | own (d : D)
structure DS (R : Rgn) where
  g : R.G
  sl : List (Option DV)
def DS.put {R : Rgn} (ρ : DS R) (i : Nat) (x : Option DV) : DS R := ⟨ρ.g, ρ.sl.set i x⟩
/-- a body runs: the heap at its entry, what of it was data, the region's addresses, what is wanted of an exception -/
structure Ctx where
  K : PySem.W.Frag
  R : Rgn
  H0 : Hp
  F0 : Hp
  Z0 : Addr → Prop
/-- a list or a dict of the def's own: it may change, what it holds stays -/
def OwnAt (K : PySem.W.Frag) (F H : Hp) (a : Addr) : D → Prop
  | .lst ds => ∃ vs, H a = some (.lst vs) ∧ Reps K F vs ds
  | .dct ks ds => ∃ kvs, H a = some (.dK kvs) ∧ ks = kvs.map (fun p => kD p.1) ∧ Reps K F (kvs.map (·.2)) ds
  | .dtt ks ds => ∃ kvs, H a = some (.dT kvs) ∧ ks = kvs.map (fun p => tD p.1) ∧ Reps K F (kvs.map (·.2)) ds
  | _ => False
theorem OwnAt.there {K : PySem.W.Frag} {F H : Hp} {a : Addr} : ∀ {d : D}, OwnAt K F H a d → H a ≠ none
  | .lst _, ⟨_, h, _⟩ => by rw [h]; exact fun z => by cases z
  | .dct _ _, ⟨_, h, _⟩ => by rw [h]; exact fun z => by cases z
  | .dtt _ _, ⟨_, h, _⟩ => by rw [h]; exact fun z => by cases z
theorem OwnAt.same {K : PySem.W.Frag} {F F' H H' : Hp} {a : Addr} (e : Same F F') (eh : H' a = H a) : ∀ {d : D}, OwnAt K F H a d → OwnAt K F' H' a d
  | .lst _, ⟨vs, h, r⟩ => ⟨vs, by rw [eh]; exact h, r.same e⟩
  | .dct _ _, ⟨vs, h, n, r⟩ => ⟨vs, by rw [eh]; exact h, n, r.same e⟩
  | .dtt _ _, ⟨vs, h, n, r⟩ => ⟨vs, by rw [eh]; exact h, n, r.same e⟩
def SlotOk (K : PySem.W.Frag) (F H : Hp) (σ : L2.St) (i : Nat) : Option (Option DV) → Prop
  | some (some (.fz d)) => ∃ v, σ[i]? = some (some v) ∧ Rep K F v d
  | some (some (.own d)) => ∃ a, σ[i]? = some (some (.ref a)) ∧ OwnAt K F H a d
  | _ => True
/-- slot i holds an object of one's own at a -/
def Owns (σ : L2.St) (sl : List (Option DV)) (i : Nat) (a : Addr) : Prop := σ[i]? = some (some (.ref a)) ∧ ∃ d, sl[i]? = some (some (.own d))
structure St (c : Ctx) (F : Hp) (O : List Addr) (σ : L2.St) (ρ : DS c.R) (H : Hp) : Prop where
  len : σ.length = ρ.sl.length
  sub : Same F H
  old : Same c.F0 F
  new : ∀ b, F b ≠ none → c.F0 b = none → c.H0 b = none
  keep : ∀ b o, c.H0 b = some o → ¬ c.Z0 b → H b = some o
  live : ∀ b, c.H0 b ≠ none → H b ≠ none
  slots : ∀ i, SlotOk c.K F H σ i ρ.sl[i]?
  mine : ∀ i a, Owns σ ρ.sl i a → F a = none ∧ c.H0 a = none ∧ a ∉ O
  inj : ∀ i j a, Owns σ ρ.sl i a → Owns σ ρ.sl j a → i = j
  out : ∀ a ∈ O, F a = none ∧ c.H0 a = none ∧ H a ≠ none
  reg : ∃ Z, c.R.ok ρ.g Z H ∧ (∀ b, Z b → F b = none) ∧ (∀ b, Z b → ¬ c.Z0 b → c.H0 b = none) ∧ (∀ a ∈ O, ¬ Z a) ∧ ∀ i a, Owns σ ρ.sl i a → ¬ Z a
theorem Owns.there {K : PySem.W.Frag} {F H : Hp} {σ : L2.St} {sl : List (Option DV)} {i : Nat} {a : Addr} (h : Owns σ sl i a) (s : SlotOk K F H σ i sl[i]?) : ∃ d, sl[i]? = some (some (.own d)) ∧ OwnAt K F H a d := by
  obtain ⟨h1, d, h2⟩ := h
  rw [h2] at s
  obtain ⟨b, e, q⟩ := s
  rw [h1] at e
  cases e
  exact ⟨d, h2, q⟩
/-! ### new objects -/
inductive Al (F H : Hp) : Hp → Hp → Prop
  | no : Al F H F H
  | new {F' H' : Hp} {p : Addr} (o : HO) : Al F H F' H' → H' p = none → Al F H (upd F' p o) (upd H' p o)
theorem Al.one {F H : Hp} {p : Addr} {o : HO} (h : H p = none) : Al F H (upd F p o) (upd H p o) := .new o .no h
theorem Same.upd_at {F H : Hp} {p : Addr} {o : HO} (h : Same F H) (n : H p = none) : Same F (upd F p o) := fun b u e => by
  rw [upd_ne (ne_of_none (h _ _ e) n)]; exact e
theorem Same.upd2 {F H : Hp} {p : Addr} {o : HO} (h : Same F H) : Same (upd F p o) (upd H p o) := fun b u e => by
  by_cases z : b = p
  · subst z; rw [upd_same] at e ⊢; exact e
  · rw [upd_ne z] at e ⊢; exact h _ _ e
theorem Al.sub {F H F' H' : Hp} (a : Al F H F' H') (s : Same F H) : Same F' H' := by
  induction a with
  | no => exact s
  | new o _ _ ih => exact Same.upd2 ih
theorem Al.fs {F H F' H' : Hp} (a : Al F H F' H') (s : Same F H) : Same F F' := by
  induction a with
  | no => exact Same.refl _
  | new o b h ih => exact ih.trans (Same.upd_at (b.sub s) h)
theorem Al.hs {F H F' H' : Hp} (a : Al F H F' H') : Same H H' := by
  induction a with
  | no => exact Same.refl _
  | new o b h ih => exact ih.trans fun b u e => by rw [upd_ne (ne_of_none e h)]; exact e
theorem Al.old {F H F' H' : Hp} (a : Al F H F' H') {b : Addr} (n : F' b ≠ none) : F b ≠ none ∨ H b = none := by
  induction a with
  | no => exact .inl n
  | @new F1 H1 p o a1 h ih =>
    by_cases z : b = p
    · subst z
      exact .inr (a1.hs.free h)
    · rw [upd_ne z] at n
      exact ih n
theorem Al.at {F H F' H' : Hp} (a : Al F H F' H') {b : Addr} (n : H b ≠ none) : H' b = H b := by
  cases h : H b with
  | none => exact absurd h n
  | some o => exact a.hs _ _ h
theorem Al.trans {F H F1 H1 F2 H2 : Hp} (a : Al F H F1 H1) (b : Al F1 H1 F2 H2) : Al F H F2 H2 := by
  induction b with
  | no => exact a
  | new o _ h ih => exact .new o ih h
section
variable {c : Ctx} {F F' H H' : Hp} {O : List Addr} {σ : L2.St} {ρ : DS c.R}
/-- the heap grows: new data, the same all else -/
structure Grow (F H F' H' : Hp) : Prop where
  fs : Same F F'
  sub : Same F' H'
  hs : Same H H'
  old : ∀ b, F' b ≠ none → F b ≠ none ∨ H b = none
theorem Al.grow (a : Al F H F' H') (s : Same F H) : Grow F H F' H' := ⟨a.fs s, a.sub s, a.hs, fun _ => a.old⟩
theorem Grow.refl (s : Same F H) : Grow F H F H := ⟨Same.refl _, s, Same.refl _, fun _ h => .inl h⟩
theorem Same.live {H H' : Hp} (e : Same H H') {b : Addr} (h : H b ≠ none) : H' b = H b := by
  cases q : H b with
  | none => exact absurd q h
  | some o => exact e _ _ q
theorem St.grow (S : St c F O σ ρ H) (g : Grow F H F' H') : St c F' O σ ρ H' where
  len := S.len
  sub := g.sub
  old := S.old.trans g.fs
  new := fun b n e => by
    rcases g.old b n with q | q
    · exact S.new b q e
    · cases h : c.H0 b with
      | none => rfl
      | some o => exact absurd q (S.live b (by rw [h]; exact fun z => by cases z))
  keep := fun b o e n => g.hs _ _ (S.keep b o e n)
  live := fun b n => by rw [Same.live g.hs (S.live b n)]; exact S.live b n
  slots := fun i => by
    have h := S.slots i
    cases e : ρ.sl[i]? with
    | none => trivial
    | some x =>
      rw [e] at h
      cases x with
      | none => trivial
      | some x =>
        cases x with
        | fz d =>
          obtain ⟨v, h1, h2⟩ := h
          exact ⟨v, h1, h2.same g.fs⟩
        | own d =>
          obtain ⟨a, h1, h2⟩ := h
          exact ⟨a, h1, h2.same g.fs (Same.live g.hs h2.there)⟩
  mine := fun i a h => by
    obtain ⟨m1, m2, m3⟩ := S.mine i a h
    refine ⟨?_, m2, m3⟩
    obtain ⟨d, _, q⟩ := h.there (S.slots i)
    cases e : F' a with
    | none => rfl
    | some o =>
      rcases g.old a (by rw [e]; exact fun z => by cases z) with z | z
      · exact absurd m1 z
      · exact absurd z q.there
  inj := S.inj
  out := fun a h => by
    obtain ⟨m1, m2, m3⟩ := S.out a h
    refine ⟨?_, m2, by rw [Same.live g.hs m3]; exact m3⟩
    cases e : F' a with
    | none => rfl
    | some o =>
      rcases g.old a (by rw [e]; exact fun z => by cases z) with z | z
      · exact absurd m1 z
      · exact absurd z m3
  reg := by
    obtain ⟨Z, r, z1, z2, z3, z4⟩ := S.reg
    refine ⟨Z, c.R.fr r fun a h => Same.live g.hs (c.R.al r a h), fun b h => ?_, z2, z3, z4⟩
    cases e : F' b with
    | none => rfl
    | some o =>
      rcases g.old b (by rw [e]; exact fun z => by cases z) with z | z
      · exact absurd (z1 b h) z
      · exact absurd z (c.R.al r b h)
theorem set_get {α : Type} {l : List α} {i j : Nat} {x : α} : (l.set i x)[j]? = if i = j then (if i < l.length then some x else none) else l[j]? := by
  by_cases h : i = j
  · subst h
    rw [if_pos rfl]
    by_cases q : i < l.length
    · rw [if_pos q]; simp [q]
    · rw [if_neg q]; simp; omega
  · rw [if_neg h]; simp [h]
/-- a slot is set to data -/
theorem St.setF (S : St c F O σ ρ H) {v : V} {d : D} (r : Rep c.K F v d) (i : Nat) : St c F O (σ.set i (some v)) (ρ.put i (some (.fz d))) H := by
  have own : ∀ j a, Owns (σ.set i (some v)) (ρ.put i (some (.fz d))).sl j a → Owns σ ρ.sl j a := fun j a h => by
    obtain ⟨h1, x, h2⟩ := h
    have h2 : (ρ.sl.set i (some (.fz d)))[j]? = some (some (.own x)) := h2
    rw [set_get] at h1 h2
    by_cases e : i = j
    · rw [if_pos e] at h2
      split at h2 <;> cases h2
    · rw [if_neg e] at h1 h2
      exact ⟨h1, x, h2⟩
  refine ⟨by show (σ.set i _).length = (ρ.sl.set i _).length; rw [List.length_set, List.length_set]; exact S.len, S.sub, S.old, S.new, S.keep, S.live, fun j => ?_, fun j a h => S.mine j a (own j a h), fun j k a h h' => S.inj j k a (own j a h) (own k a h'), S.out, ?_⟩
  · show SlotOk c.K F H (σ.set i (some v)) j (ρ.sl.set i (some (.fz d)))[j]?
    rw [set_get]
    by_cases e : i = j
    · subst e
      rw [if_pos rfl]
      by_cases q : i < ρ.sl.length
      · rw [if_pos q]
        exact ⟨v, by rw [set_get, if_pos rfl, if_pos (by rw [S.len]; exact q)], r⟩
      · rw [if_neg q]
        trivial
    · rw [if_neg e]
      have h := S.slots j
      have e2 : (σ.set i (some v))[j]? = σ[j]? := by rw [set_get, if_neg e]
      cases q : ρ.sl[j]? with
      | none => trivial
      | some x =>
        rw [q] at h
        cases x with
        | none => trivial
        | some x =>
          cases x with
          | fz d =>
            obtain ⟨v, h1, h2⟩ := h
            exact ⟨v, by rw [e2]; exact h1, h2⟩
          | own d =>
            obtain ⟨a, h1, h2⟩ := h
            exact ⟨a, by rw [e2]; exact h1, h2⟩
  · obtain ⟨Z, r, z1, z2, z3, z4⟩ := S.reg
    exact ⟨Z, r, z1, z2, z3, fun j a h => z4 j a (own j a h)⟩
end
end Q

set_option Elab.async false
set_option linter.all false
set_option maxRecDepth 100000
set_option maxHeartbeats 4000000
namespace Q
open PySem PySem.Spec PyProof.Rows L2
/-! ### what is read: data, or an object of the def's own -/
def VRep (K : PySem.W.Frag) (F : Hp) (σ : L2.St) (sl : List (Option DV)) (v : V) (d : D) : Bool → Prop
  | false => Rep K F v d
  | true => Rep K F v d ∨ ∃ (a : Addr) (i : Nat), v = V.ref a ∧ σ[i]? = some (some (V.ref a)) ∧ sl[i]? = some (some (DV.own d))
/-- as it is read: its top in the heap, what it holds among the data -/
inductive BV (K : PySem.W.Frag) (F H : Hp) (v : V) (d : D) : Prop
  | rep (r : Rep K F v d)
  | own {a : Addr} (e : v = .ref a) (o : OwnAt K F H a d)
section
variable {c : Ctx} {F F' H H' : Hp} {O : List Addr} {σ : L2.St} {ρ : DS c.R} {v : V} {d : D} {b : Bool}
theorem VRep.bv (r : VRep c.K F σ ρ.sl v d b) (S : St c F O σ ρ H) : BV c.K F H v d := by
  cases b with
  | false => exact .rep r
  | true =>
    rcases r with r | ⟨a, i, rfl, h1, h2⟩
    · exact .rep r
    · have h := S.slots i
      rw [h2] at h
      obtain ⟨a', e, o⟩ := h
      rw [h1] at e
      cases e
      exact .own rfl o
theorem VRep.grow (r : VRep c.K F σ ρ.sl v d b) (e : Same F F') : VRep c.K F' σ ρ.sl v d b := by
  cases b with
  | false => exact Rep.same e r
  | true =>
    rcases r with r | r
    · exact .inl (r.same e)
    · exact .inr r
theorem VRep.up (r : Rep c.K F v d) : VRep c.K F σ ρ.sl v d b := by
  cases b with
  | false => exact r
  | true => exact .inl r
end
section
variable {K : PySem.W.Frag} {F H : Hp} {v : V}
theorem BV.lst {ds : List D} (h : BV K F H v (.lst ds)) (s : Same F H) : ∃ a vs, v = .ref a ∧ H a = some (.lst vs) ∧ Reps K F vs ds := by
  rcases h with r | ⟨e, o⟩
  · cases r with
    | lst h r => exact ⟨_, _, rfl, s _ _ h, r⟩
  · obtain ⟨vs, h, r⟩ := o
    exact ⟨_, _, e, h, r⟩
theorem BV.tup {ds : List D} (h : BV K F H v (.tup ds)) (s : Same F H) : ∃ a vs, v = .ref a ∧ SqT K H a vs ∧ Reps K F vs ds := by
  rcases h with r | ⟨e, o⟩
  · cases r with
    | tup h r => exact ⟨_, _, rfl, SqT.same s h, r⟩
  · exact o.elim
theorem BV.int {i : Int} (h : BV K F H v (.int i)) : v = .int i := by
  rcases h with r | ⟨e, o⟩
  · cases r; rfl
  · exact o.elim
theorem BV.str {x : Str} (h : BV K F H v (.str x)) : v = .str x := by
  rcases h with r | ⟨e, o⟩
  · cases r; rfl
  · exact o.elim
theorem BV.bl {x : Bool} (h : BV K F H v (.bl x)) : v = .bl x := by
  rcases h with r | ⟨e, o⟩
  · cases r; rfl
  · exact o.elim
theorem BV.non (h : BV K F H v .non) : v = .non := by
  rcases h with r | ⟨e, o⟩
  · cases r; rfl
  · exact o.elim
theorem BV.raw {u : V} (h : BV K F H v (.raw u)) : v = u := by
  rcases h with r | ⟨e, o⟩
  · cases r; rfl
  · exact o.elim
theorem BV.dct {ks ds : List D} (h : BV K F H v (.dct ks ds)) (s : Same F H) : ∃ a kvs, v = .ref a ∧ H a = some (.dK kvs) ∧ ks = kvs.map (fun p => kD p.1) ∧ Reps K F (kvs.map (·.2)) ds := by
  rcases h with r | ⟨e, o⟩
  · cases r with
    | dK h n r => exact ⟨_, _, rfl, s _ _ h, n, r⟩
  · obtain ⟨kvs, o⟩ := o
    exact ⟨_, kvs, e, o⟩
theorem BV.dtt {ks ds : List D} (h : BV K F H v (.dtt ks ds)) (s : Same F H) : ∃ a kvs, v = .ref a ∧ H a = some (.dT kvs) ∧ ks = kvs.map (fun p => tD p.1) ∧ Reps K F (kvs.map (·.2)) ds := by
  rcases h with r | ⟨e, o⟩
  · cases r with
    | dT h n r => exact ⟨_, _, rfl, s _ _ h, n, r⟩
  · obtain ⟨kvs, o⟩ := o
    exact ⟨_, kvs, e, o⟩
theorem BV.ins {C : Addr} {ns : List Str} {ds : List D} (h : BV K F H v (.ins C ns ds)) (s : Same F H) : ∃ a dx fs, v = .ref a ∧ H a = some (.ins C dx fs) ∧ ns = fs.map (·.1) ∧ Reps K F (fs.map (·.2)) ds := by
  rcases h with r | ⟨e, o⟩
  · cases r with
    | ins h n r => exact ⟨_, _, _, rfl, s _ _ h, n, r⟩
  · exact o.elim
end
/-! ### an expression's reading over data -/
abbrev WE (R : Rgn) := DS R → (D → DS R → Prop) → Prop
abbrev WB (R : Rgn) := DS R → (Bool → DS R → Prop) → Prop
abbrev WA (R : Rgn) := DS R → (List D → DS R → Prop) → Prop
/-- pu: nothing but new objects comes of it; bo: it may be an object of the def's own -/
def liftE (c : Ctx) (pu bo : Bool) (w : WE c.R) : TE := fun σ H Q => ∃ (ρ : DS c.R) (F : Hp) (O : List Addr) (Kk : D → DS c.R → Prop), St c F O σ ρ H ∧ w ρ Kk ∧
  ∀ d ρ' v F' H', Kk d ρ' → St c F' O σ ρ' H' → Same F F' → (∀ a ∈ O, H' a = H a) → (pu = true → ρ' = ρ ∧ Grow F H F' H') → VRep c.K F' σ ρ'.sl v d bo → Q v H'
def liftT (c : Ctx) (pu : Bool) (w : WB c.R) : TT := fun σ H Q => ∃ (ρ : DS c.R) (F : Hp) (O : List Addr) (Kk : Bool → DS c.R → Prop), St c F O σ ρ H ∧ w ρ Kk ∧
  ∀ d ρ' F' H', Kk d ρ' → St c F' O σ ρ' H' → Same F F' → (∀ a ∈ O, H' a = H a) → (pu = true → ρ' = ρ ∧ Grow F H F' H') → Q d H'
def liftA (c : Ctx) (pu : Bool) (w : WA c.R) : TA := fun σ H Q => ∃ (ρ : DS c.R) (F : Hp) (O : List Addr) (Kk : List D → DS c.R → Prop), St c F O σ ρ H ∧ w ρ Kk ∧
  ∀ ds ρ' vs F' H', Kk ds ρ' → St c F' O σ ρ' H' → Same F F' → (∀ a ∈ O, H' a = H a) → (pu = true → ρ' = ρ ∧ Grow F H F' H') → Reps c.K F' vs ds → Q vs H'
/-- a fresh list or dict -/
def ObjD (K : PySem.W.Frag) (F : Hp) : HO → D → Prop
  | .lst vs, .lst ds => Reps K F vs ds
  | .dK kvs, .dct ks ds => ks = kvs.map (fun p => kD p.1) ∧ Reps K F (kvs.map (·.2)) ds
  | .dT kvs, .dtt ks ds => ks = kvs.map (fun p => tD p.1) ∧ Reps K F (kvs.map (·.2)) ds
  | _, _ => False
def liftF (c : Ctx) (pu : Bool) (w : WE c.R) : TE := fun σ H Q => ∃ (ρ : DS c.R) (F : Hp) (O : List Addr) (Kk : D → DS c.R → Prop), St c F O σ ρ H ∧ w ρ Kk ∧
  ∀ d ρ' p o F' H', Kk d ρ' → St c F' O σ ρ' H' → Same F F' → (∀ a ∈ O, H' a = H a) → (pu = true → ρ' = ρ ∧ Grow F H F' H') → H' p = none → ObjD c.K F' o d → Q (.ref p) (upd H' p o)
structure DE (X : Cx) (c : Ctx) (pu bo : Bool) (e : Expr) (w : WE c.R) : Prop where
  pe : PE X e (liftE c pu bo w)
  kk : X.K = c.K
structure FE (X : Cx) (c : Ctx) (pu : Bool) (e : Expr) (w : WE c.R) : Prop where
  pe : PE X e (liftF c pu w)
  kk : X.K = c.K
structure DT (X : Cx) (c : Ctx) (pu : Bool) (e : Expr) (w : WB c.R) : Prop where
  pt : PT X e (liftT c pu w)
structure DA (X : Cx) (c : Ctx) (pu : Bool) (es : List Expr) (w : WA c.R) : Prop where
  pa : PA X es (liftA c pu w)
theorem _root_.L2.PE.imp {X : Cx} {e : Expr} {t u : TE} (h : PE X e t) (i : ∀ σ H Q, u σ H Q → t σ H Q) : PE X e u := ⟨fun pins s σ H Q I q => h.run pins s σ H Q I (i σ H Q q)⟩
theorem _root_.L2.PT.imp {X : Cx} {e : Expr} {t u : TT} (h : PT X e t) (i : ∀ σ H Q, u σ H Q → t σ H Q) : PT X e u := ⟨fun pins s σ H Q I q => h.run pins s σ H Q I (i σ H Q q)⟩
theorem _root_.L2.PW.imp {X : Cx} {e : Expr} {t u : TT} (h : PW X e t) (i : ∀ σ H Q, u σ H Q → t σ H Q) : PW X e u := ⟨fun wh pins s σ H Q I q => h.run wh pins s σ H Q I (i σ H Q q)⟩
theorem _root_.L2.PA.imp {X : Cx} {e : List Expr} {t u : TA} (h : PA X e t) (i : ∀ σ H Q, u σ H Q → t σ H Q) : PA X e u := ⟨fun pos pins s σ H Q I q => h.run pos pins s σ H Q I (i σ H Q q)⟩
theorem _root_.L2.PS.imp {X : Cx} {e : Stmt} {t u : TS} (h : PS X e t) (i : ∀ D σ H, u D σ H → t D σ H) : PS X e u := ⟨fun pins s σ H D I q => h.run pins s σ H D I (i D σ H q)⟩
theorem _root_.L2.PSs.imp {X : Cx} {e : List Stmt} {t u : TS} (h : PSs X e t) (i : ∀ D σ H, u D σ H → t D σ H) : PSs X e u := ⟨fun pins s σ H D I q => h.run pins s σ H D I (i D σ H q)⟩
theorem Grow.trans {F H F1 H1 F2 H2 : Hp} (a : Grow F H F1 H1) (b : Grow F1 H1 F2 H2) : Grow F H F2 H2 :=
  ⟨a.fs.trans b.fs, b.sub, a.hs.trans b.hs, fun x n => by
    rcases b.old x n with q | q
    · exact a.old x q
    · exact .inr (a.hs.free q)⟩
theorem Grow.at {F H F' H' : Hp} (g : Grow F H F' H') {a : Addr} (n : H a ≠ none) : H' a = H a := Same.live g.hs n
section
variable {X : Cx} {c : Ctx} {e a b : Expr} {es : List Expr} {pos : Pos}
/-! #### names, constants -/
def wC (R : Rgn) (d : D) : WE R := fun ρ K => K d ρ
theorem de_of_c {v : V} {d : D} (h : PE X e (tC v)) (r : ∀ F, Rep c.K F v d) (hk : X.K = c.K) : DE X c true false e (wC c.R d) :=
  ⟨h.imp fun σ H Q ⟨ρ, F, O, Kk, S, w, k⟩ => k d ρ v F H w S (Same.refl _) (fun _ _ => rfl) (fun _ => ⟨rfl, Grow.refl S.sub⟩) (r F), hk⟩
theorem de_int {i : Int} {j} (hk : X.K = c.K := by rfl) : DE X c true false (.Constant (.int i) j pos) (wC c.R (.int i)) := de_of_c pe_int (fun _ => .int i) hk
theorem de_bl {i : Bool} {j} (hk : X.K = c.K := by rfl) : DE X c true false (.Constant (.bool i) j pos) (wC c.R (.bl i)) := de_of_c pe_bl (fun _ => .bl i) hk
theorem de_non {j} (hk : X.K = c.K := by rfl) : DE X c true false (.Constant .none j pos) (wC c.R .non) := de_of_c pe_non (fun _ => .non) hk
theorem de_str {x : Str} {j} (hk : X.K = c.K := by rfl) : DE X c true false (.Constant (.str x) j pos) (wC c.R (.str x)) := de_of_c pe_str (fun _ => .str x) hk
/-- a name that holds data -/
def wV {R : Rgn} (i : Nat) : WE R := fun ρ K => ∃ d, ρ.sl[i]? = some (some (.fz d)) ∧ K d ρ
theorem de_v {i : Nat} {x : Str} (hN : X.N[i]? = some x := by rfl) (hv : Vis X.env.scope x := by first | exact .inl rfl | exact .inr (.inl rfl) | exact .inr (.inr rfl)) (hk : X.K = c.K := by rfl)
    (hd : (x == ("__debug__" : Str)) = false := by decide) (hcd : (x == ("__classdict__" : Str)) = false := by decide) : DE X c true false (.Name x pos) (wV i) :=
  ⟨(pe_var hN hv hd hcd).imp fun σ H Q ⟨ρ, F, O, Kk, S, ⟨d, hd, w⟩, k⟩ => by
    have h := S.slots i
    rw [hd] at h
    obtain ⟨v, h1, h2⟩ := h
    exact ⟨v, h1, k d ρ v F H w S (Same.refl _) (fun _ _ => rfl) (fun _ => ⟨rfl, Grow.refl S.sub⟩) h2⟩, hk⟩
/-- a name that may hold an object of the def's own, read -/
def wB {R : Rgn} (i : Nat) : WE R := fun ρ K => (∃ d, ρ.sl[i]? = some (some (.fz d)) ∧ K d ρ) ∨ ∃ d, ρ.sl[i]? = some (some (.own d)) ∧ K d ρ
theorem de_b {i : Nat} {x : Str} (hN : X.N[i]? = some x := by rfl) (hv : Vis X.env.scope x := by first | exact .inl rfl | exact .inr (.inl rfl) | exact .inr (.inr rfl)) (hk : X.K = c.K := by rfl)
    (hd : (x == ("__debug__" : Str)) = false := by decide) (hcd : (x == ("__classdict__" : Str)) = false := by decide) : DE X c true true (.Name x pos) (wB i) :=
  ⟨(pe_var hN hv hd hcd).imp fun σ H Q ⟨ρ, F, O, Kk, S, w, k⟩ => by
    have h := S.slots i
    rcases w with ⟨d, hd, w⟩ | ⟨d, hd, w⟩
    · rw [hd] at h
      obtain ⟨v, h1, h2⟩ := h
      exact ⟨v, h1, k d ρ v F H w S (Same.refl _) (fun _ _ => rfl) (fun _ => ⟨rfl, Grow.refl S.sub⟩) (.inl h2)⟩
    · rw [hd] at h
      obtain ⟨a, h1, h2⟩ := h
      exact ⟨.ref a, h1, k d ρ _ F H w S (Same.refl _) (fun _ _ => rfl) (fun _ => ⟨rfl, Grow.refl S.sub⟩) (.inr ⟨a, i, rfl, h1, hd⟩)⟩, hk⟩
/-- an object of the def's own becomes data -/
theorem OwnAt.rep {K : PySem.W.Frag} {F H : Hp} {a : Addr} {o : HO} (h : H a = some o) (n : F a = none) : ∀ {d : D}, OwnAt K F H a d → Rep K (upd F a o) (.ref a) d
  | .lst ds, ⟨vs, e, r⟩ => by
    rw [h] at e
    cases e
    exact .lst upd_same (r.same fun b u q => by rw [upd_ne (ne_of_none q n)]; exact q)
  | .dct ks ds, ⟨vs, e, m, r⟩ => by
    rw [h] at e
    cases e
    exact .dK upd_same m (r.same fun b u q => by rw [upd_ne (ne_of_none q n)]; exact q)
  | .dtt ks ds, ⟨vs, e, m, r⟩ => by
    rw [h] at e
    cases e
    exact .dT upd_same m (r.same fun b u q => by rw [upd_ne (ne_of_none q n)]; exact q)
theorem St.freeze {F H : Hp} {O : List Addr} {σ : L2.St} {ρ : DS c.R} {i : Nat} {p : Addr} {d : D} (S : St c F O σ ρ H) (h1 : σ[i]? = some (some (.ref p))) (h2 : ρ.sl[i]? = some (some (.own d))) :
    ∃ F', Same F F' ∧ St c F' O σ (ρ.put i (some (.fz d))) H ∧ Rep c.K F' (.ref p) d := by
  have hs := S.slots i
  rw [h2] at hs
  obtain ⟨p', e, ow⟩ := hs
  rw [h1] at e
  cases e
  cases ho : H p with
  | none => exact absurd ho ow.there
  | some o =>
    have ns : Owns σ ρ.sl i p := ⟨h1, d, h2⟩
    obtain ⟨m1, m2, m3⟩ := S.mine i p ns
    have fs : Same F (upd F p o) := fun b u q => by rw [upd_ne (ne_of_none q m1)]; exact q
    have r := OwnAt.rep (K := c.K) ho m1 ow
    refine ⟨upd F p o, fs, ?_, r⟩
    have own : ∀ j q, Owns σ (ρ.put i (some (.fz d))).sl j q → Owns σ ρ.sl j q ∧ j ≠ i := fun j q ⟨g1, x, g2⟩ => by
      have g2 : (ρ.sl.set i (some (.fz d)))[j]? = some (some (.own x)) := g2
      rw [set_get] at g2
      by_cases e : i = j
      · rw [if_pos e] at g2
        split at g2 <;> cases g2
      · rw [if_neg e] at g2
        exact ⟨⟨g1, x, g2⟩, fun z => e z.symm⟩
    refine ⟨by show σ.length = (ρ.sl.set i _).length; rw [List.length_set]; exact S.len, fun b u q => ?_, S.old.trans fs, fun b n q => ?_, S.keep, S.live, fun j => ?_, fun j q h => ?_, fun j k q h h' => S.inj j k q (own j q h).1 (own k q h').1, fun q hq => ?_, ?_⟩
    · by_cases z : b = p
      · subst z; rw [upd_same] at q; rw [← q]; exact ho
      · rw [upd_ne z] at q; exact S.sub _ _ q
    · by_cases z : b = p
      · subst z; exact m2
      · rw [upd_ne z] at n; exact S.new b n q
    · show SlotOk c.K (upd F p o) H σ j (ρ.sl.set i (some (.fz d)))[j]?
      rw [set_get]
      by_cases e : i = j
      · subst e
        rw [if_pos rfl]
        by_cases q : i < ρ.sl.length
        · rw [if_pos q]
          exact ⟨_, h1, r⟩
        · rw [if_neg q]; trivial
      · rw [if_neg e]
        have h := S.slots j
        cases q : ρ.sl[j]? with
        | none => trivial
        | some x =>
          rw [q] at h
          cases x with
          | none => trivial
          | some x =>
            cases x with
            | fz d =>
              obtain ⟨v, h1, h2⟩ := h
              exact ⟨v, h1, h2.same fs⟩
            | own d =>
              obtain ⟨a, h1, h2⟩ := h
              exact ⟨a, h1, h2.same fs rfl⟩
    · obtain ⟨n1, n2, n3⟩ := S.mine j q (own j q h).1
      refine ⟨?_, n2, n3⟩
      by_cases z : q = p
      · subst z
        exact absurd (S.inj j i q (own j q h).1 ns) (own j q h).2
      · rw [upd_ne z]; exact n1
    · obtain ⟨n1, n2, n3⟩ := S.out q hq
      refine ⟨?_, n2, n3⟩
      by_cases z : q = p
      · subst z
        exact absurd hq m3
      · rw [upd_ne z]; exact n1
    · obtain ⟨Z, r, z1, z2, z3, z4⟩ := S.reg
      refine ⟨Z, r, fun b hb => ?_, z2, z3, fun j q h => z4 j q (own j q h).1⟩
      by_cases z : b = p
      · subst z; exact absurd hb (z4 i b ns)
      · rw [upd_ne z]; exact z1 b hb
/-- a name that may hold an object of the def's own, handed on: it is data from then on -/
def wO {R : Rgn} (i : Nat) : WE R := fun ρ K => (∃ d, ρ.sl[i]? = some (some (.fz d)) ∧ K d ρ) ∨ ∃ d, ρ.sl[i]? = some (some (.own d)) ∧ K d (ρ.put i (some (.fz d)))
theorem de_o {i : Nat} {x : Str} (hN : X.N[i]? = some x := by rfl) (hv : Vis X.env.scope x := by first | exact .inl rfl | exact .inr (.inl rfl) | exact .inr (.inr rfl)) (hk : X.K = c.K := by rfl)
    (hd : (x == ("__debug__" : Str)) = false := by decide) (hcd : (x == ("__classdict__" : Str)) = false := by decide) : DE X c false false (.Name x pos) (wO i) :=
  ⟨(pe_var hN hv hd hcd).imp fun σ H Q ⟨ρ, F, O, Kk, S, w, k⟩ => by
    have h := S.slots i
    rcases w with ⟨d, hd, w⟩ | ⟨d, hd, w⟩
    · rw [hd] at h
      obtain ⟨v, h1, h2⟩ := h
      exact ⟨v, h1, k d ρ v F H w S (Same.refl _) (fun _ _ => rfl) (fun z => by cases z) h2⟩
    · rw [hd] at h
      obtain ⟨a, h1, h2⟩ := h
      obtain ⟨F', fs, S', r⟩ := S.freeze h1 hd
      exact ⟨.ref a, h1, k d _ _ F' H w S' fs (fun _ _ => rfl) (fun z => by cases z) r⟩, hk⟩
/-- a fresh object becomes data -/
theorem FE.de {pu : Bool} {w : WE c.R} (h : FE X c pu e w) : DE X c pu false e w :=
  ⟨h.pe.imp fun σ H Q ⟨ρ, F, O, Kk, S, w, k⟩ => ⟨ρ, F, O, Kk, S, w, fun d ρ' p o F' H' hk S' fs ko g hp ob => by
    have al : Al F' H' (upd F' p o) (upd H' p o) := Al.one hp
    have gr := al.grow S'.sub
    refine k d ρ' _ (upd F' p o) (upd H' p o) hk (S'.grow gr) (fs.trans gr.fs) (fun a ha => by rw [upd_ne (fun z => (S'.out a ha).2.2 (by rw [z]; exact hp))]; exact ko a ha) (fun z => ⟨(g z).1, (g z).2.trans gr⟩) ?_
    cases o <;> cases d <;> simp only [ObjD] at ob
    · exact .lst upd_same (ob.same gr.fs)
    · exact .dK upd_same ob.1 (ob.2.same gr.fs)
    · exact .dT upd_same ob.1 (ob.2.same gr.fs)⟩, h.kk⟩
end
end Q

set_option Elab.async false
set_option linter.all false
set_option maxRecDepth 100000
set_option maxHeartbeats 4000000
namespace Q
open PySem PySem.Spec PyProof.Rows L2
/-! ### operators over data -/
def R2D (K : PySem.W.Frag) (r : R2) (g : D → D → Option D) : Prop := ∀ {F H : Hp} {v u : V} {x y z : D} {Q : VK}, Same F H → BV K F H v x → BV K F H u y → g x y = some z →
  (∀ v' F' H', Al F H F' H' → Rep K F' v' z → Q v' H') → r v u H Q
def R1D (K : PySem.W.Frag) (r : List V → Hp → VK → Prop) (g : D → Option D) : Prop := ∀ {F H : Hp} {v : V} {x z : D} {Q : VK}, Same F H → BV K F H v x → g x = some z →
  (∀ v' F' H', Al F H F' H' → Rep K F' v' z → Q v' H') → r [v] H Q
def wOp {R : Rgn} (g : D → D → Option D) (wa wb : WE R) : WE R := fun ρ K => wa ρ fun x ρ1 => wb ρ1 fun y ρ2 => ∃ z, g x y = some z ∧ K z ρ2
def wUn {R : Rgn} (g : D → Option D) (wa : WE R) : WE R := fun ρ K => wa ρ fun x ρ1 => ∃ z, g x = some z ∧ K z ρ1
def wTest {R : Rgn} (wa : WE R) : WB R := fun ρ K => wa ρ fun x ρ1 => ∃ b, x = .bl b ∧ K b ρ1
theorem VRep.carry {K : PySem.W.Frag} {F F' : Hp} {σ : L2.St} {sl sl' : List (Option DV)} {v : V} {d : D} {b : Bool} (r : VRep K F σ sl v d b) (e : Same F F') (h : b = false ∨ sl' = sl) : VRep K F' σ sl' v d b := by
  cases b with
  | false => exact Rep.same e r
  | true =>
    rcases h with h | h
    · cases h
    · rw [h]
      rcases r with r | r
      · exact .inl (r.same e)
      · exact .inr r
theorem ko_al {c : Ctx} {F H F' H' : Hp} {O : List Addr} {σ : L2.St} {ρ : DS c.R} (S : St c F O σ ρ H) (a : Al F H F' H') : ∀ x ∈ O, H' x = H x := fun x h => a.at (S.out x h).2.2
section
variable {X : Cx} {c : Ctx} {a b : Expr} {pos : Pos} {pa pb ba bb : Bool} {wa wb : WE c.R}
theorem bin_ok {r : R2} {g : D → D → Option D} (hr : R2D c.K r g) (hs : ba = false ∨ pb = true) {σ : L2.St} {H : Hp} {Q : VK} (h : liftE c (pa && pb) false (wOp g wa wb) σ H Q) :
    liftE c pa ba wa σ H fun x H1 => liftE c pb bb wb σ H1 fun y H2 => r x y H2 Q := by
  obtain ⟨ρ, F, O, Kk, S, w, k⟩ := h
  refine ⟨ρ, F, O, _, S, w, fun x ρ1 v F1 H1 hk S1 fs1 ko1 g1 r1 => ⟨ρ1, F1, O, _, S1, hk, fun y ρ2 u F2 H2 ⟨z, hz, kz⟩ S2 fs2 ko2 g2 r2 => ?_⟩⟩
  have c1 : VRep c.K F2 σ ρ2.sl v x ba := r1.carry fs2 (hs.imp id fun e => by rw [(g2 e).1])
  refine hr S2.sub (c1.bv S2) (r2.bv S2) hz fun v' F' H' al rp => ?_
  refine k z ρ2 v' F' H' kz (S2.grow (al.grow S2.sub)) (fs1.trans (fs2.trans (al.fs S2.sub))) (fun q hq => by rw [ko_al S2 al q hq, ko2 q hq, ko1 q hq]) (fun e => ?_) rp
  rw [Bool.and_eq_true] at e
  obtain ⟨e1, q1⟩ := g1 e.1
  obtain ⟨e2, q2⟩ := g2 e.2
  exact ⟨e2.trans e1, q1.trans (q2.trans (al.grow S2.sub))⟩
theorem de_op {op : Operator} {r : R2} {g : D → D → Option D} (ho : OpR X (binaryOp op) r) (hr : R2D c.K r g) (ha : DE X c pa ba a wa) (hb : DE X c pb bb b wb) (hs : ba = false ∨ pb = true := by first | exact .inl rfl | exact .inr rfl) :
    DE X c (pa && pb) false (.BinOp a op b pos) (wOp g wa wb) := ⟨(pe_op ho ha.pe hb.pe).imp fun σ H Q h => bin_ok hr hs h, ha.kk⟩
theorem de_cmp {op : CmpOp} {r : R2} {g : D → D → Option D} (ho : OpR X (compareOp op) r) (hr : R2D c.K r g) (ha : DE X c pa ba a wa) (hb : DE X c pb bb b wb) (hm : behindInMarks op b = false)
    (hs : ba = false ∨ pb = true := by first | exact .inl rfl | exact .inr rfl) : DE X c (pa && pb) false (.Compare a [op] [b] pos) (wOp g wa wb) := ⟨(pe_cmpR ho ha.pe hb.pe hm).imp fun σ H Q h => bin_ok hr hs h, ha.kk⟩
theorem de_ix {r : R2} {g : D → D → Option D} (ho : IxR X r) (hr : R2D c.K r g) (ha : DE X c pa ba a wa) (hb : DE X c pb bb b wb) (hx : PlainIx b) (hs : ba = false ∨ pb = true := by first | exact .inl rfl | exact .inr rfl) :
    DE X c (pa && pb) false (.Subscript a b pos) (wOp g wa wb) := ⟨(pe_ix ho ha.pe hb.pe hx).imp fun σ H Q h => bin_ok hr hs h, ha.kk⟩
/-- a truth as a test -/
theorem test_ok {σ : L2.St} {H : Hp} {Q : Bool → Hp → Prop} (h : liftT c pa (wTest wa) σ H Q) : liftE c pa ba wa σ H fun x H1 => ∃ k, x = .bl k ∧ Q k H1 := by
  obtain ⟨ρ, F, O, Kk, S, w, k⟩ := h
  exact ⟨ρ, F, O, _, S, w, fun x ρ1 v F1 H1 ⟨z, e, hk⟩ S1 fs1 ko1 g1 r1 => ⟨z, by subst e; exact (r1.bv S1).bl, k z ρ1 F1 H1 hk S1 fs1 ko1 g1⟩⟩
theorem dt_val {e : Expr} (h : DE X c pa ba e wa) (he : ∀ whole, isTrue e X.env whole = (do let v ← whole; standAt e.pos; holding [v] (truthy v)) := by intro _; rfl) : DT X c pa e (wTest wa) :=
  ⟨(pt_val h.pe he).imp fun σ H Q h => test_ok h⟩
theorem dt_cmp {op : CmpOp} {r : R2} {g : D → D → Option D} (ho : OpR X (compareOp op) r) (hr : R2D c.K r g) (ha : DE X c pa ba a wa) (hb : DE X c pb bb b wb) (hm : behindInMarks op b = false)
    (hs : ba = false ∨ pb = true := by first | exact .inl rfl | exact .inr rfl) : DT X c (pa && pb) (.Compare a [op] [b] pos) (wTest (wOp g wa wb)) :=
  ⟨(pt_cmpR ho ha.pe hb.pe hm).imp fun σ H Q h => bin_ok (pa := pa) (ba := ba) (bb := bb) hr hs (test_ok (ba := false) h)⟩
/-- by truth -/
def truD : D → Option Bool
  | .non => some false
  | .bl b => some b
  | .int i => some (i != 0)
  | .str x => if x.length ≤ sizeLine then some ((x.length : Int) != 0) else none
  | .lst ds => some (!ds.isEmpty)
  | .tup ds => some (!ds.isEmpty)
  | _ => none
def wTruth {R : Rgn} (wa : WE R) : WB R := fun ρ K => wa ρ fun x ρ1 => ∃ b, truD x = some b ∧ K b ρ1
theorem Reps.isEmpty {K : PySem.W.Frag} {F : Hp} {vs : List V} {ds : List D} (h : Reps K F vs ds) : vs.isEmpty = ds.isEmpty := by cases h <;> rfl
theorem BV.tru {K : PySem.W.Frag} {F H : Hp} {v : V} {d : D} {k : Bool} (h : BV K F H v d) (s : Same F H) (e : truD d = some k) : TruV K v H k := by
  cases d with
  | non => cases e; rw [h.non]; rfl
  | bl b => cases e; rw [h.bl]; rfl
  | int i => cases e; rw [h.int]; rfl
  | str x =>
    have e : (if x.length ≤ sizeLine then some ((x.length : Int) != 0) else none) = some k := e
    by_cases hz : x.length ≤ sizeLine
    · rw [if_pos hz] at e; cases e; rw [h.str]; exact ⟨hz, rfl⟩
    · rw [if_neg hz] at e; cases e
  | lst ds => cases e; obtain ⟨a, vs, rfl, h1, h2⟩ := h.lst s; exact .inl ⟨vs, SqL.of h1, by rw [h2.isEmpty]⟩
  | tup ds => cases e; obtain ⟨a, vs, rfl, h1, h2⟩ := h.tup s; exact .inr (.inl ⟨vs, h1, by rw [h2.isEmpty]⟩)
  | dct _ _ => cases e
  | dtt _ _ => cases e
  | ins _ _ _ => cases e
  | raw _ => cases e
theorem dt_truth {e : Expr} (h : DE X c pa ba e wa) (he : ∀ whole, isTrue e X.env whole = (do let v ← whole; standAt e.pos; holding [v] (truthy v)) := by intro _; rfl) : DT X c pa e (wTruth wa) :=
  ⟨(pt_truth h.pe he).imp fun σ H Q ⟨ρ, F, O, Kk, S, w, k⟩ => ⟨ρ, F, O, _, S, w, fun x ρ1 v F1 H1 ⟨z, e, hk⟩ S1 fs1 ko1 g1 r1 => ⟨z, by rw [h.kk]; exact (r1.bv S1).tru S1.sub e, k z ρ1 F1 H1 hk S1 fs1 ko1 g1⟩⟩⟩
/-! ### and, or, not, if -/
def wBand {R : Rgn} (wa wb : WB R) : WB R := fun ρ K => wa ρ fun x ρ1 => if x = true then wb ρ1 K else K false ρ1
def wBor {R : Rgn} (wa wb : WB R) : WB R := fun ρ K => wa ρ fun x ρ1 => if x = true then K true ρ1 else wb ρ1 K
def wBnot {R : Rgn} (wa : WB R) : WB R := fun ρ K => wa ρ fun x ρ1 => K (!x) ρ1
/-- a chain of and, or -/
structure DW (X : Cx) (c : Ctx) (pu : Bool) (e : Expr) (w : WB c.R) : Prop where
  pw : PW X e (liftT c pu w)
theorem DW.dt {e : Expr} {w : WB c.R} (h : DW X c pa e w) : DT X c pa e w := ⟨PW.pt h.pw⟩
theorem two_ok {wa wb : WB c.R} {wr : WB c.R} {f : TT → TT → TT} {σ : L2.St} {H : Hp} {Q : Bool → Hp → Prop} (h : liftT c (pa && pb) wr σ H Q)
    (hf : f = tAnd ∧ wr = wBand wa wb ∨ f = tOr ∧ wr = wBor wa wb) : f (liftT c pa wa) (liftT c pb wb) σ H Q := by
  obtain ⟨ρ, F, O, Kk, S, w, k⟩ := h
  rcases hf with ⟨rfl, rfl⟩ | ⟨rfl, rfl⟩
  · refine ⟨ρ, F, O, _, S, w, fun x ρ1 F1 H1 hk S1 fs1 ko1 g1 => ?_⟩
    cases x with
    | true =>
      rw [if_pos rfl] at hk ⊢
      refine ⟨ρ1, F1, O, _, S1, hk, fun y ρ2 F2 H2 hk2 S2 fs2 ko2 g2 => k y ρ2 F2 H2 hk2 S2 (fs1.trans fs2) (fun q hq => by rw [ko2 q hq, ko1 q hq]) fun e => ?_⟩
      rw [Bool.and_eq_true] at e
      obtain ⟨e1, q1⟩ := g1 e.1
      obtain ⟨e2, q2⟩ := g2 e.2
      exact ⟨e2.trans e1, q1.trans q2⟩
    | false =>
      rw [if_neg (by decide)] at hk ⊢
      exact k false ρ1 F1 H1 hk S1 fs1 ko1 fun e => g1 (by rw [Bool.and_eq_true] at e; exact e.1)
  · refine ⟨ρ, F, O, _, S, w, fun x ρ1 F1 H1 hk S1 fs1 ko1 g1 => ?_⟩
    cases x with
    | false =>
      rw [if_neg (by decide)] at hk ⊢
      refine ⟨ρ1, F1, O, _, S1, hk, fun y ρ2 F2 H2 hk2 S2 fs2 ko2 g2 => k y ρ2 F2 H2 hk2 S2 (fs1.trans fs2) (fun q hq => by rw [ko2 q hq, ko1 q hq]) fun e => ?_⟩
      rw [Bool.and_eq_true] at e
      obtain ⟨e1, q1⟩ := g1 e.1
      obtain ⟨e2, q2⟩ := g2 e.2
      exact ⟨e2.trans e1, q1.trans q2⟩
    | true =>
      rw [if_pos rfl] at hk ⊢
      exact k true ρ1 F1 H1 hk S1 fs1 ko1 fun e => g1 (by rw [Bool.and_eq_true] at e; exact e.1)
section
variable {ta tb : WB c.R} {rest : List Expr}
theorem dw_and1 (ha : DT X c pa a ta) : DW X c pa (.BoolOp .And [a] pos) ta := ⟨pw_and1 ha.pt⟩
theorem dw_or1 (ha : DT X c pa a ta) : DW X c pa (.BoolOp .Or [a] pos) ta := ⟨pw_or1 ha.pt⟩
theorem dw_and (ha : DT X c pa a ta) (hb : DW X c pb (.BoolOp .And (b :: rest) pos) tb) : DW X c (pa && pb) (.BoolOp .And (a :: b :: rest) pos) (wBand ta tb) :=
  ⟨(pw_and ha.pt hb.pw).imp fun σ H Q h => two_ok (f := tAnd) h (.inl ⟨rfl, rfl⟩)⟩
theorem dw_or (ha : DT X c pa a ta) (hb : DW X c pb (.BoolOp .Or (b :: rest) pos) tb) : DW X c (pa && pb) (.BoolOp .Or (a :: b :: rest) pos) (wBor ta tb) :=
  ⟨(pw_or ha.pt hb.pw).imp fun σ H Q h => two_ok (f := tOr) h (.inr ⟨rfl, rfl⟩)⟩
theorem dt_not (ha : DT X c pa a ta) : DT X c pa (.UnaryOp .Not a pos) (wBnot ta) :=
  ⟨(pt_not ha.pt).imp fun σ H Q ⟨ρ, F, O, Kk, S, w, k⟩ => ⟨ρ, F, O, _, S, w, fun x ρ1 F1 H1 hk S1 fs1 ko1 g1 => k (!x) ρ1 F1 H1 hk S1 fs1 ko1 g1⟩⟩
end
/-- .. as values: truths -/
def wAndV {R : Rgn} (wa wb : WE R) : WE R := fun ρ K => wa ρ fun x ρ1 => ∃ b, x = .bl b ∧ if b = true then wb ρ1 K else K (.bl false) ρ1
def wOrV {R : Rgn} (wa wb : WE R) : WE R := fun ρ K => wa ρ fun x ρ1 => ∃ b, x = .bl b ∧ if b = true then K (.bl true) ρ1 else wb ρ1 K
def wNotV {R : Rgn} (wa : WE R) : WE R := fun ρ K => wa ρ fun x ρ1 => ∃ b, x = .bl b ∧ K (.bl (!b)) ρ1
section
variable {rest : List Expr} {op : BoolOp}
theorem de_one (ha : DE X c pa ba a wa) : DE X c pa ba (.BoolOp op [a] pos) wa := ⟨pe_one ha.pe, ha.kk⟩
theorem de_and (ha : DE X c pa ba a wa) (hb : DE X c pb bb (.BoolOp .And (b :: rest) pos) wb) : DE X c (pa && pb) bb (.BoolOp .And (a :: b :: rest) pos) (wAndV wa wb) :=
  ⟨(pe_and ha.pe hb.pe).imp fun σ H Q ⟨ρ, F, O, Kk, S, w, k⟩ => by
    refine ⟨ρ, F, O, _, S, w, fun x ρ1 v F1 H1 ⟨z, e, hk⟩ S1 fs1 ko1 g1 r1 => ⟨z, by subst e; exact (r1.bv S1).bl, ?_⟩⟩
    cases z with
    | true =>
      rw [if_pos rfl] at hk ⊢
      refine ⟨ρ1, F1, O, _, S1, hk, fun y ρ2 v2 F2 H2 hk2 S2 fs2 ko2 g2 r2 => k y ρ2 v2 F2 H2 hk2 S2 (fs1.trans fs2) (fun q hq => by rw [ko2 q hq, ko1 q hq]) (fun e => ?_) r2⟩
      rw [Bool.and_eq_true] at e
      obtain ⟨e1, q1⟩ := g1 e.1
      obtain ⟨e2, q2⟩ := g2 e.2
      exact ⟨e2.trans e1, q1.trans q2⟩
    | false =>
      rw [if_neg (by decide)] at hk ⊢
      exact k (.bl false) ρ1 _ F1 H1 hk S1 fs1 ko1 (fun e => g1 (by rw [Bool.and_eq_true] at e; exact e.1)) (VRep.up (ρ := ρ1) (.bl false)), ha.kk⟩
theorem de_or (ha : DE X c pa ba a wa) (hb : DE X c pb bb (.BoolOp .Or (b :: rest) pos) wb) : DE X c (pa && pb) bb (.BoolOp .Or (a :: b :: rest) pos) (wOrV wa wb) :=
  ⟨(pe_or ha.pe hb.pe).imp fun σ H Q ⟨ρ, F, O, Kk, S, w, k⟩ => by
    refine ⟨ρ, F, O, _, S, w, fun x ρ1 v F1 H1 ⟨z, e, hk⟩ S1 fs1 ko1 g1 r1 => ⟨z, by subst e; exact (r1.bv S1).bl, ?_⟩⟩
    cases z with
    | false =>
      rw [if_neg (by decide)] at hk ⊢
      refine ⟨ρ1, F1, O, _, S1, hk, fun y ρ2 v2 F2 H2 hk2 S2 fs2 ko2 g2 r2 => k y ρ2 v2 F2 H2 hk2 S2 (fs1.trans fs2) (fun q hq => by rw [ko2 q hq, ko1 q hq]) (fun e => ?_) r2⟩
      rw [Bool.and_eq_true] at e
      obtain ⟨e1, q1⟩ := g1 e.1
      obtain ⟨e2, q2⟩ := g2 e.2
      exact ⟨e2.trans e1, q1.trans q2⟩
    | true =>
      rw [if_pos rfl] at hk ⊢
      exact k (.bl true) ρ1 _ F1 H1 hk S1 fs1 ko1 (fun e => g1 (by rw [Bool.and_eq_true] at e; exact e.1)) (VRep.up (ρ := ρ1) (.bl true)), ha.kk⟩
theorem de_not (ha : DE X c pa ba a wa) : DE X c pa false (.UnaryOp .Not a pos) (wNotV wa) :=
  ⟨(pe_not ha.pe).imp fun σ H Q ⟨ρ, F, O, Kk, S, w, k⟩ => ⟨ρ, F, O, _, S, w, fun x ρ1 v F1 H1 ⟨z, e, hk⟩ S1 fs1 ko1 g1 r1 => ⟨z, by subst e; exact (r1.bv S1).bl, k _ ρ1 _ F1 H1 hk S1 fs1 ko1 g1 (.bl _)⟩⟩, ha.kk⟩
def wIfE {R : Rgn} (wt : WB R) (wa wb : WE R) : WE R := fun ρ K => wt ρ fun x ρ1 => if x = true then wa ρ1 K else wb ρ1 K
theorem de_if {t : Expr} {pt : Bool} {wt : WB c.R} (ht : DT X c pt t wt) (ha : DE X c pa ba a wa) (hb : DE X c pb ba b wb) : DE X c (pt && (pa && pb)) ba (.IfExp t a b pos) (wIfE wt wa wb) :=
  ⟨(pe_ifExp ht.pt ha.pe hb.pe).imp fun σ H Q ⟨ρ, F, O, Kk, S, w, k⟩ => by
    refine ⟨ρ, F, O, _, S, w, fun x ρ1 F1 H1 hk S1 fs1 ko1 g1 => ?_⟩
    cases x with
    | true =>
      rw [if_pos rfl] at hk ⊢
      refine ⟨ρ1, F1, O, _, S1, hk, fun y ρ2 v2 F2 H2 hk2 S2 fs2 ko2 g2 r2 => k y ρ2 v2 F2 H2 hk2 S2 (fs1.trans fs2) (fun q hq => by rw [ko2 q hq, ko1 q hq]) (fun e => ?_) r2⟩
      rw [Bool.and_eq_true, Bool.and_eq_true] at e
      obtain ⟨e1, q1⟩ := g1 e.1
      obtain ⟨e2, q2⟩ := g2 e.2.1
      exact ⟨e2.trans e1, q1.trans q2⟩
    | false =>
      rw [if_neg (by decide)] at hk ⊢
      refine ⟨ρ1, F1, O, _, S1, hk, fun y ρ2 v2 F2 H2 hk2 S2 fs2 ko2 g2 r2 => k y ρ2 v2 F2 H2 hk2 S2 (fs1.trans fs2) (fun q hq => by rw [ko2 q hq, ko1 q hq]) (fun e => ?_) r2⟩
      rw [Bool.and_eq_true, Bool.and_eq_true] at e
      obtain ⟨e1, q1⟩ := g1 e.1
      obtain ⟨e2, q2⟩ := g2 e.2.2
      exact ⟨e2.trans e1, q1.trans q2⟩, ha.kk⟩
end
end
end Q

set_option Elab.async false
set_option linter.all false
set_option maxRecDepth 100000
set_option maxHeartbeats 4000000
namespace Q
open PySem PySem.Spec PyProof.Rows L2
theorem big_line : 100000 ≤ sizeLine := by rw [sizeLine_eq]; decide
section
variable {X : Cx} {c : Ctx} {e : Expr} {es : List Expr} {pos p : Pos} {pa pb ba bb : Bool} {we : WE c.R} {wa : WA c.R}
/-! ### arguments, displays -/
def wNil {R : Rgn} : WA R := fun ρ K => K [] ρ
def wCons {R : Rgn} (we : WE R) (wa : WA R) : WA R := fun ρ K => we ρ fun x ρ1 => wa ρ1 fun xs ρ2 => K (x :: xs) ρ2
theorem da_nil : DA X c true [] wNil := ⟨pa_nil.imp fun σ H Q ⟨ρ, F, O, Kk, S, w, k⟩ => k [] ρ [] F H w S (Same.refl _) (fun _ _ => rfl) (fun _ => ⟨rfl, Grow.refl S.sub⟩) .nil⟩
theorem da_cons (he : DE X c pa false e we) (ha : DA X c pb es wa) (hs : starEach (e :: es) X.env = (false, eval e X.env) :: starEach es X.env := by rfl) : DA X c (pa && pb) (e :: es) (wCons we wa) :=
  ⟨(pa_cons he.pe ha.pa hs).imp fun σ H Q ⟨ρ, F, O, Kk, S, w, k⟩ => ⟨ρ, F, O, _, S, w, fun x ρ1 v F1 H1 hk S1 fs1 ko1 g1 r1 => ⟨ρ1, F1, O, _, S1, hk, fun xs ρ2 vs F2 H2 hk2 S2 fs2 ko2 g2 r2 =>
    k _ ρ2 _ F2 H2 hk2 S2 (fs1.trans fs2) (fun q hq => by rw [ko2 q hq, ko1 q hq]) (fun e => by
      rw [Bool.and_eq_true] at e
      obtain ⟨e1, q1⟩ := g1 e.1
      obtain ⟨e2, q2⟩ := g2 e.2
      exact ⟨e2.trans e1, q1.trans q2⟩) (.cons (Rep.same fs2 r1) r2)⟩⟩⟩
def wTup {R : Rgn} (wa : WA R) : WE R := fun ρ K => wa ρ fun ds ρ1 => ds.length ≤ 100000 ∧ K (.tup ds) ρ1
def wLst {R : Rgn} (wa : WA R) : WE R := fun ρ K => wa ρ fun ds ρ1 => ds.length ≤ 100000 ∧ K (.lst ds) ρ1
theorem ko_upd {F H : Hp} {O : List Addr} {σ : L2.St} {ρ : DS c.R} {q : Addr} {o : HO} (S : St c F O σ ρ H) (h : H q = none) : ∀ x ∈ O, upd H q o x = H x := fun x hx => by
  rw [upd_ne]
  intro z
  subst z
  exact (S.out x hx).2.2 h
theorem de_tup {ctx} (ha : DA X c pa es wa) (hk : X.K = c.K := by rfl) : DE X c pa false (.Tuple es ctx pos) (wTup wa) :=
  ⟨(pe_tup ha.pa).imp fun σ H Q ⟨ρ, F, O, Kk, S, w, k⟩ => ⟨ρ, F, O, _, S, w, fun ds ρ1 vs F1 H1 ⟨hz, hk⟩ S1 fs1 ko1 g1 r1 => ⟨by rw [r1.length]; exact Nat.le_trans hz big_line, fun q hq => by
    have al : Al F1 H1 (upd F1 q (.tup vs)) (upd H1 q (.tup vs)) := Al.one hq
    have gr := al.grow S1.sub
    exact k _ ρ1 _ _ _ hk (S1.grow gr) (fs1.trans gr.fs) (fun x hx => by rw [ko_upd S1 hq x hx]; exact ko1 x hx) (fun e => ⟨(g1 e).1, (g1 e).2.trans gr⟩) (.tup (SqT.of upd_same) (r1.same gr.fs))⟩⟩, hk⟩
theorem fe_lst (ha : DA X c pa es wa) (hk : X.K = c.K := by rfl) : FE X c pa (.List es pos) (wLst wa) :=
  ⟨(pe_lst ha.pa).imp fun σ H Q ⟨ρ, F, O, Kk, S, w, k⟩ => ⟨ρ, F, O, _, S, w, fun ds ρ1 vs F1 H1 ⟨hz, hk⟩ S1 fs1 ko1 g1 r1 => ⟨by rw [r1.length]; exact Nat.le_trans hz big_line, fun q hq =>
    k _ ρ1 q (.lst vs) F1 H1 hk S1 fs1 ko1 g1 hq r1⟩⟩, hk⟩
/-! ### built-ins of one argument -/
theorem c1_ok {r : List V → Hp → VK → Prop} {g : D → Option D} (hr : R1D c.K r g) {σ : L2.St} {H : Hp} {Q : VK} (h : liftE c pa false (wUn g we) σ H Q) :
    tCB r (tCons (liftE c pa ba we) tNil) σ H Q := by
  obtain ⟨ρ, F, O, Kk, S, w, k⟩ := h
  refine ⟨ρ, F, O, _, S, w, fun x ρ1 v F1 H1 ⟨z, hz, hk⟩ S1 fs1 ko1 g1 r1 => ?_⟩
  exact hr S1.sub (r1.bv S1) hz fun v' F' H' al rp => k z ρ1 v' F' H' hk (S1.grow (al.grow S1.sub)) (fs1.trans (al.fs S1.sub)) (fun q hq => by rw [ko_al S1 al q hq]; exact ko1 q hq)
    (fun e => ⟨(g1 e).1, (g1 e).2.trans (al.grow S1.sub)⟩) rp
theorem de_c1 {x : Str} {id : String} {r : List V → Hp → VK → Prop} {g : D → Option D} (hc : CallR X (.builtin id) r) (hr : R1D c.K r g) (hm : X.mg x = none) (ha : DE X c pa ba e we) (hg : Gl X x := by rfl) (hv : bootBuiltins x = some (.builtin id) := by decide +kernel)
    (hn : x ≠ "__name__" := by decide) (hdb : (x == ("__debug__" : Str)) = false := by decide)
    (he : starEach [e] X.env = (false, eval e X.env) :: starEach [] X.env := by rfl) (hpl : (backTo pos (starEach [] X.env)).any (·.1) = false := by rfl) : DE X c pa false (.Call (.Name x p) [e] [] pos) (wUn g we) :=
  ⟨(pe_callB hc hg hm hv (pa_cons ha.pe pa_nil he) hn hdb he hpl).imp fun σ H Q h => c1_ok hr h, ha.kk⟩
theorem de_t1 {x : Str} {id : String} {r : List V → Hp → VK → Prop} {g : D → Option D} (hc : CallR X (.type id) r) (hr : R1D c.K r g) (hm : X.mg x = none) (ha : DE X c pa ba e we) (hg : Gl X x := by rfl) (hv : bootBuiltins x = some (.type id) := by decide +kernel)
    (hn : x ≠ "__name__" := by decide) (hdb : (x == ("__debug__" : Str)) = false := by decide)
    (he : starEach [e] X.env = (false, eval e X.env) :: starEach [] X.env := by rfl) (hpl : (backTo pos (starEach [] X.env)).any (·.1) = false := by rfl) : DE X c pa false (.Call (.Name x p) [e] [] pos) (wUn g we) :=
  ⟨(pe_callTy hc hg hm hv (pa_cons ha.pe pa_nil he) hn hdb he hpl).imp fun σ H Q h => c1_ok hr h, ha.kk⟩
/-- .. that hand back a fresh list or dict -/
def R1F (K : PySem.W.Frag) (r : List V → Hp → VK → Prop) (g : D → Option D) : Prop := ∀ {F H : Hp} {v : V} {x z : D} {Q : VK}, Same F H → BV K F H v x → g x = some z →
  (∀ q o, H q = none → ObjD K F o z → Q (.ref q) (upd H q o)) → r [v] H Q
theorem f1_ok {r : List V → Hp → VK → Prop} {g : D → Option D} (hr : R1F c.K r g) {σ : L2.St} {H : Hp} {Q : VK} (h : liftF c pa (wUn g we) σ H Q) :
    tCB r (tCons (liftE c pa ba we) tNil) σ H Q := by
  obtain ⟨ρ, F, O, Kk, S, w, k⟩ := h
  refine ⟨ρ, F, O, _, S, w, fun x ρ1 v F1 H1 ⟨z, hz, hk⟩ S1 fs1 ko1 g1 r1 => ?_⟩
  exact hr S1.sub (r1.bv S1) hz fun q o hq ob => k z ρ1 q o F1 H1 hk S1 fs1 ko1 g1 hq ob
theorem fe_t1 {x : Str} {id : String} {r : List V → Hp → VK → Prop} {g : D → Option D} (hc : CallR X (.type id) r) (hr : R1F c.K r g) (hm : X.mg x = none) (ha : DE X c pa ba e we) (hg : Gl X x := by rfl) (hv : bootBuiltins x = some (.type id) := by decide +kernel)
    (hn : x ≠ "__name__" := by decide) (hdb : (x == ("__debug__" : Str)) = false := by decide)
    (he : starEach [e] X.env = (false, eval e X.env) :: starEach [] X.env := by rfl) (hpl : (backTo pos (starEach [] X.env)).any (·.1) = false := by rfl) : FE X c pa (.Call (.Name x p) [e] [] pos) (wUn g we) :=
  ⟨(pe_callTy hc hg hm hv (pa_cons ha.pe pa_nil he) hn hdb he hpl).imp fun σ H Q h => f1_ok hr h, ha.kk⟩
theorem fe_c1 {x : Str} {id : String} {r : List V → Hp → VK → Prop} {g : D → Option D} (hc : CallR X (.builtin id) r) (hr : R1F c.K r g) (hm : X.mg x = none) (ha : DE X c pa ba e we) (hg : Gl X x := by rfl) (hv : bootBuiltins x = some (.builtin id) := by decide +kernel)
    (hn : x ≠ "__name__" := by decide) (hdb : (x == ("__debug__" : Str)) = false := by decide)
    (he : starEach [e] X.env = (false, eval e X.env) :: starEach [] X.env := by rfl) (hpl : (backTo pos (starEach [] X.env)).any (·.1) = false := by rfl) : FE X c pa (.Call (.Name x p) [e] [] pos) (wUn g we) :=
  ⟨(pe_callB hc hg hm hv (pa_cons ha.pe pa_nil he) hn hdb he hpl).imp fun σ H Q h => f1_ok hr h, ha.kk⟩
end
/-! ### promises of defs -/
/-- a def of the text, called by its name -/
structure Cal (P : Program) (w : World) (K : PySem.W.Frag) (mg : Str → Option Value) (base : Heap) (x : Str) (k : Nat) (ps : List Str) (sp : Sp) : Prop where
  ex : ∃ (f : Addr) (fd : FuncData), mg x = some (.ref f) ∧ PySem.W.keepIn K (.ref f) = true ∧ FnOk P w K mg base CX0 k f fd ps sp ∧ Binds K fd ps []
abbrev FnP (K : PySem.W.Frag) (x q : Str) (st : Stmt) (f : Addr) (fd : FuncData) : Prop := FunD K x q (defArgs st) (defBody st) (defScope st) [] [] f fd
abbrev WM := List D → (D → Prop) → Prop
abbrev WMR (R : Rgn) := List D → R.G → (D → R.G → Prop) → Prop
/-- it takes data, hands back data, changes nothing -/
def spD (K : PySem.W.Frag) (m : WM) : Sp := fun vs H Q _ => ∃ (ds : List D) (F : Hp) (Kk : D → Prop), Same F H ∧ Reps K F vs ds ∧ m ds Kk ∧ ∀ d v F' H', Kk d → Grow F H F' H' → Rep K F' v d → Q v H'
/-- .. a fresh list or dict -/
def spF (K : PySem.W.Frag) (m : WM) : Sp := fun vs H Q _ => ∃ (ds : List D) (F : Hp) (Kk : D → Prop), Same F H ∧ Reps K F vs ds ∧ m ds Kk ∧ ∀ d q o F' H', Kk d → Grow F H F' H' → H' q = none → ObjD K F' o d → Q (.ref q) (upd H' q o)
structure GrowR (R : Rgn) (g : R.G) (F H : Hp) (Z : Addr → Prop) (g' : R.G) (F' H' : Hp) (Z' : Addr → Prop) : Prop where
  fs : Same F F'
  sub : Same F' H'
  old : ∀ b, F' b ≠ none → F b ≠ none ∨ H b = none
  keep : ∀ b o, H b = some o → ¬ Z b → H' b = some o
  live : ∀ b, H b ≠ none → H' b ≠ none
  ok : R.ok g' Z' H'
  zf : ∀ b, Z' b → F' b = none
  zi : ∀ b, Z' b → Z b ∨ H b = none
/-- .. and uses a region -/
def spR (R : Rgn) (K : PySem.W.Frag) (m : WMR R) : Sp := fun vs H Q _ => ∃ (ds : List D) (F : Hp) (Z : Addr → Prop) (g : R.G) (Kk : D → R.G → Prop), Same F H ∧ Reps K F vs ds ∧ R.ok g Z H ∧ (∀ b, Z b → F b = none) ∧ m ds g Kk ∧
  ∀ d g' v F' Z' H', Kk d g' → GrowR R g F H Z g' F' H' Z' → Rep K F' v d → Q v H'
def spRF (R : Rgn) (K : PySem.W.Frag) (m : WMR R) : Sp := fun vs H Q _ => ∃ (ds : List D) (F : Hp) (Z : Addr → Prop) (g : R.G) (Kk : D → R.G → Prop), Same F H ∧ Reps K F vs ds ∧ R.ok g Z H ∧ (∀ b, Z b → F b = none) ∧ m ds g Kk ∧
  ∀ d g' q o F' Z' H', Kk d g' → GrowR R g F H Z g' F' H' Z' → H' q = none → ObjD K F' o d → Q (.ref q) (upd H' q o)
section
variable {X : Cx} {c : Ctx} {x : Str} {k j : Nat} {ps : List Str} {p pos : Pos} {e : Expr} {es : List Expr} {pa : Bool} {wa : WA c.R}
theorem pe_cal {sp : Sp} {t : TA} (C : Cal X.prog X.w X.K X.mg X.base x k ps sp) (hr : Room j X.A) (ha : PA X (e :: es) t) (hj : k ≤ j := by decide) (hg : Gl X x := by rfl) (hdb : (x == ("__debug__" : Str)) = false := by decide)
    (he : starEach (e :: es) X.env = (false, eval e X.env) :: starEach es X.env := by rfl) (hpl : (backTo pos (starEach es X.env)).any (·.1) = false := by rfl) : PE X (.Call (.Name x p) (e :: es) [] pos) (tCall sp [] E0 t) := by
  obtain ⟨f, fd, hm, hk, F, hb⟩ := C.ex
  exact pe_call F (hr.mono hj) hg hm hk hb .nil pass0 ha hdb he hpl
def wCall {R : Rgn} (m : WM) (wa : WA R) : WE R := fun ρ K => wa ρ fun ds ρ1 => m ds fun d => K d ρ1
def wCallR {R : Rgn} (m : WMR R) (wa : WA R) : WE R := fun ρ K => wa ρ fun ds ρ1 => m ds ρ1.g fun d g => K d ⟨g, ρ1.sl⟩
theorem app_nil (vs : List V) : vs ++ [] = vs := List.append_nil vs
theorem de_call {m : WM} (C : Cal X.prog X.w X.K X.mg X.base x k ps (spD c.K m)) (hr : Room j X.A) (ha : DA X c pa (e :: es) wa) (hj : k ≤ j := by decide) (hk : X.K = c.K := by rfl) (hg : Gl X x := by rfl) (hdb : (x == ("__debug__" : Str)) = false := by decide)
    (he : starEach (e :: es) X.env = (false, eval e X.env) :: starEach es X.env := by rfl) (hpl : (backTo pos (starEach es X.env)).any (·.1) = false := by rfl) : DE X c pa false (.Call (.Name x p) (e :: es) [] pos) (wCall m wa) :=
  ⟨(pe_cal C hr ha.pa hj hg hdb he hpl).imp fun σ H Q ⟨ρ, F, O, Kk, S, w, k⟩ => ⟨ρ, F, O, _, S, w, fun ds ρ1 vs F1 H1 hk S1 fs1 ko1 g1 r1 => ⟨ds, F1, _, S1.sub, by rw [app_nil]; exact r1, hk, fun d v F' H' hd gr rp =>
    k d ρ1 v F' H' hd (S1.grow gr) (fs1.trans gr.fs) (fun q hq => by rw [gr.at (S1.out q hq).2.2]; exact ko1 q hq) (fun e => ⟨(g1 e).1, (g1 e).2.trans gr⟩) rp⟩⟩, hk⟩
theorem fe_call {m : WM} (C : Cal X.prog X.w X.K X.mg X.base x k ps (spF c.K m)) (hr : Room j X.A) (ha : DA X c pa (e :: es) wa) (hj : k ≤ j := by decide) (hk : X.K = c.K := by rfl) (hg : Gl X x := by rfl) (hdb : (x == ("__debug__" : Str)) = false := by decide)
    (he : starEach (e :: es) X.env = (false, eval e X.env) :: starEach es X.env := by rfl) (hpl : (backTo pos (starEach es X.env)).any (·.1) = false := by rfl) : FE X c pa (.Call (.Name x p) (e :: es) [] pos) (wCall m wa) :=
  ⟨(pe_cal C hr ha.pa hj hg hdb he hpl).imp fun σ H Q ⟨ρ, F, O, Kk, S, w, k⟩ => ⟨ρ, F, O, _, S, w, fun ds ρ1 vs F1 H1 hk S1 fs1 ko1 g1 r1 => ⟨ds, F1, _, S1.sub, by rw [app_nil]; exact r1, hk, fun d q o F' H' hd gr hq ob =>
    k d ρ1 q o F' H' hd (S1.grow gr) (fs1.trans gr.fs) (fun q hq => by rw [gr.at (S1.out q hq).2.2]; exact ko1 q hq) (fun e => ⟨(g1 e).1, (g1 e).2.trans gr⟩) hq ob⟩⟩, hk⟩
theorem St.growR {F H F' H' : Hp} {O : List Addr} {σ : L2.St} {ρ : DS c.R} {Z Z' : Addr → Prop} {g' : c.R.G} (S : St c F O σ ρ H) (hz2 : ∀ b, Z b → ¬ c.Z0 b → c.H0 b = none) (hzO : ∀ a ∈ O, ¬ Z a) (hzo : ∀ i a, Owns σ ρ.sl i a → ¬ Z a)
    (g : GrowR c.R ρ.g F H Z g' F' H' Z') : St c F' O σ ⟨g', ρ.sl⟩ H' where
  len := S.len
  sub := g.sub
  old := S.old.trans g.fs
  new := fun b n e => by
    rcases g.old b n with q | q
    · exact S.new b q e
    · cases h : c.H0 b with
      | none => rfl
      | some o => exact absurd q (S.live b (by rw [h]; exact fun z => by cases z))
  keep := fun b o e n => g.keep _ _ (S.keep b o e n) fun z => by
    have := hz2 b z n
    rw [e] at this
    cases this
  live := fun b n => g.live b (S.live b n)
  slots := fun i => by
    show SlotOk c.K F' H' σ i ρ.sl[i]?
    have h := S.slots i
    cases e : ρ.sl[i]? with
    | none => trivial
    | some x =>
      rw [e] at h
      cases x with
      | none => trivial
      | some x =>
        cases x with
        | fz d =>
          obtain ⟨v, h1, h2⟩ := h
          exact ⟨v, h1, h2.same g.fs⟩
        | own d =>
          obtain ⟨a, h1, h2⟩ := h
          refine ⟨a, h1, h2.same g.fs ?_⟩
          cases q : H a with
          | none => exact absurd q h2.there
          | some o => exact g.keep _ _ q (hzo i a ⟨h1, d, e⟩)
  mine := fun i a h => by
    obtain ⟨m1, m2, m3⟩ := S.mine i a h
    refine ⟨?_, m2, m3⟩
    obtain ⟨d, _, q⟩ := h.there (S.slots i)
    cases e : F' a with
    | none => rfl
    | some o =>
      rcases g.old a (by rw [e]; exact fun z => by cases z) with z | z
      · exact absurd m1 z
      · exact absurd z q.there
  inj := S.inj
  out := fun a h => by
    obtain ⟨m1, m2, m3⟩ := S.out a h
    refine ⟨?_, m2, g.live a m3⟩
    cases e : F' a with
    | none => rfl
    | some o =>
      rcases g.old a (by rw [e]; exact fun z => by cases z) with z | z
      · exact absurd m1 z
      · exact absurd z m3
  reg := by
    refine ⟨Z', g.ok, g.zf, fun b h n => ?_, fun a h z => ?_, fun i a h z => ?_⟩
    · rcases g.zi b h with q | q
      · exact hz2 b q n
      · cases e : c.H0 b with
        | none => rfl
        | some o => exact absurd q (S.live b (by rw [e]; exact fun z => by cases z))
    · rcases g.zi a z with q | q
      · exact hzO a h q
      · exact absurd q (S.out a h).2.2
    · rcases g.zi a z with q | q
      · exact hzo i a h q
      · obtain ⟨d, _, ow⟩ := h.there (S.slots i)
        exact absurd q ow.there
theorem ko_R {F H F' H' : Hp} {O : List Addr} {σ : L2.St} {ρ : DS c.R} {Z Z' : Addr → Prop} {g' : c.R.G} (S : St c F O σ ρ H) (hzO : ∀ a ∈ O, ¬ Z a) (g : GrowR c.R ρ.g F H Z g' F' H' Z') : ∀ a ∈ O, H' a = H a := fun a h => by
  cases q : H a with
  | none => exact absurd q (S.out a h).2.2
  | some o => exact g.keep _ _ q (hzO a h)
theorem de_callR {m : WMR c.R} (C : Cal X.prog X.w X.K X.mg X.base x k ps (spR c.R c.K m)) (hr : Room j X.A) (ha : DA X c pa (e :: es) wa) (hj : k ≤ j := by decide) (hk : X.K = c.K := by rfl) (hg : Gl X x := by rfl) (hdb : (x == ("__debug__" : Str)) = false := by decide)
    (he : starEach (e :: es) X.env = (false, eval e X.env) :: starEach es X.env := by rfl) (hpl : (backTo pos (starEach es X.env)).any (·.1) = false := by rfl) : DE X c false false (.Call (.Name x p) (e :: es) [] pos) (wCallR m wa) :=
  ⟨(pe_cal C hr ha.pa hj hg hdb he hpl).imp fun σ H Q ⟨ρ, F, O, Kk, S, w, k⟩ => ⟨ρ, F, O, _, S, w, fun ds ρ1 vs F1 H1 hk S1 fs1 ko1 g1 r1 => by
    obtain ⟨Z, r, z1, z2, z3, z4⟩ := S1.reg
    exact ⟨ds, F1, Z, ρ1.g, _, S1.sub, by rw [app_nil]; exact r1, r, z1, hk, fun d g' v F' Z' H' hd gr rp =>
      k d ⟨g', ρ1.sl⟩ v F' H' hd (S1.growR z2 z3 z4 gr) (fs1.trans gr.fs) (fun q hq => by rw [ko_R S1 z3 gr q hq]; exact ko1 q hq) (fun z => by cases z) rp⟩⟩, hk⟩
theorem fe_callR {m : WMR c.R} (C : Cal X.prog X.w X.K X.mg X.base x k ps (spRF c.R c.K m)) (hr : Room j X.A) (ha : DA X c pa (e :: es) wa) (hj : k ≤ j := by decide) (hk : X.K = c.K := by rfl) (hg : Gl X x := by rfl) (hdb : (x == ("__debug__" : Str)) = false := by decide)
    (he : starEach (e :: es) X.env = (false, eval e X.env) :: starEach es X.env := by rfl) (hpl : (backTo pos (starEach es X.env)).any (·.1) = false := by rfl) : FE X c false (.Call (.Name x p) (e :: es) [] pos) (wCallR m wa) :=
  ⟨(pe_cal C hr ha.pa hj hg hdb he hpl).imp fun σ H Q ⟨ρ, F, O, Kk, S, w, k⟩ => ⟨ρ, F, O, _, S, w, fun ds ρ1 vs F1 H1 hk S1 fs1 ko1 g1 r1 => by
    obtain ⟨Z, r, z1, z2, z3, z4⟩ := S1.reg
    exact ⟨ds, F1, Z, ρ1.g, _, S1.sub, by rw [app_nil]; exact r1, r, z1, hk, fun d g' q o F' Z' H' hd gr hq ob =>
      k d ⟨g', ρ1.sl⟩ q o F' H' hd (S1.growR z2 z3 z4 gr) (fs1.trans gr.fs) (fun q hq => by rw [ko_R S1 z3 gr q hq]; exact ko1 q hq) (fun z => by cases z) hq ob⟩⟩, hk⟩
end
end Q

set_option Elab.async false
set_option linter.all false
set_option maxRecDepth 100000
set_option maxHeartbeats 4000000
namespace Q
open PySem PySem.Spec PyProof.Rows L2
/-! ### statements over data -/
/-- what is so of the heap at a body's end -/
structure Fin (c : Ctx) (F H : Hp) (g : c.R.G) : Prop where
  sub : Same F H
  old : Same c.F0 F
  new : ∀ b, F b ≠ none → c.F0 b = none → c.H0 b = none
  keep : ∀ b o, c.H0 b = some o → ¬ c.Z0 b → H b = some o
  live : ∀ b, c.H0 b ≠ none → H b ≠ none
  reg : ∃ Z, c.R.ok g Z H ∧ (∀ b, Z b → F b = none) ∧ (∀ b, Z b → ¬ c.Z0 b → c.H0 b = none)
theorem St.fin {c : Ctx} {F H : Hp} {O : List Addr} {σ : L2.St} {ρ : DS c.R} (S : St c F O σ ρ H) : Fin c F H ρ.g :=
  ⟨S.sub, S.old, S.new, S.keep, S.live, let ⟨Z, r, z1, z2, _⟩ := S.reg; ⟨Z, r, z1, z2⟩⟩
structure DEnds (R : Rgn) where
  nx : DS R → Prop
  rt : D → R.G → Prop
  bk : DS R → Prop := fun _ => False
  ct : DS R → Prop := fun _ => False
abbrev WS (R : Rgn) := DEnds R → DS R → Prop
/-- what is handed back: data; a fresh object -/
def RtOk (c : Ctx) (rt : VK) (d : D) (g : c.R.G) : Bool → Prop
  | false => ∀ v F' H', Fin c F' H' g → Rep c.K F' v d → rt v H'
  | true => ∀ q o F' H', Fin c F' H' g → H' q = none → ObjD c.K F' o d → rt (.ref q) (upd H' q o)
def liftS (c : Ctx) (fr : Bool) (w : WS c.R) : TS := fun E σ H => ∃ (ρ : DS c.R) (F : Hp) (Dk : DEnds c.R), St c F [] σ ρ H ∧ w Dk ρ ∧
  (∀ ρ' σ' F' H', Dk.nx ρ' → St c F' [] σ' ρ' H' → Same F F' → E.nx σ' H') ∧ (∀ ρ' σ' F' H', Dk.bk ρ' → St c F' [] σ' ρ' H' → Same F F' → E.bk σ' H') ∧ (∀ ρ' σ' F' H', Dk.ct ρ' → St c F' [] σ' ρ' H' → Same F F' → E.ct σ' H') ∧
  (∀ d g, Dk.rt d g → RtOk c E.rt d g fr)
structure DS1 (X : Cx) (c : Ctx) (fr : Bool) (st : Stmt) (w : WS c.R) : Prop where
  ps : PS X st (liftS c fr w)
structure DSs (X : Cx) (c : Ctx) (fr : Bool) (st : List Stmt) (w : WS c.R) : Prop where
  ps : PSs X st (liftS c fr w)
section
variable {X : Cx} {c : Ctx} {fr : Bool} {st : Stmt} {rest : List Stmt} {e : Expr} {es : List Expr} {pos p : Pos} {pa pb ba bb : Bool} {we : WE c.R} {wa : WA c.R} {wt : WB c.R} {w w1 w2 : WS c.R}
def sNext {R : Rgn} : WS R := fun D ρ => D.nx ρ
def sSeq {R : Rgn} (w1 w2 : WS R) : WS R := fun D ρ => w1 { D with nx := fun ρ' => w2 D ρ' } ρ
/-- cut off by what is so behind the first one -/
def sCut {R : Rgn} (w1 w2 : WS R) : WS R := fun D ρ => ∃ I : DS R → Prop, w1 { D with nx := I } ρ ∧ ∀ ρ', I ρ' → w2 D ρ'
theorem ds_nil : DSs X c fr [] sNext := ⟨pss_nil.imp fun E σ H ⟨ρ, F, Dk, S, w, k1, k2, k3, k4⟩ => k1 ρ σ F H w S (Same.refl _)⟩
theorem seq_ok {E : Ends} {σ : L2.St} {H : Hp} (h : liftS c fr (sCut w1 w2) E σ H) : tSeq (liftS c fr w1) (liftS c fr w2) E σ H := by
  obtain ⟨ρ, F, Dk, S, ⟨I, w, w'⟩, k1, k2, k3, k4⟩ := h
  exact ⟨ρ, F, { Dk with nx := I }, S, w, fun ρ' σ' F' H' h S' fs => ⟨ρ', F', Dk, S', w' ρ' h, fun ρ2 σ2 F2 H2 h2 S2 fs2 => k1 ρ2 σ2 F2 H2 h2 S2 (fs.trans fs2), fun ρ2 σ2 F2 H2 h2 S2 fs2 => k2 ρ2 σ2 F2 H2 h2 S2 (fs.trans fs2),
    fun ρ2 σ2 F2 H2 h2 S2 fs2 => k3 ρ2 σ2 F2 H2 h2 S2 (fs.trans fs2), k4⟩, k2, k3, k4⟩
theorem ds_cut (h1 : DS1 X c fr st w1) (h2 : DSs X c fr rest w2) : DSs X c fr (st :: rest) (sCut w1 w2) := ⟨(pss_cons h1.ps h2.ps).imp fun E σ H h => seq_ok h⟩
theorem ds_cons (h1 : DS1 X c fr st w1) (h2 : DSs X c fr rest w2) : DSs X c fr (st :: rest) (sSeq w1 w2) :=
  ⟨(pss_cons h1.ps h2.ps).imp fun E σ H ⟨ρ, F, Dk, S, w, k⟩ => seq_ok ⟨ρ, F, Dk, S, ⟨_, w, fun _ h => h⟩, k⟩⟩
theorem ds_one (h1 : DS1 X c fr st w1) : DSs X c fr [st] w1 := ⟨pss_one h1.ps⟩
def sPass {R : Rgn} : WS R := fun D ρ => D.nx ρ
def sBreak {R : Rgn} : WS R := fun D ρ => D.bk ρ
def sCont {R : Rgn} : WS R := fun D ρ => D.ct ρ
theorem ds_pass : DS1 X c fr (.Pass pos) sPass := ⟨ps_pass.imp fun E σ H ⟨ρ, F, Dk, S, w, k1, k2, k3, k4⟩ => k1 ρ σ F H w S (Same.refl _)⟩
theorem ds_break : DS1 X c fr (.Break pos) sBreak := ⟨ps_break.imp fun E σ H ⟨ρ, F, Dk, S, w, k1, k2, k3, k4⟩ => k2 ρ σ F H w S (Same.refl _)⟩
theorem ds_continue : DS1 X c fr (.Continue pos) sCont := ⟨ps_continue.imp fun E σ H ⟨ρ, F, Dk, S, w, k1, k2, k3, k4⟩ => k3 ρ σ F H w S (Same.refl _)⟩
theorem ds_doc {x : Str} {j} {pos' : Pos} : DS1 X c fr (.Expr (.Constant (.str x) j pos') pos) sPass := ⟨(ps_expr pe_str).imp fun E σ H ⟨ρ, F, Dk, S, w, k1, k2, k3, k4⟩ => k1 ρ σ F H w S (Same.refl _)⟩
def sRet {R : Rgn} (we : WE R) : WS R := fun D ρ => we ρ fun d ρ1 => D.rt d ρ1.g
theorem ds_ret (he : DE X c pa false e we) : DS1 X c false (.Return (some e) pos) (sRet we) :=
  ⟨(ps_ret he.pe).imp fun E σ H ⟨ρ, F, Dk, S, w, k1, k2, k3, k4⟩ => ⟨ρ, F, [], _, S, w, fun d ρ1 v F1 H1 hk S1 fs1 ko1 g1 r1 => k4 d ρ1.g hk v F1 H1 S1.fin r1⟩⟩
theorem ds_retF (he : FE X c pa e we) : DS1 X c true (.Return (some e) pos) (sRet we) :=
  ⟨(ps_ret he.pe).imp fun E σ H ⟨ρ, F, Dk, S, w, k1, k2, k3, k4⟩ => ⟨ρ, F, [], _, S, w, fun d ρ1 q o F1 H1 hk S1 fs1 ko1 g1 hq ob => k4 d ρ1.g hk q o F1 H1 S1.fin hq ob⟩⟩
theorem ds_retN : DS1 X c false (.Return none pos) (fun D ρ => D.rt .non ρ.g) :=
  ⟨ps_retN.imp fun E σ H ⟨ρ, F, Dk, S, w, k1, k2, k3, k4⟩ => k4 .non ρ.g w .non F H S.fin .non⟩
theorem OwnAt.obj {K : PySem.W.Frag} {F H : Hp} {a : Addr} : ∀ {d : D}, OwnAt K F H a d → ∃ o, H a = some o ∧ ObjD K F o d
  | .lst _, ⟨vs, h, r⟩ => ⟨_, h, r⟩
  | .dct _ _, ⟨vs, h, n, r⟩ => ⟨_, h, n, r⟩
  | .dtt _ _, ⟨vs, h, n, r⟩ => ⟨_, h, n, r⟩
theorem ObjD.own {K : PySem.W.Frag} {F H : Hp} {a : Addr} {o : HO} {d : D} (h : H a = some o) (r : ObjD K F o d) : OwnAt K F H a d := by
  cases o <;> cases d <;> simp only [ObjD] at r
  · exact ⟨_, h, r⟩
  · exact ⟨_, h, r⟩
  · exact ⟨_, h, r⟩
/-- an object of the def's own is handed back as a fresh one -/
def sRetO {R : Rgn} (i : Nat) : WS R := fun D ρ => ∃ d, ρ.sl[i]? = some (some (.own d)) ∧ D.rt d ρ.g
theorem ds_retO {i : Nat} {x : Str} {pos' : Pos} (hN : X.N[i]? = some x := by rfl) (hv : Vis X.env.scope x := by first | exact .inl rfl | exact .inr (.inl rfl) | exact .inr (.inr rfl))
    (hd : (x == ("__debug__" : Str)) = false := by decide) (hcd : (x == ("__classdict__" : Str)) = false := by decide) : DS1 X c true (.Return (some (.Name x pos')) pos) (sRetO i) :=
  ⟨(ps_ret (pe_var hN hv hd hcd)).imp fun E σ H ⟨ρ, F, Dk, S, ⟨d, hd, w⟩, k1, k2, k3, k4⟩ => by
    have h := S.slots i
    rw [hd] at h
    obtain ⟨a, h1, ow⟩ := h
    obtain ⟨m1, m2, _⟩ := S.mine i a ⟨h1, d, hd⟩
    obtain ⟨o, ho, ob⟩ := ow.obj
    refine ⟨.ref a, h1, ?_⟩
    have e : upd (fun b => if b = a then none else H b) a o = H := by
      funext b
      unfold upd
      by_cases z : b = a
      · subst z; rw [if_pos rfl, ho]
      · rw [if_neg z]; show (if b = a then none else H b) = H b; rw [if_neg z]
    have nk : ∀ b u, (F b = some u ∨ c.H0 b = some u) → b ≠ a := fun b u h z => by
      subst z
      rcases h with h | h
      · rw [m1] at h; cases h
      · rw [m2] at h; cases h
    obtain ⟨Z, r, z1, z2, z3, z4⟩ := S.reg
    have fin : Fin c F (fun b => if b = a then none else H b) ρ.g := by
      refine ⟨fun b u q => ?_, S.old, S.new, fun b u q n => ?_, fun b n => ?_, Z, c.R.fr r fun b hb => ?_, z1, z2⟩
      · show (if b = a then none else H b) = some u
        rw [if_neg (nk b u (.inl q))]; exact S.sub _ _ q
      · show (if b = a then none else H b) = some u
        rw [if_neg (nk b u (.inr q))]; exact S.keep b u q n
      · show (if b = a then none else H b) ≠ none
        cases q : c.H0 b with
        | none => exact absurd q n
        | some u => rw [if_neg (nk b u (.inr q))]; exact S.live b n
      · show (if b = a then none else H b) = H b
        rw [if_neg]
        intro z
        subst z
        exact z4 i b ⟨h1, d, hd⟩ hb
    have := k4 d ρ.g w a o F (fun b => if b = a then none else H b) fin (by rw [if_pos rfl]) ob
    rw [e] at this
    exact this⟩
def sDrop {R : Rgn} (we : WE R) : WS R := fun D ρ => we ρ fun _ ρ1 => D.nx ρ1
theorem ds_expr (he : DE X c pa ba e we) (hs : swapsWith e none pos.line X.env = pure false := by rfl) : DS1 X c fr (.Expr e pos) (sDrop we) :=
  ⟨(ps_expr he.pe hs).imp fun E σ H ⟨ρ, F, Dk, S, w, k1, k2, k3, k4⟩ => ⟨ρ, F, [], _, S, w, fun d ρ1 v F1 H1 hk S1 fs1 ko1 g1 r1 => k1 ρ1 σ F1 H1 hk S1 fs1⟩⟩
def sIf {R : Rgn} (wt : WB R) (w1 w2 : WS R) : WS R := fun D ρ => wt ρ fun b ρ1 => if b = true then w1 D ρ1 else w2 D ρ1
theorem ds_if {a b : List Stmt} (ht : DT X c pa e wt) (h1 : DSs X c fr a w1) (h2 : DSs X c fr b w2) : DS1 X c fr (.If e a b pos) (sIf wt w1 w2) :=
  ⟨(ps_if ht.pt h1.ps h2.ps).imp fun E σ H ⟨ρ, F, Dk, S, w, k1, k2, k3, k4⟩ => ⟨ρ, F, [], _, S, w, fun b ρ1 F1 H1 hk S1 fs1 ko1 g1 => by
    cases b with
    | true =>
      rw [if_pos rfl] at hk ⊢
      exact ⟨ρ1, F1, Dk, S1, hk, fun ρ2 σ2 F2 H2 h2 S2 fs2 => k1 ρ2 σ2 F2 H2 h2 S2 (fs1.trans fs2), fun ρ2 σ2 F2 H2 h2 S2 fs2 => k2 ρ2 σ2 F2 H2 h2 S2 (fs1.trans fs2), fun ρ2 σ2 F2 H2 h2 S2 fs2 => k3 ρ2 σ2 F2 H2 h2 S2 (fs1.trans fs2), k4⟩
    | false =>
      rw [if_neg (by decide)] at hk ⊢
      exact ⟨ρ1, F1, Dk, S1, hk, fun ρ2 σ2 F2 H2 h2 S2 fs2 => k1 ρ2 σ2 F2 H2 h2 S2 (fs1.trans fs2), fun ρ2 σ2 F2 H2 h2 S2 fs2 => k2 ρ2 σ2 F2 H2 h2 S2 (fs1.trans fs2), fun ρ2 σ2 F2 H2 h2 S2 fs2 => k3 ρ2 σ2 F2 H2 h2 S2 (fs1.trans fs2), k4⟩⟩⟩
/-- x = e -/
def sSet {R : Rgn} (i : Nat) (we : WE R) : WS R := fun D ρ => we ρ fun d ρ1 => D.nx (ρ1.put i (some (.fz d)))
theorem ds_set {i : Nat} {x : Str} {pos' : Pos} (hN : X.N.Nodup) (he : DE X c pa false e we) (hi : X.N[i]? = some x := by rfl) (hx : Loc X.env.scope x := by first | exact Or.inl rfl | exact Or.inr rfl) (hs : swapsWith e (some (.Name x pos')) pos.line X.env = pure false := by rfl)
    (hf : X.fn x = true ∨ X.env.scope.names.lookup x = some .local := by first | exact .inl rfl | exact .inr rfl | assumption) : DS1 X c fr (.Assign [.Name x pos'] e pos) (sSet i we) :=
  ⟨(ps_set hN hi hx he.pe hs hf).imp fun E σ H ⟨ρ, F, Dk, S, w, k1, k2, k3, k4⟩ => ⟨ρ, F, [], _, S, w, fun d ρ1 v F1 H1 hk S1 fs1 ko1 g1 r1 => k1 _ _ F1 H1 hk (S1.setF r1 i) fs1⟩⟩
/-- a slot is set to a fresh object -/
theorem St.setO {F H : Hp} {σ : L2.St} {ρ : DS c.R} (S : St c F [] σ ρ H) {q : Addr} {o : HO} {d : D} (hq : H q = none) (ob : ObjD c.K F o d) (i : Nat) : St c F [] (σ.set i (some (.ref q))) (ρ.put i (some (.own d))) (upd H q o) := by
  have hF : F q = none := by
    cases e : F q with
    | none => rfl
    | some u => rw [S.sub _ _ e] at hq; cases hq
  have h0 : c.H0 q = none := by
    cases e : c.H0 q with
    | none => rfl
    | some u => exact absurd hq (S.live q (by rw [e]; exact fun z => by cases z))
  obtain ⟨Z, r, z1, z2, z3, z4⟩ := S.reg
  have hZ : ¬ Z q := fun z => c.R.al r q z hq
  have own : ∀ j a, Owns (σ.set i (some (.ref q))) (ρ.put i (some (.own d))).sl j a → (j = i ∧ a = q) ∨ (j ≠ i ∧ Owns σ ρ.sl j a ∧ a ≠ q) := fun j a h => by
    obtain ⟨h1, x, h2⟩ := h
    have h2 : (ρ.sl.set i (some (.own d)))[j]? = some (some (.own x)) := h2
    rw [set_get] at h1 h2
    by_cases e : i = j
    · rw [if_pos e] at h1
      split at h1
      · cases h1; exact .inl ⟨e.symm, rfl⟩
      · cases h1
    · rw [if_neg e] at h1 h2
      have ow : Owns σ ρ.sl j a := ⟨h1, x, h2⟩
      refine .inr ⟨fun z => e z.symm, ow, fun z => ?_⟩
      obtain ⟨y, _, oa⟩ := ow.there (S.slots j)
      rw [z] at oa
      exact oa.there hq
  refine ⟨by show (σ.set i _).length = (ρ.sl.set i _).length; rw [List.length_set, List.length_set]; exact S.len, fun b u e => ?_, S.old, S.new, fun b u e n => ?_, fun b n => ?_, fun j => ?_, fun j a h => ?_, fun j k a h h' => ?_, (fun a h => by cases h), ?_⟩
  · rw [upd_ne (fun z => by rw [z, hF] at e; cases e)]; exact S.sub _ _ e
  · rw [upd_ne (fun z => by rw [z, h0] at e; cases e)]; exact S.keep b u e n
  · rw [upd_ne (fun z => by rw [z] at n; exact n h0)]; exact S.live b n
  · show SlotOk c.K F (upd H q o) (σ.set i (some (.ref q))) j (ρ.sl.set i (some (.own d)))[j]?
    rw [set_get]
    by_cases e : i = j
    · subst e
      rw [if_pos rfl]
      by_cases z : i < ρ.sl.length
      · rw [if_pos z]
        exact ⟨q, by rw [set_get, if_pos rfl, if_pos (by rw [S.len]; exact z)], ObjD.own upd_same ob⟩
      · rw [if_neg z]; trivial
    · rw [if_neg e]
      have h := S.slots j
      have e2 : (σ.set i (some (V.ref q)))[j]? = σ[j]? := by rw [set_get, if_neg e]
      cases z : ρ.sl[j]? with
      | none => trivial
      | some x =>
        rw [z] at h
        cases x with
        | none => trivial
        | some x =>
          cases x with
          | fz d =>
            obtain ⟨v, h1, h2⟩ := h
            exact ⟨v, by rw [e2]; exact h1, h2⟩
          | own d =>
            obtain ⟨a, h1, h2⟩ := h
            refine ⟨a, by rw [e2]; exact h1, h2.same (Same.refl _) ?_⟩
            rw [upd_ne (fun y => by rw [y] at h2; exact h2.there hq)]
  · rcases own j a h with ⟨_, rfl⟩ | ⟨_, ow, _⟩
    · exact ⟨hF, h0, fun z => by cases z⟩
    · exact S.mine j a ow
  · rcases own j a h with ⟨rfl, rfl⟩ | ⟨n1, ow, na⟩
    · rcases own k a h' with ⟨rfl, _⟩ | ⟨_, _, na⟩
      · rfl
      · exact absurd rfl na
    · rcases own k a h' with ⟨_, rfl⟩ | ⟨_, ow', _⟩
      · exact absurd rfl na
      · exact S.inj j k a ow ow'
  · refine ⟨Z, c.R.fr r fun a h => by rw [upd_ne (fun y => hZ (by rw [← y]; exact h))], z1, z2, (fun a h => by cases h), fun j a h => ?_⟩
    rcases own j a h with ⟨_, rfl⟩ | ⟨_, ow, _⟩
    · exact hZ
    · exact z4 j a ow
def sNew {R : Rgn} (i : Nat) (we : WE R) : WS R := fun D ρ => we ρ fun d ρ1 => D.nx (ρ1.put i (some (.own d)))
theorem ds_new {i : Nat} {x : Str} {pos' : Pos} (hN : X.N.Nodup) (he : FE X c pa e we) (hi : X.N[i]? = some x := by rfl) (hx : Loc X.env.scope x := by first | exact Or.inl rfl | exact Or.inr rfl) (hs : swapsWith e (some (.Name x pos')) pos.line X.env = pure false := by rfl)
    (hf : X.fn x = true ∨ X.env.scope.names.lookup x = some .local := by first | exact .inl rfl | exact .inr rfl | assumption) : DS1 X c fr (.Assign [.Name x pos'] e pos) (sNew i we) :=
  ⟨(ps_set hN hi hx he.pe hs hf).imp fun E σ H ⟨ρ, F, Dk, S, w, k1, k2, k3, k4⟩ => ⟨ρ, F, [], _, S, w, fun d ρ1 q o F1 H1 hk S1 fs1 ko1 g1 hq ob => k1 _ _ F1 _ hk (S1.setO hq ob i) fs1⟩⟩
end
/-! ### a def's body -/
def startD (N : List Str) (ds : List D) : List (Option DV) := ds.map (fun d => some (.fz d)) ++ List.replicate (N.length - ds.length) none
theorem St.start {K : PySem.W.Frag} {R : Rgn} {F H : Hp} {Z : Addr → Prop} {N : List Str} {vs : List V} {ds : List D} {g : R.G} (sub : Same F H) (r : Reps K F vs ds) (ok : R.ok g Z H) (zf : ∀ b, Z b → F b = none) :
    St ⟨K, R, H, F, Z⟩ F [] (L2.start N vs) ⟨g, startD N ds⟩ H := by
  have own : ∀ i a, ¬ Owns (L2.start N vs) (startD N ds) i a := fun i a h => by
    obtain ⟨_, d, h2⟩ := h
    unfold startD at h2
    rcases List.mem_append.mp (List.mem_of_getElem? h2) with m | m
    · obtain ⟨x, _, e⟩ := List.mem_map.mp m
      cases e
    · have := List.eq_of_mem_replicate m
      cases this
  refine ⟨?_, sub, Same.refl _, fun b n e => absurd e n, fun b o e _ => e, fun b n => n, fun i => ?_, fun i a h => absurd h (own i a), fun i j a h => absurd h (own i a), (fun a h => by cases h), ⟨Z, ok, zf, fun b z n => absurd z n, (fun a h => by cases h), fun i a h => absurd h (own i a)⟩⟩
  · show (vs.map some ++ List.replicate (N.length - vs.length) none).length = (ds.map (fun d => some (DV.fz d)) ++ List.replicate (N.length - ds.length) none).length
    simp [r.length]
  · show SlotOk K F H (vs.map some ++ List.replicate (N.length - vs.length) none) i (ds.map (fun d => some (DV.fz d)) ++ List.replicate (N.length - ds.length) none)[i]?
    by_cases h : i < ds.length
    · rw [List.getElem?_append_left (by simpa using h)]
      have hd : ds[i]? = some ds[i] := by simp [h]
      obtain ⟨v, hv, rp⟩ := r.get' hd
      rw [List.getElem?_map, hd]
      refine ⟨v, ?_, rp⟩
      rw [List.getElem?_append_left (by rw [List.length_map, r.length]; exact h), List.getElem?_map, hv]
      rfl
    · rw [List.getElem?_append_right (by simpa using Nat.le_of_not_lt h)]
      cases e : (List.replicate (N.length - ds.length) (none : Option DV))[i - (ds.map (fun d => some (DV.fz d))).length]? with
      | none => trivial
      | some x =>
        have := List.eq_of_mem_replicate (List.mem_of_getElem? e)
        subst this
        trivial
section
variable {P : Program} {w : World} {K : PySem.W.Frag} {mg : Str → Option Value} {base : Heap} {x q : Str} {st : Stmt} {f : Addr} {fd : FuncData} {N ps : List Str} {k : Nat}
/-- the context of a def's body -/
abbrev bodyX (P : Program) (w : World) (K : PySem.W.Frag) (mg : Str → Option Value) (base : Heap) (N : List Str) (q : Str) (st : Stmt) (f : Addr) (cdv : Value) (A : Around) (outer : List Env) (s : Shared) (H : Hp) (E : XK) : Cx :=
  (cxOf CX0 P w K mg base N q (defScope st) f cdv A outer s H E).nox
theorem fin_grow {R : Rgn} {F H F' H' : Hp} {Z : Addr → Prop} {g : R.G} (fin : Fin ⟨K, R, H, F, Z⟩ F' H' g) : (∀ b, F' b ≠ none → F b ≠ none ∨ H b = none) := fun b n => by
  cases e : F b with
  | none => exact .inr (fin.new b n e)
  | some o => exact .inl fun z => by cases z
theorem FnD {m : WM} (F : FnP K x q st f fd) (S : FnScope N ps (defScope st)) (hm : ∀ ds Kk, m ds Kk → ds.length = ps.length)
    (hbody : ∀ (cdv : Value) (A : Around) (outer : List Env) (s : Shared) (H Fz : Hp) (E : XK), Room k (A.deeper (envOfC q (defScope st) s.heap.objs.size f cdv)) →
      ∃ w' : WS noR, DSs (bodyX P w K mg base N q st f cdv A outer s H E) ⟨K, noR, H, Fz, fun _ => False⟩ false (defBody st) w' ∧
        ∀ ds Kk, m ds Kk → w' { nx := fun _ => Kk .non, rt := fun d _ => Kk d } ⟨noG, startD N ds⟩) : FnOk P w K mg base CX0 (k + 1) f fd ps (spD K m) := by
  refine F.ok S (fun vs H Q E h => ?_) (fun cdv A outer s H vs Q E hr h => ?_)
  · obtain ⟨ds, F, Kk, _, r, hw, _⟩ := h
    rw [r.length]
    exact hm ds Kk hw
  · obtain ⟨ds, Fz, Kk, sub, r, hw, k⟩ := h
    obtain ⟨w', hb, hw'⟩ := hbody cdv A outer s H Fz E hr
    have gr : ∀ {F' H' : Hp} {g : noR.G}, Fin ⟨K, noR, H, Fz, fun _ => False⟩ F' H' g → Grow Fz H F' H' := fun fin => ⟨fin.old, fin.sub, fun b o e => fin.keep b o e id, fin_grow fin⟩
    exact ⟨_, PSs.nox hb.ps, _, Fz, _, St.start sub r (fun a h => h) (fun b h => h.elim), hw' ds Kk hw, fun ρ' σ' F' H' h S' _ => k .non .non F' H' h (gr S'.fin) .non, (fun _ _ _ _ h => h.elim), (fun _ _ _ _ h => h.elim),
      fun d g h v F' H' fin rp => k d v F' H' h (gr fin) rp⟩
theorem FnF {m : WM} (F : FnP K x q st f fd) (S : FnScope N ps (defScope st)) (hm : ∀ ds Kk, m ds Kk → ds.length = ps.length)
    (hbody : ∀ (cdv : Value) (A : Around) (outer : List Env) (s : Shared) (H Fz : Hp) (E : XK), Room k (A.deeper (envOfC q (defScope st) s.heap.objs.size f cdv)) →
      ∃ w' : WS noR, DSs (bodyX P w K mg base N q st f cdv A outer s H E) ⟨K, noR, H, Fz, fun _ => False⟩ true (defBody st) w' ∧
        ∀ ds Kk, m ds Kk → w' { nx := fun _ => False, rt := fun d _ => Kk d } ⟨noG, startD N ds⟩) : FnOk P w K mg base CX0 (k + 1) f fd ps (spF K m) := by
  refine F.ok S (fun vs H Q E h => ?_) (fun cdv A outer s H vs Q E hr h => ?_)
  · obtain ⟨ds, F, Kk, _, r, hw, _⟩ := h
    rw [r.length]
    exact hm ds Kk hw
  · obtain ⟨ds, Fz, Kk, sub, r, hw, k⟩ := h
    obtain ⟨w', hb, hw'⟩ := hbody cdv A outer s H Fz E hr
    have gr : ∀ {F' H' : Hp} {g : noR.G}, Fin ⟨K, noR, H, Fz, fun _ => False⟩ F' H' g → Grow Fz H F' H' := fun fin => ⟨fin.old, fin.sub, fun b o e => fin.keep b o e id, fin_grow fin⟩
    exact ⟨_, PSs.nox hb.ps, _, Fz, _, St.start sub r (fun a h => h) (fun b h => h.elim), hw' ds Kk hw, (fun ρ' σ' F' H' h S' _ => h.elim), (fun _ _ _ _ h => h.elim), (fun _ _ _ _ h => h.elim),
      fun d g h q o F' H' fin hq ob => k d q o F' H' h (gr fin) hq ob⟩
theorem FnR {R : Rgn} {m : WMR R} (F : FnP K x q st f fd) (S : FnScope N ps (defScope st)) (hm : ∀ ds g Kk, m ds g Kk → ds.length = ps.length)
    (hbody : ∀ (cdv : Value) (A : Around) (outer : List Env) (s : Shared) (H Fz : Hp) (Z : Addr → Prop) (E : XK), Room k (A.deeper (envOfC q (defScope st) s.heap.objs.size f cdv)) →
      ∃ w' : WS R, DSs (bodyX P w K mg base N q st f cdv A outer s H E) ⟨K, R, H, Fz, Z⟩ false (defBody st) w' ∧
        ∀ ds g Kk, m ds g Kk → w' { nx := fun ρ => Kk .non ρ.g, rt := fun d g => Kk d g } ⟨g, startD N ds⟩) : FnOk P w K mg base CX0 (k + 1) f fd ps (spR R K m) := by
  refine F.ok S (fun vs H Q E h => ?_) (fun cdv A outer s H vs Q E hr h => ?_)
  · obtain ⟨ds, F, Z, g, Kk, _, r, _, _, hw, _⟩ := h
    rw [r.length]
    exact hm ds g Kk hw
  · obtain ⟨ds, Fz, Z, g, Kk, sub, r, ok, zf, hw, k⟩ := h
    obtain ⟨w', hb, hw'⟩ := hbody cdv A outer s H Fz Z E hr
    have gr : ∀ {F' H' : Hp} {g' : R.G}, Fin ⟨K, R, H, Fz, Z⟩ F' H' g' → ∃ Z', GrowR R g Fz H Z g' F' H' Z' := fun {F' H' g'} fin => by
      obtain ⟨Z', ok', z1, z2⟩ := fin.reg
      refine ⟨Z', fin.old, fin.sub, fin_grow fin, fin.keep, fin.live, ok', z1, fun b h => ?_⟩
      by_cases e : Z b
      · exact .inl e
      · exact .inr (z2 b h e)
    exact ⟨_, PSs.nox hb.ps, _, Fz, _, St.start sub r ok zf, hw' ds g Kk hw, fun ρ' σ' F' H' h S' _ => (gr S'.fin).elim fun Z' gz => k .non ρ'.g .non F' Z' H' h gz .non, (fun _ _ _ _ h => h.elim), (fun _ _ _ _ h => h.elim),
      fun d g' h v F' H' fin rp => (gr fin).elim fun Z' gz => k d g' v F' Z' H' h gz rp⟩
theorem FnRF {R : Rgn} {m : WMR R} (F : FnP K x q st f fd) (S : FnScope N ps (defScope st)) (hm : ∀ ds g Kk, m ds g Kk → ds.length = ps.length)
    (hbody : ∀ (cdv : Value) (A : Around) (outer : List Env) (s : Shared) (H Fz : Hp) (Z : Addr → Prop) (E : XK), Room k (A.deeper (envOfC q (defScope st) s.heap.objs.size f cdv)) →
      ∃ w' : WS R, DSs (bodyX P w K mg base N q st f cdv A outer s H E) ⟨K, R, H, Fz, Z⟩ true (defBody st) w' ∧
        ∀ ds g Kk, m ds g Kk → w' { nx := fun ρ => False, rt := fun d g => Kk d g } ⟨g, startD N ds⟩) : FnOk P w K mg base CX0 (k + 1) f fd ps (spRF R K m) := by
  refine F.ok S (fun vs H Q E h => ?_) (fun cdv A outer s H vs Q E hr h => ?_)
  · obtain ⟨ds, F, Z, g, Kk, _, r, _, _, hw, _⟩ := h
    rw [r.length]
    exact hm ds g Kk hw
  · obtain ⟨ds, Fz, Z, g, Kk, sub, r, ok, zf, hw, k⟩ := h
    obtain ⟨w', hb, hw'⟩ := hbody cdv A outer s H Fz Z E hr
    have gr : ∀ {F' H' : Hp} {g' : R.G}, Fin ⟨K, R, H, Fz, Z⟩ F' H' g' → ∃ Z', GrowR R g Fz H Z g' F' H' Z' := fun {F' H' g'} fin => by
      obtain ⟨Z', ok', z1, z2⟩ := fin.reg
      refine ⟨Z', fin.old, fin.sub, fin_grow fin, fin.keep, fin.live, ok', z1, fun b h => ?_⟩
      by_cases e : Z b
      · exact .inl e
      · exact .inr (z2 b h e)
    exact ⟨_, PSs.nox hb.ps, _, Fz, _, St.start sub r ok zf, hw' ds g Kk hw, (fun ρ' σ' F' H' h S' _ => h.elim), (fun _ _ _ _ h => h.elim), (fun _ _ _ _ h => h.elim),
      fun d g' h q o F' H' fin hq ob => (gr fin).elim fun Z' gz => k d g' q o F' Z' H' h gz hq ob⟩
end
end Q

set_option Elab.async false
set_option linter.all false
set_option maxRecDepth 100000
set_option maxHeartbeats 4000000
namespace Q
open PySem PySem.Spec PyProof.Rows L2
section
variable {X : Cx} {c : Ctx} {fr : Bool} {st : Stmt} {rest : List Stmt} {e : Expr} {es : List Expr} {pos p : Pos} {pa pb ba bb : Bool} {we : WE c.R} {wa : WA c.R} {wt : WB c.R} {w w1 w2 : WS c.R}
/-- an object of the def's own is written -/
theorem St.write {F H : Hp} {O : List Addr} {σ : L2.St} {ρ : DS c.R} {i : Nat} {q : Addr} {d d' : D} {o : HO} (S : St c F O σ ρ H) (h1 : σ[i]? = some (some (.ref q))) (h2 : ρ.sl[i]? = some (some (.own d))) (ob : ObjD c.K F o d') :
    St c F O σ (ρ.put i (some (.own d'))) (upd H q o) := by
  have ns : Owns σ ρ.sl i q := ⟨h1, d, h2⟩
  obtain ⟨m1, m2, m3⟩ := S.mine i q ns
  obtain ⟨Z, r, z1, z2, z3, z4⟩ := S.reg
  have own : ∀ j a, Owns σ (ρ.put i (some (.own d'))).sl j a → Owns σ ρ.sl j a := fun j a ⟨g1, x, g2⟩ => by
    have g2 : (ρ.sl.set i (some (.own d')))[j]? = some (some (.own x)) := g2
    rw [set_get] at g2
    by_cases e : i = j
    · subst e; exact ⟨g1, d, h2⟩
    · rw [if_neg e] at g2
      exact ⟨g1, x, g2⟩
  refine ⟨by show σ.length = (ρ.sl.set i _).length; rw [List.length_set]; exact S.len, fun b u z => ?_, S.old, S.new, fun b u z n => ?_, fun b n => ?_, fun j => ?_, fun j a h => S.mine j a (own j a h), fun j k a h h' => S.inj j k a (own j a h) (own k a h'), fun a h => ?_, ?_⟩
  · rw [upd_ne (fun y => by rw [y, m1] at z; cases z)]; exact S.sub _ _ z
  · rw [upd_ne (fun y => by rw [y, m2] at z; cases z)]; exact S.keep b u z n
  · rw [upd_ne (fun y => by rw [y] at n; exact n m2)]; exact S.live b n
  · show SlotOk c.K F (upd H q o) σ j (ρ.sl.set i (some (.own d')))[j]?
    rw [set_get]
    by_cases e : i = j
    · subst e
      rw [if_pos rfl]
      by_cases z : i < ρ.sl.length
      · rw [if_pos z]
        exact ⟨q, h1, ObjD.own upd_same ob⟩
      · rw [if_neg z]; trivial
    · rw [if_neg e]
      have h := S.slots j
      cases z : ρ.sl[j]? with
      | none => trivial
      | some x =>
        rw [z] at h
        cases x with
        | none => trivial
        | some x =>
          cases x with
          | fz d => exact h
          | own d =>
            obtain ⟨a, g1, g2⟩ := h
            refine ⟨a, g1, g2.same (Same.refl _) ?_⟩
            rw [upd_ne (fun y => e (S.inj i j q ns ⟨by rw [← y]; exact g1, d, z⟩))]
  · obtain ⟨n1, n2, n3⟩ := S.out a h
    refine ⟨n1, n2, ?_⟩
    rw [upd_ne (fun y => m3 (by rw [← y]; exact h))]
    exact n3
  · exact ⟨Z, c.R.fr r fun a h => by rw [upd_ne (fun y => z4 i q ns (by rw [← y]; exact h))], z1, z2, z3, fun j a h => z4 j a (own j a h)⟩
theorem own_at {F H : Hp} {O : List Addr} {σ : L2.St} {ρ : DS c.R} {i : Nat} {d : D} (S : St c F O σ ρ H) (h2 : ρ.sl[i]? = some (some (.own d))) : ∃ q, σ[i]? = some (some (.ref q)) ∧ OwnAt c.K F H q d := by
  have h := S.slots i
  rw [h2] at h
  exact h
/-- x.append(e) -/
def sApp {R : Rgn} (i : Nat) (we : WE R) : WS R := fun D ρ => (∃ ds, ρ.sl[i]? = some (some (.own (.lst ds)))) ∧ we ρ fun d ρ1 => ∃ ds, ρ1.sl[i]? = some (some (.own (.lst ds))) ∧ ds.length < 100000 ∧ D.nx (ρ1.put i (some (.own (.lst (ds ++ [d])))))
theorem ds_app {i : Nat} {x : Str} {ep pp qp : Pos} (he : DE X c pa false e we) (hk : X.K = c.K := by rfl) (hN : X.N[i]? = some x := by rfl) (hv : Vis X.env.scope x := by first | exact .inl rfl | exact .inr (.inl rfl) | exact .inr (.inr rfl))
    (hd : (x == ("__debug__" : Str)) = false := by decide) (hcd : (x == ("__classdict__" : Str)) = false := by decide)
    (hbase : attributeBase (.Name x pp) "append" X.env (eval (.Name x pp) X.env) = eval (.Name x pp) X.env := by rfl)
    (hfew : ((backTo ep (starEach [e] X.env)).all (fun x => !x.1) && (backToKw ep (keywordEach [] X.env)).all (fun x => x.1.isSome) && decide (([e] : List Expr).length + ([] : List Keyword).length + (if ([] : List Keyword).isEmpty then 0 else 1) < 30)) = true := by rfl)
    (hline : (qp.endLine == ep.line) = true := by rfl) (hst : starEach [e] X.env = (false, eval e X.env) :: starEach [] X.env := by rfl) (hplain : (backTo ep (starEach [] X.env)).any (·.1) = false := by rfl)
    (hs : swapsWith (.Call (.Attribute (.Name x pp) "append" qp) [e] [] ep) none pos.line X.env = pure false := by rfl) :
    DS1 X c fr (.Expr (.Call (.Attribute (.Name x pp) "append" qp) [e] [] ep) pos) (sApp i we) :=
  ⟨(ps_expr (pe_bm PySem.F.plainAttrs_list PySem.F.slot_list_append PySem.F.type_list_append mt_append (pe_var hN hv hd hcd) (pa_cons he.pe pa_nil hst) hbase hfew hline hst hplain) hs).imp fun E σ H ⟨ρ, F, Dk, S, ⟨⟨ds0, h0⟩, w⟩, k1, k2, k3, k4⟩ => by
    obtain ⟨q, hq, vs0, hvs0, _⟩ := own_at S h0
    refine ⟨.ref q, hq, .inl ⟨rfl, vs0, SqL.of hvs0⟩, ρ, F, [], _, S, w, fun d ρ1 v F1 H1 ⟨ds, h2, hz, hk⟩ S1 fs1 ko1 g1 r1 => ?_⟩
    obtain ⟨q', hq', vs, hvs, rv⟩ := own_at S1 h2
    rw [hq] at hq'
    cases hq'
    refine ⟨q, vs, v, rfl, rfl, hvs, by rw [rv.length]; exact Nat.lt_of_lt_of_le hz big_line, ?_⟩
    exact k1 _ σ F1 _ hk (S1.write hq h2 (o := .lst (vs ++ [v])) (rv.snoc r1)) fs1⟩
/-- x.extend(e), e a list -/
def sExt {R : Rgn} (i : Nat) (we : WE R) : WS R := fun D ρ => (∃ ds, ρ.sl[i]? = some (some (.own (.lst ds)))) ∧ we ρ fun d ρ1 => ∃ ds es, d = .lst es ∧ ρ1.sl[i]? = some (some (.own (.lst ds))) ∧ ds.length + es.length ≤ 100000 ∧ D.nx (ρ1.put i (some (.own (.lst (ds ++ es)))))
theorem ds_ext {i : Nat} {x : Str} {ep pp qp : Pos} (he : DE X c pa ba e we) (hk : X.K = c.K := by rfl) (hN : X.N[i]? = some x := by rfl) (hv : Vis X.env.scope x := by first | exact .inl rfl | exact .inr (.inl rfl) | exact .inr (.inr rfl))
    (hd : (x == ("__debug__" : Str)) = false := by decide) (hcd : (x == ("__classdict__" : Str)) = false := by decide)
    (hbase : attributeBase (.Name x pp) "extend" X.env (eval (.Name x pp) X.env) = eval (.Name x pp) X.env := by rfl)
    (hfew : ((backTo ep (starEach [e] X.env)).all (fun x => !x.1) && (backToKw ep (keywordEach [] X.env)).all (fun x => x.1.isSome) && decide (([e] : List Expr).length + ([] : List Keyword).length + (if ([] : List Keyword).isEmpty then 0 else 1) < 30)) = true := by rfl)
    (hline : (qp.endLine == ep.line) = true := by rfl) (hst : starEach [e] X.env = (false, eval e X.env) :: starEach [] X.env := by rfl) (hplain : (backTo ep (starEach [] X.env)).any (·.1) = false := by rfl)
    (hs : swapsWith (.Call (.Attribute (.Name x pp) "extend" qp) [e] [] ep) none pos.line X.env = pure false := by rfl) :
    DS1 X c fr (.Expr (.Call (.Attribute (.Name x pp) "extend" qp) [e] [] ep) pos) (sExt i we) :=
  ⟨(ps_expr (pe_bm PySem.F.plainAttrs_list PySem.F.slot_list_extend PySem.F.type_list_extend mt_extend (pe_var hN hv hd hcd) (pa_cons he.pe pa_nil hst) hbase hfew hline hst hplain) hs).imp fun E σ H ⟨ρ, F, Dk, S, ⟨⟨ds0, h0⟩, w⟩, k1, k2, k3, k4⟩ => by
    obtain ⟨q, hq, vs0, hvs0, _⟩ := own_at S h0
    refine ⟨.ref q, hq, .inl ⟨rfl, vs0, SqL.of hvs0⟩, ρ, F, [], _, S, w, fun d ρ1 v F1 H1 ⟨ds, es, e1, h2, hz, hk⟩ S1 fs1 ko1 g1 r1 => ?_⟩
    subst e1
    obtain ⟨q', hq', vs, hvs, rv⟩ := own_at S1 h2
    rw [hq] at hq'
    cases hq'
    obtain ⟨b, us, rfl, hb, ru⟩ := (r1.bv S1).lst S1.sub
    refine ⟨q, b, vs, us, rfl, rfl, hvs, hb, by rw [rv.length, ru.length]; exact Nat.le_trans hz big_line, ?_⟩
    exact k1 _ σ F1 _ hk (S1.write hq h2 (o := .lst (vs ++ us)) (rv.append ru)) fs1⟩
/-- x[k] = e, x a list of the def's own -/
def sPutL {R : Rgn} (i : Nat) (we wk : WE R) : WS R := fun D ρ => we ρ fun d ρ1 => (∃ d0, ρ1.sl[i]? = some (some (.own d0))) ∧ wk ρ1 fun k ρ2 => ∃ n ds j, k = .int n ∧ ρ2.sl[i]? = some (some (.own (.lst ds))) ∧ ixN ds.length n = some j ∧ D.nx (ρ2.put i (some (.own (.lst (ds.set j d)))))
theorem ds_putL {i : Nat} {x : Str} {k : Expr} {wk : WE c.R} {pp qp : Pos} (he : DE X c pa false e we) (hx : DE X c pb bb k wk) (hN : X.N[i]? = some x := by rfl) (hv : Vis X.env.scope x := by first | exact .inl rfl | exact .inr (.inl rfl) | exact .inr (.inr rfl))
    (hd : (x == ("__debug__" : Str)) = false := by decide) (hcd : (x == ("__classdict__" : Str)) = false := by decide)
    (hasg : ∀ v, assign (.Subscript (.Name x pp) k qp) X.env v = (do
      let ov ← holding [v] (eval (.Name x pp) X.env)
      let iv ← holding [v, ov] (eval k X.env)
      standAt qp
      holding [v, ov, iv] (setItem ov iv v)
      release [v, ov, iv] []) := by intro _; rfl)
    (hs : swapsWithSole [.Subscript (.Name x pp) k qp] e pos.line X.env = pure false := by rfl) (hw : swappedStores [.Subscript (.Name x pp) k qp] e X.env = pure none := by rfl) :
    DS1 X c fr (.Assign [.Subscript (.Name x pp) k qp] e pos) (sPutL i we wk) :=
  ⟨(ps_asg he.pe (pg_sub (pe_var hN hv hd hcd) hx.pe set_list hasg) hs hw).imp fun E σ H ⟨ρ, F, Dk, S, w, k1, k2, k3, k4⟩ => by
    refine ⟨ρ, F, [], _, S, w, fun d ρ1 v F1 H1 ⟨⟨d0, h0⟩, hk⟩ S1 fs1 ko1 g1 r1 => ?_⟩
    obtain ⟨q, hq, _⟩ := own_at S1 h0
    refine ⟨.ref q, hq, ρ1, F1, [], _, S1, hk, fun kd ρ2 kv F2 H2 ⟨n, ds, j, en, h2, hj, hk2⟩ S2 fs2 ko2 g2 r2 => ?_⟩
    subst en
    obtain ⟨q', hq', vs, hvs, rv⟩ := own_at S2 h2
    rw [hq] at hq'
    cases hq'
    refine ⟨q, vs, n, j, rfl, (r2.bv S2).int, hvs, by rw [rv.length]; exact hj, ?_⟩
    exact k1 _ σ F2 _ hk2 (S2.write hq h2 (o := .lst (vs.set j v)) (Reps.set (Rep.same fs2 r1) j rv)) (fs1.trans fs2)⟩
end
end Q

set_option Elab.async false
set_option linter.all false
set_option maxRecDepth 100000
set_option maxHeartbeats 4000000
/-! the operators of Python over data -/
namespace Q
open PySem PySem.Spec PyProof.Rows L2
theorem BV.rt {K : PySem.W.Frag} {F H : Hp} {v : V} {ds : List D} (h : BV K F H v (.tup ds)) : Rep K F v (.tup ds) := by
  rcases h with r | ⟨_, o⟩
  · exact r
  · exact o.elim
/-! ### + - -/
def addD : D → D → Option D
  | .int a, .int b => some (.int (a + b))
  | .str a, .str b => if a.length + b.length ≤ 100000 then some (.str (a ++ b)) else none
  | .lst a, .lst b => if a.length + b.length ≤ 100000 then some (.lst (a ++ b)) else none
  | .tup a, .tup b => if a.length + b.length ≤ 100000 then some (.tup (a ++ b)) else none
  | _, _ => none
def rAddA (K : PySem.W.Frag) : R2 := fun x y H Q => ((rI0 (fun i j => .int (i + j)) x y H Q ∨ (∃ i j, x = .str i ∧ y = .str j ∧ i.length + j.length ≤ sizeLine ∧ Q (.str (i ++ j)) H)) ∨ rCat x y H Q) ∨ rCatA K x y H Q
theorem op_addA {X : Cx} : OpR X (binaryOp .Add) (rAddA X.K) := ((op_add.or op_add_str).or op_cat).or op_catA
theorem add_ok {K : PySem.W.Frag} : R2D K (rAddA K) addD := fun {F H v u x y z Q} s bx by' hz k => by
  cases x <;> cases y <;> simp only [addD, reduceCtorEq] at hz
  case int.int a b => cases hz; exact .inl (.inl (.inl ⟨a, b, bx.int, by'.int, k _ F H .no (.int _)⟩))
  case str.str a b =>
    split at hz
    · next h => cases hz; exact .inl (.inl (.inr ⟨a, b, bx.str, by'.str, Nat.le_trans h big_line, k _ F H .no (.str _)⟩))
    · cases hz
  case lst.lst a b =>
    split at hz
    · next h =>
      cases hz
      obtain ⟨p, vs, rfl, h1, r1⟩ := bx.lst s
      obtain ⟨q, us, rfl, h2, r2⟩ := by'.lst s
      refine .inl (.inr ⟨p, q, vs, us, rfl, rfl, h1, h2, by rw [r1.length, r2.length]; exact Nat.le_trans h big_line, fun l hl => ?_⟩)
      exact k _ _ _ (Al.one hl) (.lst upd_same ((r1.append r2).same (Same.upd_at s hl)))
    · cases hz
  case tup.tup a b =>
    split at hz
    · next h =>
      cases hz
      obtain ⟨p, vs, e1, h1, r1⟩ := bx.tup s
      obtain ⟨q, us, e2, h2, r2⟩ := by'.tup s
      have f1 : Rep K F v (.tup a) := bx.rt
      have f2 : Rep K F u (.tup b) := by'.rt
      subst e1 e2
      refine .inr ⟨p, q, vs, us, rfl, rfl, h1, h2, by rw [r1.length, r2.length]; exact Nat.le_trans h big_line, fun e => ?_, fun _ e => ?_, fun _ _ l hl => ?_⟩
      · subst e
        cases r1
        exact k _ F H .no f2
      · subst e
        cases r2
        rw [List.append_nil] at k
        exact k _ F H .no f1
      · exact k _ _ _ (Al.one hl) (.tup (SqT.of upd_same) ((r1.append r2).same (Same.upd_at s hl)))
    · cases hz
def subD : D → D → Option D
  | .int a, .int b => some (.int (a - b))
  | _, _ => none
theorem sub_ok {K : PySem.W.Frag} : R2D K (rI0 fun i j => .int (i - j)) subD := fun {F H v u x y z Q} s bx by' hz k => by
  cases x <;> cases y <;> simp only [subD, reduceCtorEq] at hz
  case int.int a b => cases hz; exact ⟨a, b, bx.int, by'.int, k _ F H .no (.int _)⟩
def modD : D → D → Option D
  | .int a, .int b => if 0 < b then some (.int (a % b)) else none
  | _, _ => none
theorem mod_ok {K : PySem.W.Frag} : R2D K (rI (fun _ j => 0 < j) fun i j => .int (i % j)) modD := fun {F H v u x y z Q} s bx by' hz k => by
  cases x <;> cases y <;> simp only [modD, reduceCtorEq] at hz
  case int.int a b =>
    split at hz
    · next h => cases hz; exact ⟨a, b, bx.int, by'.int, h, k _ F H .no (.int _)⟩
    · cases hz
/-! ### comparisons of numbers -/
def cmpD (p : Int → Int → Bool) : D → D → Option D
  | .int a, .int b => some (.bl (p a b))
  | _, _ => none
theorem cmp_ok {K : PySem.W.Frag} {p : Int → Int → Bool} : R2D K (rI0 fun i j => .bl (p i j)) (cmpD p) := fun {F H v u x y z Q} s bx by' hz k => by
  cases x <;> cases y <;> simp only [cmpD, reduceCtorEq] at hz
  case int.int a b => cases hz; exact ⟨a, b, bx.int, by'.int, k _ F H .no (.bl _)⟩
/-! ### equality of data -/
mutual
def pyD : D → Option PyData
  | .non => some .none
  | .bl b => some (.bool b)
  | .int i => some (.int i)
  | .str x => some (.str x)
  | .lst xs => (pyDs xs).map .list
  | .tup xs => (pyDs xs).map .tuple
  | .dct _ _ => none
  | .dtt _ _ => none
  | .ins _ _ _ => none
  | .raw _ => none
def pyDs : List D → Option (List PyData)
  | [] => some []
  | x :: xs => (pyD x).bind fun y => (pyDs xs).map fun ys => y :: ys
end
mutual
theorem py_plain : ∀ {d : D} {p : PyData}, pyD d = some p → p.plain = true
  | .non, _, h => by cases h; rfl
  | .bl _, _, h => by cases h; rfl
  | .int _, _, h => by cases h; rfl
  | .str _, _, h => by cases h; rfl
  | .lst xs, _, h => by
    simp only [pyD, Option.map_eq_some_iff] at h
    obtain ⟨ps, h1, rfl⟩ := h
    exact py_plains h1
  | .tup xs, _, h => by
    simp only [pyD, Option.map_eq_some_iff] at h
    obtain ⟨ps, h1, rfl⟩ := h
    exact py_plains h1
theorem py_plains : ∀ {ds : List D} {ps : List PyData}, pyDs ds = some ps → PyData.plainAll ps = true
  | [], _, h => by cases h; rfl
  | d :: ds, _, h => by
    simp only [pyDs, Option.bind_eq_some_iff, Option.map_eq_some_iff] at h
    obtain ⟨p, h1, ps, h2, rfl⟩ := h
    simp only [PyData.plainAll, py_plain h1, py_plains h2, Bool.and_self]
end
section
variable {K : PySem.W.Frag} {F H : Hp}
mutual
theorem Rep.dp (s : Same F H) : ∀ {v : V} {d : D} {p : PyData}, Rep K F v d → pyD d = some p → Dp K H v p
  | _, _, _, .non, h => by cases h; exact .non
  | _, _, _, .bl b, h => by cases h; exact .bl b
  | _, _, _, .int b, h => by cases h; exact .int b
  | _, _, _, .str b, h => by cases h; exact .str b
  | _, _, _, .lst e r, h => by
    simp only [pyD, Option.map_eq_some_iff] at h
    obtain ⟨ps, h1, rfl⟩ := h
    exact .lst (SqL.of (s _ _ e)) (Reps.dp s r h1)
  | _, _, _, .tup e r, h => by
    simp only [pyD, Option.map_eq_some_iff] at h
    obtain ⟨ps, h1, rfl⟩ := h
    exact .tup (SqT.same s e) (Reps.dp s r h1)
  | _, _, _, .dK _ _ _, h => by cases h
  | _, _, _, .dT _ _ _, h => by cases h
  | _, _, _, .ins _ _ _, h => by cases h
  | _, _, _, .raw _, h => by cases h
theorem Reps.dp (s : Same F H) : ∀ {vs : List V} {ds : List D} {ps : List PyData}, Reps K F vs ds → pyDs ds = some ps → DpAll K H vs ps
  | _, _, _, .nil, h => by cases h; exact .nil
  | _, _, _, .cons r t, h => by
    simp only [pyDs, Option.bind_eq_some_iff, Option.map_eq_some_iff] at h
    obtain ⟨p, h1, ps, h2, rfl⟩ := h
    exact .cons (Rep.dp s r h1) (Reps.dp s t h2)
end
theorem BV.dp {v : V} {d : D} {p : PyData} (s : Same F H) (h : BV K F H v d) (e : pyD d = some p) : Dp K H v p := by
  rcases h with r | ⟨rfl, o⟩
  · exact r.dp s e
  · cases d <;> simp only [OwnAt] at o
    · obtain ⟨vs, h1, r⟩ := o
      simp only [pyD, Option.map_eq_some_iff] at e
      obtain ⟨ps, h2, rfl⟩ := e
      exact .lst (SqL.of h1) (r.dp s h2)
    · cases e
    · cases e
end
def xr : Bool → Bool → Bool
  | false, b => b
  | true, b => !b
@[simp] theorem xr_f (b : Bool) : xr false b = b := rfl
@[simp] theorem xr_t (b : Bool) : xr true b = !b := rfl
theorem rel_bl {b k : Bool} (h : b = k) : L2.RelV (.bl b) (.bool k) := by rw [h]; rfl
def rEqP (neg : Bool) (K : PySem.W.Frag) : R2 := fun x y H Q => ∃ d e, Dp K H x d ∧ Dp K H y e ∧ d.plain = true ∧ e.plain = true ∧ min d.depth e.depth ≤ 60 ∧ Q (.bl (xr neg (PyData.eqv d e))) H
section
variable {X : Cx}
theorem op_eqP (hu : X.A.units + 64 < cLine) : OpR X (compareOp .Eq) (rEqP false X.K) := by
  intro pins s σ H x y v u Q I rx ry h
  obtain ⟨d, e, hd, he, sd, se, hz, q⟩ := h
  obtain ⟨as, r1⟩ := Dp.reads I d x v hd rx
  obtain ⟨bs, r2⟩ := Dp.reads I e y u he ry
  exact SeqAt.eq_plain r1 r2 sd se (by omega) ⟨.bl _, H, I, rel_bl (by simp), q⟩
theorem op_neP (hu : X.A.units + 64 < cLine) : OpR X (compareOp .NotEq) (rEqP true X.K) := by
  intro pins s σ H x y v u Q I rx ry h
  obtain ⟨d, e, hd, he, sd, se, hz, q⟩ := h
  obtain ⟨as, r1⟩ := Dp.reads I d x v hd rx
  obtain ⟨bs, r2⟩ := Dp.reads I e y u he ry
  exact SeqAt.ne_plain r1 r2 sd se (by omega) ⟨.bl _, H, I, rel_bl (by simp), q⟩
end
def eqP0 (neg : Bool) (x y : D) : Option D := (pyD x).bind fun p => (pyD y).bind fun q => if min p.depth q.depth ≤ 60 then some (.bl (xr neg (PyData.eqv p q))) else none
theorem eq_ok0 {K : PySem.W.Frag} {neg : Bool} : R2D K (rEqP neg K) (eqP0 neg) := fun {F H v u x y z Q} s bx by' hz k => by
  simp only [eqP0, Option.bind_eq_some_iff] at hz
  obtain ⟨p, h1, q, h2, h3⟩ := hz
  split at h3
  · next h => cases h3; exact ⟨p, q, bx.dp s h1, by'.dp s h2, py_plain h1, py_plain h2, h, k _ F H .no (.bl _)⟩
  · cases h3
/-! .. told over the data itself -/
mutual
def deq : D → D → Bool
  | .non, .non => true
  | .bl a, .bl b => a == b
  | .bl a, .int j => (if a then 1 else 0) == j
  | .int i, .bl b => i == (if b then 1 else 0)
  | .int i, .int j => i == j
  | .str x, .str y => x == y
  | .lst xs, .lst ys => deqs xs ys
  | .tup xs, .tup ys => deqs xs ys
  | _, _ => false
def deqs : List D → List D → Bool
  | [], [] => true
  | x :: xs, y :: ys => deq x y && deqs xs ys
  | _, _ => false
end
mutual
def isDat : D → Bool
  | .lst xs => isDats xs
  | .tup xs => isDats xs
  | .dct _ _ => false
  | .dtt _ _ => false
  | .ins _ _ _ => false
  | .raw _ => false
  | _ => true
def isDats : List D → Bool
  | [] => true
  | x :: xs => isDat x && isDats xs
end
mutual
def dep : D → Nat
  | .lst xs => deps xs + 1
  | .tup xs => deps xs + 1
  | _ => 0
def deps : List D → Nat
  | [] => 0
  | x :: xs => max (dep x) (deps xs)
end
mutual
theorem py_of : ∀ {d : D}, isDat d = true → ∃ p, pyD d = some p ∧ p.depth = dep d
  | .non, _ => ⟨_, rfl, by simp [PyData.depth, dep]⟩
  | .bl _, _ => ⟨_, rfl, by simp [PyData.depth, dep]⟩
  | .int _, _ => ⟨_, rfl, by simp [PyData.depth, dep]⟩
  | .str _, _ => ⟨_, rfl, by simp [PyData.depth, dep]⟩
  | .lst xs, h => by
    obtain ⟨ps, h1, h2⟩ := py_ofs (ds := xs) (by simpa [isDat] using h)
    exact ⟨.list ps, by simp only [pyD, h1, Option.map_some], by simp only [PyData.depth, dep, h2]⟩
  | .tup xs, h => by
    obtain ⟨ps, h1, h2⟩ := py_ofs (ds := xs) (by simpa [isDat] using h)
    exact ⟨.tuple ps, by simp only [pyD, h1, Option.map_some], by simp only [PyData.depth, dep, h2]⟩
  | .dct _ _, h => by simp [isDat] at h
  | .dtt _ _, h => by simp [isDat] at h
  | .ins _ _ _, h => by simp [isDat] at h
  | .raw _, h => by simp [isDat] at h
theorem py_ofs : ∀ {ds : List D}, isDats ds = true → ∃ ps, pyDs ds = some ps ∧ PyData.depthAll ps = deps ds
  | [], _ => ⟨[], rfl, by simp [PyData.depthAll, deps]⟩
  | d :: ds, h => by
    have h' : isDat d = true ∧ isDats ds = true := by simpa [isDats] using h
    obtain ⟨p, h1, h2⟩ := py_of h'.1
    obtain ⟨ps, h3, h4⟩ := py_ofs h'.2
    exact ⟨p :: ps, by simp only [pyDs, h1, h3, Option.bind_some, Option.map_some], by simp only [PyData.depthAll, deps, h2, h4]⟩
end
mutual
theorem deq_of : ∀ {d e : D} {p q : PyData}, pyD d = some p → pyD e = some q → PyData.eqv p q = deq d e := fun {d e p q} h1 h2 => by
  match d, h1 with
  | .non, h1 => cases h1; cases e <;> first | (cases h2; done) | (cases h2; simp [PyData.eqv, deq]; done) | (simp only [pyD, Option.map_eq_some_iff] at h2; obtain ⟨ps, _, rfl⟩ := h2; simp [PyData.eqv, deq]; done)
  | .bl _, h1 => cases h1; cases e <;> first | (cases h2; done) | (cases h2; simp [PyData.eqv, deq]; done) | (simp only [pyD, Option.map_eq_some_iff] at h2; obtain ⟨ps, _, rfl⟩ := h2; simp [PyData.eqv, deq]; done)
  | .int _, h1 => cases h1; cases e <;> first | (cases h2; done) | (cases h2; simp [PyData.eqv, deq]; done) | (simp only [pyD, Option.map_eq_some_iff] at h2; obtain ⟨ps, _, rfl⟩ := h2; simp [PyData.eqv, deq]; done)
  | .str _, h1 => cases h1; cases e <;> first | (cases h2; done) | (cases h2; simp [PyData.eqv, deq]; done) | (simp only [pyD, Option.map_eq_some_iff] at h2; obtain ⟨ps, _, rfl⟩ := h2; simp [PyData.eqv, deq]; done)
  | .lst xs, h1 =>
    simp only [pyD, Option.map_eq_some_iff] at h1
    obtain ⟨ps, g1, rfl⟩ := h1
    match e, h2 with
    | .lst ys, h2 =>
      simp only [pyD, Option.map_eq_some_iff] at h2
      obtain ⟨qs, g2, rfl⟩ := h2
      simp only [PyData.eqv, deq]
      exact deqs_of g1 g2
    | .tup ys, h2 =>
      simp only [pyD, Option.map_eq_some_iff] at h2
      obtain ⟨qs, h2, rfl⟩ := h2
      simp [PyData.eqv, deq]
    | .non, h2 => cases h2; simp [PyData.eqv, deq]
    | .bl _, h2 => cases h2; simp [PyData.eqv, deq]
    | .int _, h2 => cases h2; simp [PyData.eqv, deq]
    | .str _, h2 => cases h2; simp [PyData.eqv, deq]
  | .tup xs, h1 =>
    simp only [pyD, Option.map_eq_some_iff] at h1
    obtain ⟨ps, g1, rfl⟩ := h1
    match e, h2 with
    | .tup ys, h2 =>
      simp only [pyD, Option.map_eq_some_iff] at h2
      obtain ⟨qs, g2, rfl⟩ := h2
      simp only [PyData.eqv, deq]
      exact deqs_of g1 g2
    | .lst ys, h2 =>
      simp only [pyD, Option.map_eq_some_iff] at h2
      obtain ⟨qs, h2, rfl⟩ := h2
      simp [PyData.eqv, deq]
    | .non, h2 => cases h2; simp [PyData.eqv, deq]
    | .bl _, h2 => cases h2; simp [PyData.eqv, deq]
    | .int _, h2 => cases h2; simp [PyData.eqv, deq]
    | .str _, h2 => cases h2; simp [PyData.eqv, deq]
theorem deqs_of : ∀ {ds es : List D} {ps qs : List PyData}, pyDs ds = some ps → pyDs es = some qs → PyData.eqvAll ps qs = deqs ds es
  | [], [], _, _, h1, h2 => by cases h1; cases h2; simp [PyData.eqvAll, deqs]
  | [], e :: es, _, _, h1, h2 => by
    cases h1
    simp only [pyDs, Option.bind_eq_some_iff, Option.map_eq_some_iff] at h2
    obtain ⟨q, _, qs, _, rfl⟩ := h2
    simp [PyData.eqvAll, deqs]
  | d :: ds, [], _, _, h1, h2 => by
    cases h2
    simp only [pyDs, Option.bind_eq_some_iff, Option.map_eq_some_iff] at h1
    obtain ⟨q, _, qs, _, rfl⟩ := h1
    simp [PyData.eqvAll, deqs]
  | d :: ds, e :: es, _, _, h1, h2 => by
    simp only [pyDs, Option.bind_eq_some_iff, Option.map_eq_some_iff] at h1 h2
    obtain ⟨p, h3, ps, h4, rfl⟩ := h1
    obtain ⟨q, h5, qs, h6, rfl⟩ := h2
    simp only [PyData.eqvAll, deqs]
    rw [deq_of h3 h5, deqs_of h4 h6]
end
def eqD (neg : Bool) (x y : D) : Option D := if isDat x = true ∧ isDat y = true ∧ min (dep x) (dep y) ≤ 60 then some (.bl (xr neg (deq x y))) else none
theorem eq_ok {K : PySem.W.Frag} {neg : Bool} : R2D K (rEqP neg K) (eqD neg) := fun {F H v u x y z Q} s bx by' hz k => by
  unfold eqD at hz
  split at hz
  · next h =>
    obtain ⟨p, h1, h2⟩ := py_of h.1
    obtain ⟨q, h3, h4⟩ := py_of h.2.1
    refine eq_ok0 (z := z) s bx by' ?_ k
    unfold eqP0
    rw [h1, h3, Option.bind_some, Option.bind_some, h2, h4, if_pos h.2.2, deq_of h1 h3]
    exact hz
  · cases hz
/-! ### in -/
def rInP (neg : Bool) (K : PySem.W.Frag) : R2 := fun x y H Q => ∃ d es, Dp K H x d ∧ (Dp K H y (.list es) ∨ Dp K H y (.tuple es)) ∧ d.plain = true ∧ PyData.plainAll es = true ∧ min (PyData.depthAll es) d.depth ≤ 60 ∧ Q (.bl (xr neg (es.any fun z => PyData.eqv z d))) H
section
variable {X : Cx}
theorem op_inP (hu : X.A.units + 64 < cLine) : OpR X (compareOp .In) (rInP false X.K) := by
  intro pins s σ H x y v u Q I rx ry h
  obtain ⟨d, es, hd, he | he, sd, se, hz, q⟩ := h
  · obtain ⟨as, r1⟩ := Dp.reads I d x v hd rx
    obtain ⟨bs, r2⟩ := Dp.reads I _ y u he ry
    exact SeqAt.in_list_data r2 r1 se sd (by omega) ⟨.bl _, H, I, rel_bl (by simp), q⟩
  · obtain ⟨as, r1⟩ := Dp.reads I d x v hd rx
    obtain ⟨bs, r2⟩ := Dp.reads I _ y u he ry
    exact SeqAt.in_tuple_data r2 r1 se sd (by omega) ⟨.bl _, H, I, rel_bl (by simp), q⟩
theorem op_niP (hu : X.A.units + 64 < cLine) : OpR X (compareOp .NotIn) (rInP true X.K) := by
  intro pins s σ H x y v u Q I rx ry h
  obtain ⟨d, es, hd, he | he, sd, se, hz, q⟩ := h
  · obtain ⟨as, r1⟩ := Dp.reads I d x v hd rx
    obtain ⟨bs, r2⟩ := Dp.reads I _ y u he ry
    exact SeqAt.notIn_list_data r2 r1 se sd (by omega) ⟨.bl _, H, I, rel_bl (by simp), q⟩
  · obtain ⟨as, r1⟩ := Dp.reads I d x v hd rx
    obtain ⟨bs, r2⟩ := Dp.reads I _ y u he ry
    exact SeqAt.notIn_tuple_data r2 r1 se sd (by omega) ⟨.bl _, H, I, rel_bl (by simp), q⟩
end
def inSq (neg : Bool) (x : D) (ds : List D) : Option D := if isDat x = true ∧ isDats ds = true ∧ min (deps ds) (dep x) ≤ 60 then some (.bl (xr neg (ds.any fun z => deq z x))) else none
theorem any_deq {x : D} {p : PyData} (hp : pyD x = some p) : ∀ {ds : List D} {ps : List PyData}, pyDs ds = some ps → (ps.any fun z => PyData.eqv z p) = ds.any fun z => deq z x
  | [], _, h => by cases h; rfl
  | d :: ds, _, h => by
    simp only [pyDs, Option.bind_eq_some_iff, Option.map_eq_some_iff] at h
    obtain ⟨q, h1, qs, h2, rfl⟩ := h
    rw [List.any_cons, List.any_cons, deq_of h1 hp, any_deq hp h2]
/-- a sign in a text -/
def inTx (neg : Bool) (x : D) (z : Str) : Option D := match x with
  | .str ⟨⟨[c]⟩⟩ => some (.bl (xr neg (decide (c ∈ z.cps.toList))))
  | _ => none
def inD (neg : Bool) (x : D) : D → Option D
  | .lst ds => inSq neg x ds
  | .tup ds => inSq neg x ds
  | .str z => inTx neg x z
  | _ => none
def rSign (neg : Bool) : R2 := fun x y H Q => ∃ (c : Nat) (z : Str), x = .str ⟨#[c]⟩ ∧ y = .str z ∧ Q (.bl (xr neg (decide (c ∈ z.cps.toList)))) H
def rInA (neg : Bool) (K : PySem.W.Frag) : R2 := fun x y H Q => rInP neg K x y H Q ∨ rSign neg x y H Q
theorem OpR.imp {X : Cx} {f : Value → Value → Sem Value} {r r' : R2} (h : OpR X f r) (i : ∀ x y H Q, r' x y H Q → r x y H Q) : OpR X f r' := fun pins s σ H x y v u Q I rx ry q => h pins s σ H x y v u Q I rx ry (i x y H Q q)
theorem op_inA {X : Cx} (hu : X.A.units + 64 < cLine) : OpR X (compareOp .In) (rInA false X.K) := (op_inP hu).or (OpR.imp op_in_sign fun x y H Q ⟨c, z, e1, e2, q⟩ => ⟨c, z, e1, e2, by exact q⟩)
theorem op_niA {X : Cx} (hu : X.A.units + 64 < cLine) : OpR X (compareOp .NotIn) (rInA true X.K) := (op_niP hu).or (OpR.imp op_notIn_sign fun x y H Q ⟨c, z, e1, e2, q⟩ => ⟨c, z, e1, e2, by exact q⟩)
theorem inSq_ok {K : PySem.W.Frag} {neg : Bool} {F H : Hp} {v u : V} {x z : D} {y : D} {ds : List D} {Q : VK} (s : Same F H) (bx : BV K F H v x) (by' : BV K F H u y) (hy : y = .lst ds ∨ y = .tup ds) (hz : inSq neg x ds = some z)
    (k : ∀ v' F' H', Al F H F' H' → Rep K F' v' z → Q v' H') : rInA neg K v u H Q := by
  unfold inSq at hz
  split at hz
  · next h =>
    obtain ⟨p, h1, h2⟩ := py_of h.1
    obtain ⟨ps, h3, h4⟩ := py_ofs h.2.1
    cases hz
    refine .inl ⟨p, ps, bx.dp s h1, ?_, py_plain h1, py_plains h3, by rw [h2, h4]; exact h.2.2, by rw [any_deq h1 h3]; exact k _ F H .no (.bl _)⟩
    rcases hy with rfl | rfl
    · exact .inl (by'.dp s (by simp only [pyD, h3, Option.map_some]))
    · exact .inr (by'.dp s (by simp only [pyD, h3, Option.map_some]))
  · cases hz
theorem in_ok {K : PySem.W.Frag} {neg : Bool} : R2D K (rInA neg K) (inD neg) := fun {F H v u x y z Q} s bx by' hz k => by
  cases y <;> simp only [inD, reduceCtorEq] at hz
  case lst ds => exact inSq_ok s bx by' (.inl rfl) hz k
  case tup ds => exact inSq_ok s bx by' (.inr rfl) hz k
  case str t =>
    unfold inTx at hz
    split at hz
    · next c => cases hz; exact .inr ⟨c, t, bx.str, by'.str, k _ F H .no (.bl _)⟩
    · cases hz
/-! ### [i] -/
def signs (z : Str) : List D := z.cps.toList.map fun c => .str ⟨#[c]⟩
def ixD : D → D → Option D
  | .lst ds, .int i => (ixN ds.length i).bind fun j => ds[j]?
  | .tup ds, .int i => (ixN ds.length i).bind fun j => ds[j]?
  | .str z, .int i => if z.length ≤ 100000 then (ixN z.cps.toList.length i).bind fun j => (signs z)[j]? else none
  | _, _ => none
theorem ix_at {K : PySem.W.Frag} {F : Hp} {vs : List V} {ds : List D} {i : Int} {z : D} (r : Reps K F vs ds) (h : ((ixN ds.length i).bind fun j => ds[j]?) = some z) : ∃ v, atI vs i = some v ∧ Rep K F v z := by
  simp only [Option.bind_eq_some_iff] at h
  obtain ⟨j, h1, h2⟩ := h
  obtain ⟨v, h3, h4⟩ := r.get' h2
  refine ⟨v, ?_, h4⟩
  unfold atI
  rw [r.length, h1]
  exact h3
theorem ix_ok {K : PySem.W.Frag} : R2D K (rIx K) ixD := fun {F H v u x y z Q} s bx by' hz k => by
  cases x <;> cases y <;> simp only [ixD, reduceCtorEq] at hz
  case lst.int ds i =>
    obtain ⟨p, vs, rfl, h1, r⟩ := bx.lst s
    obtain ⟨w, h2, h3⟩ := ix_at r hz
    exact .inl ⟨p, vs, i, w, rfl, by'.int, SqL.of h1, h2, k _ F H .no h3⟩
  case tup.int ds i =>
    obtain ⟨p, vs, rfl, h1, r⟩ := bx.tup s
    obtain ⟨w, h2, h3⟩ := ix_at r hz
    exact .inr (.inl ⟨p, vs, i, w, rfl, by'.int, h1, h2, k _ F H .no h3⟩)
  case str.int t i =>
    split at hz
    · next h =>
      simp only [Option.bind_eq_some_iff] at hz
      obtain ⟨j, h1, h2⟩ := hz
      simp only [signs, List.getElem?_map, Option.map_eq_some_iff] at h2
      obtain ⟨c, h2, rfl⟩ := h2
      exact .inr (.inr ⟨t, i, c, bx.str, by'.int, Nat.le_trans h big_line, by unfold atI; rw [h1]; exact h2, k _ F H .no (.str _)⟩)
    · cases hz
end Q

set_option Elab.async false
set_option linter.all false
set_option maxRecDepth 100000
set_option maxHeartbeats 4000000
/-! operators, built-ins: rules over data, any kinds -/
namespace Q
open PySem PySem.Spec PyProof.Rows L2
section
variable {X : Cx} {c : Ctx} {e a b d : Expr} {es : List Expr} {pos p : Pos} {pa pb pd ba bb bd : Bool} {wa wb wd we : WE c.R} {j : Nat}
theorem de_add (ha : DE X c pa ba a wa) (hb : DE X c pb bb b wb) (hs : ba = false ∨ pb = true := by first | exact .inl rfl | exact .inr rfl) : DE X c (pa && pb) false (.BinOp a .Add b pos) (wOp addD wa wb) :=
  de_op (op_addA (X := X)) (by rw [ha.kk]; exact add_ok) ha hb hs
theorem de_sub (ha : DE X c pa ba a wa) (hb : DE X c pb bb b wb) (hs : ba = false ∨ pb = true := by first | exact .inl rfl | exact .inr rfl) : DE X c (pa && pb) false (.BinOp a .Sub b pos) (wOp subD wa wb) := de_op (op_sub (X := X)) sub_ok ha hb hs
theorem de_mod (ha : DE X c pa ba a wa) (hb : DE X c pb bb b wb) (hs : ba = false ∨ pb = true := by first | exact .inl rfl | exact .inr rfl) : DE X c (pa && pb) false (.BinOp a .Mod b pos) (wOp modD wa wb) := de_op (op_mod (X := X)) mod_ok ha hb hs
/-- a comparison, as a value and as a test -/
structure CmpR (X : Cx) (c : Ctx) (op : CmpOp) (g : D → D → Option D) : Prop where
  ex : ∃ r, OpR X (compareOp op) r ∧ R2D c.K r g
theorem c_lt : CmpR X c .Lt (cmpD fun i j => decide (i < j)) := ⟨_, op_lt, cmp_ok⟩
theorem c_le : CmpR X c .LtE (cmpD fun i j => decide (i ≤ j)) := ⟨_, op_le, cmp_ok⟩
theorem c_gt : CmpR X c .Gt (cmpD fun i j => decide (j < i)) := ⟨_, op_gt, cmp_ok⟩
theorem c_ge : CmpR X c .GtE (cmpD fun i j => decide (j ≤ i)) := ⟨_, op_ge, cmp_ok⟩
theorem c_eq (hr : Room j X.A) (hk : X.K = c.K := by rfl) : CmpR X c .Eq (eqD false) := ⟨_, op_eqP hr.units, by rw [hk]; exact eq_ok⟩
theorem c_ne (hr : Room j X.A) (hk : X.K = c.K := by rfl) : CmpR X c .NotEq (eqD true) := ⟨_, op_neP hr.units, by rw [hk]; exact eq_ok⟩
theorem c_in (hr : Room j X.A) (hk : X.K = c.K := by rfl) : CmpR X c .In (inD false) := ⟨_, op_inA hr.units, by rw [hk]; exact in_ok⟩
theorem c_ni (hr : Room j X.A) (hk : X.K = c.K := by rfl) : CmpR X c .NotIn (inD true) := ⟨_, op_niA hr.units, by rw [hk]; exact in_ok⟩
def isNonD : D → Option Bool
  | .non => some true
  | .raw _ => none
  | _ => some false
def isD (neg : Bool) (x : D) : D → Option D
  | .non => (isNonD x).map fun k => .bl (xr neg (k))
  | _ => none
theorem isN_of {K : PySem.W.Frag} {F H : Hp} {v : V} {x : D} {k : Bool} (h : BV K F H v x) (e : isNonD x = some k) : decide (v = .non) = k := by
  rcases h with r | ⟨rfl, o⟩
  · cases r <;> cases e <;> simp
  · cases x <;> cases e <;> simp [OwnAt] at o ⊢
theorem is_ok {K : PySem.W.Frag} : R2D K (fun x y H Q => y = .non ∧ Q (.bl (decide (x = .non))) H) (isD false) := fun {F H v u x y z Q} s bx by' hz k => by
  cases y <;> simp only [isD, reduceCtorEq, Option.map_eq_some_iff] at hz
  obtain ⟨b, h1, rfl⟩ := hz
  refine ⟨by'.non, ?_⟩
  rw [isN_of bx h1]
  exact k _ F H .no (.bl _)
theorem isn_ok {K : PySem.W.Frag} : R2D K (fun x y H Q => y = .non ∧ Q (.bl (!decide (x = .non))) H) (isD true) := fun {F H v u x y z Q} s bx by' hz k => by
  cases y <;> simp only [isD, reduceCtorEq, Option.map_eq_some_iff] at hz
  obtain ⟨b, h1, rfl⟩ := hz
  refine ⟨by'.non, ?_⟩
  rw [isN_of bx h1]
  exact k _ F H .no (.bl _)
theorem c_is : CmpR X c .Is (isD false) := ⟨_, op_isN, is_ok⟩
theorem c_isn : CmpR X c .IsNot (isD true) := ⟨_, op_notN, isn_ok⟩
theorem de_cm {op : CmpOp} {g : D → D → Option D} (ho : CmpR X c op g) (ha : DE X c pa ba a wa) (hb : DE X c pb bb b wb) (hm : behindInMarks op b = false := by rfl)
    (hs : ba = false ∨ pb = true := by first | exact .inl rfl | exact .inr rfl) : DE X c (pa && pb) false (.Compare a [op] [b] pos) (wOp g wa wb) := by
  obtain ⟨r, h1, h2⟩ := ho.ex
  exact de_cmp h1 h2 ha hb hm hs
theorem dt_cm {op : CmpOp} {g : D → D → Option D} (ho : CmpR X c op g) (ha : DE X c pa ba a wa) (hb : DE X c pb bb b wb) (hm : behindInMarks op b = false := by rfl)
    (hs : ba = false ∨ pb = true := by first | exact .inl rfl | exact .inr rfl) : DT X c (pa && pb) (.Compare a [op] [b] pos) (wTest (wOp g wa wb)) := by
  obtain ⟨r, h1, h2⟩ := ho.ex
  exact dt_cmp h1 h2 ha hb hm hs
/-- a op b op' d -/
def wChain {R : Rgn} (g g' : D → D → Option D) (wa wb wd : WE R) : WE R := fun ρ K => wa ρ fun x ρ1 => wb ρ1 fun y ρ2 => ∃ z, g x y = some (.bl z) ∧ if z = true then wd ρ2 fun w ρ3 => ∃ z', g' y w = some z' ∧ K z' ρ3 else K (.bl false) ρ2
theorem chain_ok {r r' : R2} {g g' : D → D → Option D} (h1 : R2D c.K r g) (h2 : R2D c.K r' g') {σ : L2.St} {H : Hp} {Q : VK} (h : liftE c true false (wChain g g' wa wb wd) σ H Q) (hc : pa = true ∧ pb = true ∧ pd = true) :
    tChain r r' (liftE c pa ba wa) (liftE c pb bb wb) (liftE c pd bd wd) σ H Q := by
  obtain ⟨rfl, rfl, rfl⟩ := hc
  obtain ⟨ρ, F, O, Kk, S, w, k⟩ := h
  refine ⟨ρ, F, O, _, S, w, fun x ρ1 v F1 H1 hk S1 fs1 ko1 g1 r1 => ⟨ρ1, F1, O, _, S1, hk, fun y ρ2 u F2 H2 ⟨z, hz, kz⟩ S2 fs2 ko2 g2 r2 => ?_⟩⟩
  obtain ⟨e1, q1⟩ := g1 rfl
  obtain ⟨e2, q2⟩ := g2 rfl
  subst e2
  subst e1
  have c1 : VRep c.K F2 σ ρ2.sl v x ba := r1.carry fs2 (.inr rfl)
  refine h1 S2.sub (c1.bv S2) (r2.bv S2) hz fun v' F3 H3 al rp => ?_
  have S3 := S2.grow (al.grow S2.sub)
  cases rp
  refine ⟨z, rfl, ?_⟩
  cases z with
  | false =>
    rw [if_neg (by decide)] at kz ⊢
    exact k _ _ _ F3 H3 kz S3 (fs1.trans (fs2.trans (al.fs S2.sub))) (fun q hq => by rw [ko_al S2 al q hq, ko2 q hq, ko1 q hq]) (fun _ => ⟨rfl, q1.trans (q2.trans (al.grow S2.sub))⟩) (.bl false)
  | true =>
    rw [if_pos rfl] at kz ⊢
    refine ⟨ρ2, F3, O, _, S3, kz, fun w' ρ4 v4 F4 H4 ⟨z', hz', kz'⟩ S4 fs4 ko4 g4 r4 => ?_⟩
    obtain ⟨e4, q4⟩ := g4 rfl
    subst e4
    have c2 : VRep c.K F4 σ ρ4.sl u y bb := r2.carry ((al.fs S2.sub).trans fs4) (.inr rfl)
    refine h2 S4.sub (c2.bv S4) (r4.bv S4) hz' fun v5 F5 H5 al5 rp5 => ?_
    exact k _ _ _ F5 H5 kz' (S4.grow (al5.grow S4.sub)) (fs1.trans (fs2.trans ((al.fs S2.sub).trans (fs4.trans (al5.fs S4.sub))))) (fun q hq => by rw [ko_al S4 al5 q hq, ko4 q hq, ko_al S2 al q hq, ko2 q hq, ko1 q hq])
      (fun _ => ⟨rfl, q1.trans (q2.trans ((al.grow S2.sub).trans (q4.trans (al5.grow S4.sub))))⟩) rp5
theorem de_chain {op op' : CmpOp} {g g' : D → D → Option D} (ho : CmpR X c op g) (ho' : CmpR X c op' g') (ha : DE X c pa ba a wa) (hb : DE X c pb bb b wb) (hd : DE X c pd bd d wd)
    (hc : pa = true ∧ pb = true ∧ pd = true := by exact ⟨rfl, rfl, rfl⟩) (hm : lastMarks [op, op'] [b, d] = false := by with_unfolding_all rfl) : DE X c true false (.Compare a [op, op'] [b, d] pos) (wChain g g' wa wb wd) := by
  obtain ⟨r, h1, h2⟩ := ho.ex
  obtain ⟨r', h1', h2'⟩ := ho'.ex
  exact ⟨(pe_chain h1 h1' ha.pe hb.pe hd.pe hm).imp fun σ H Q h => chain_ok h2 h2' h hc, ha.kk⟩
theorem dt_chain {op op' : CmpOp} {g g' : D → D → Option D} (ho : CmpR X c op g) (ho' : CmpR X c op' g') (ha : DE X c pa ba a wa) (hb : DE X c pb bb b wb) (hd : DE X c pd bd d wd)
    (hc : pa = true ∧ pb = true ∧ pd = true := by exact ⟨rfl, rfl, rfl⟩) (hm : lastMarks [op, op'] [b, d] = false := by with_unfolding_all rfl) : DT X c true (.Compare a [op, op'] [b, d] pos) (wTest (wChain g g' wa wb wd)) := by
  obtain ⟨r, h1, h2⟩ := ho.ex
  obtain ⟨r', h1', h2'⟩ := ho'.ex
  exact ⟨(pt_chain h1 h1' ha.pe hb.pe hd.pe hm).imp fun σ H Q h => chain_ok h2 h2' (test_ok (ba := false) h) hc⟩
/-! ### subscripts, slices -/
theorem de_ixA (ha : DE X c pa ba a wa) (hb : DE X c pb bb b wb) (hx : PlainIx b := by exact fun _ _ => rfl) (hs : ba = false ∨ pb = true := by first | exact .inl rfl | exact .inr rfl) : DE X c (pa && pb) false (.Subscript a b pos) (wOp ixD wa wb) :=
  de_ix (ix_seq (X := X)) (by rw [ha.kk]; exact ix_ok) ha hb hx hs
def wPart {R : Rgn} (w : Option (WE R)) (ρ : DS R) (K : Option Int → Prop) : Prop := match w with
  | none => K none
  | some w => w ρ fun x ρ1 => ∃ i, x = .int i ∧ ρ1 = ρ ∧ K (some i)
structure DP (X : Cx) (c : Ctx) (e : Option Expr) (w : Option (WE c.R)) : Prop where
  po : PO X e (fun σ H Q => ∃ (ρ : DS c.R) (F : Hp) (O : List Addr) (Kk : Option Int → Prop), St c F O σ ρ H ∧ wPart w ρ Kk ∧ ∀ o F' H', Kk o → St c F' O σ ρ H' → Same F F' → (∀ a ∈ O, H' a = H a) → Grow F H F' H' → Q o H')
theorem dp_no : DP X c none none := ⟨⟨fun pins s σ H Q I ⟨ρ, F, O, Kk, S, w, k⟩ => po_none.run pins s σ H Q I (k none F H w S (Same.refl _) (fun _ _ => rfl) (Grow.refl S.sub))⟩⟩
theorem dp_at (h : DE X c true ba e we) : DP X c (some e) (some we) := ⟨⟨fun pins s σ H Q I ⟨ρ, F, O, Kk, S, w, k⟩ => (po_some h.pe).run pins s σ H Q I
  ⟨ρ, F, O, _, S, w, fun x ρ1 v F1 H1 ⟨i, e1, e2, hk⟩ S1 fs1 ko1 g1 r1 => by subst e1; subst e2; exact ⟨i, (r1.bv S1).int, k (some i) F1 H1 hk S1 fs1 ko1 (g1 rfl).2⟩⟩⟩⟩
def cutD (xs : List D) (lo hi : Option Int) : List D := (xs.drop (HT.sIx xs.length 0 lo)).take (HT.sIx xs.length xs.length hi - HT.sIx xs.length 0 lo)
def slD (lo hi : Option Int) : D → Option D
  | .lst ds => some (.lst (cutD ds lo hi))
  | .tup ds => some (.tup (cutD ds lo hi))
  | .str z => if z.length ≤ 100000 then some (.str (cutS z lo hi)) else none
  | _ => none
def wSl {R : Rgn} (we : WE R) (lo hi : Option (WE R)) : WE R := fun ρ K => we ρ fun x ρ1 => wPart lo ρ1 fun l => wPart hi ρ1 fun h => ∃ z, slD l h x = some z ∧ K z ρ1
theorem Reps.cut {K : PySem.W.Frag} {F : Hp} {vs : List V} {ds : List D} (r : Reps K F vs ds) (lo hi : Option Int) : Reps K F (cutV vs lo hi) (cutD ds lo hi) := by
  unfold cutV cutD
  rw [r.length]
  exact (r.drop _).take _
theorem rst {K : PySem.W.Frag} {F H : Hp} {v : V} {x z : D} {lo hi : Option Int} {Q : VK} (s : Same F H) (bx : BV K F H v x) (hz : slD lo hi x = some z) (k : ∀ v' F' H', Al F H F' H' → Rep K F' v' z → Q v' H') :
    (rSlL K v lo hi H Q ∨ rSlA K v lo hi H Q) ∨ rSlS v lo hi H Q := by
  cases x <;> simp only [slD, reduceCtorEq] at hz
  case lst ds =>
    cases hz
    obtain ⟨p, vs, rfl, h1, r⟩ := bx.lst s
    exact .inl (.inl ⟨p, vs, rfl, SqL.of h1, fun l hl => k _ _ _ (Al.one hl) (.lst upd_same ((r.cut lo hi).same (Same.upd_at s hl)))⟩)
  case tup ds =>
    cases hz
    have f1 := bx.rt
    obtain ⟨p, vs, rfl, h1, r⟩ := bx.tup s
    refine .inl (.inr ⟨p, vs, rfl, h1, fun ⟨e1, e2⟩ => ?_, fun _ l hl => k _ _ _ (Al.one hl) (.tup (SqT.of upd_same) ((r.cut lo hi).same (Same.upd_at s hl)))⟩)
    have : cutD ds lo hi = ds := by
      unfold cutD
      rw [← r.length, e1, e2, List.drop_zero, Nat.sub_zero, r.length, List.take_length]
    rw [this] at k
    exact k _ F H .no f1
  case str t =>
    split at hz
    · next h => cases hz; exact .inr ⟨t, bx.str, Nat.le_trans h big_line, k _ F H .no (.str _)⟩
    · cases hz
theorem de_sl {lo hi : Option Expr} {wl wh : Option (WE c.R)} {p2 : Pos} (he : DE X c pa ba e we) (hl : DP X c lo wl) (hh : DP X c hi wh) : DE X c pa false (.Subscript e (.Slice lo hi none p2) pos) (wSl we wl wh) :=
  ⟨(pe_slice ((sl_list (X := X)).or sl_tupA |>.or sl_str) he.pe hl.po hh.po).imp fun σ H Q ⟨ρ, F, O, Kk, S, w, k⟩ => ⟨ρ, F, O, _, S, w, fun x ρ1 v F1 H1 hk S1 fs1 ko1 g1 r1 => ⟨ρ1, F1, O, _, S1, hk, fun l F2 H2 hk2 S2 fs2 ko2 g2 =>
    ⟨ρ1, F2, O, _, S2, hk2, fun h F3 H3 ⟨z, hz, hk3⟩ S3 fs3 ko3 g3 => by
      have c1 : VRep c.K F3 σ ρ1.sl v x ba := (r1.carry fs2 (.inr rfl)).carry fs3 (.inr rfl)
      rw [he.kk]
      exact rst S3.sub (c1.bv S3) hz fun v' F' H' al rp => k z ρ1 v' F' H' hk3 (S3.grow (al.grow S3.sub)) (fs1.trans (fs2.trans (fs3.trans (al.fs S3.sub)))) (fun q hq => by rw [ko_al S3 al q hq, ko3 q hq, ko2 q hq, ko1 q hq])
        (fun e => ⟨(g1 e).1, (g1 e).2.trans (g2.trans (g3.trans (al.grow S3.sub)))⟩) rp⟩⟩⟩, he.kk⟩
/-! ### len, list, tuple, all, any -/
def lenD : D → Option D
  | .lst ds => some (.int ds.length)
  | .tup ds => some (.int ds.length)
  | .str z => if z.length ≤ 100000 then some (.int z.length) else none
  | .dct ks _ => some (.int ks.length)
  | .dtt ks _ => some (.int ks.length)
  | _ => none
theorem Reps.len2 {K : PySem.W.Frag} {F : Hp} {α : Type} {kvs : List (α × V)} {ks ds : List D} {f : α → D} (n : ks = kvs.map fun p => f p.1) : ks.length = kvs.length := by rw [n, List.length_map]
def rLenA (K : PySem.W.Frag) : List V → Hp → VK → Prop := fun xs H Q => (((∃ p ys, xs = [.ref p] ∧ (SqL K H p ys ∨ SqT K H p ys) ∧ Q (.int ys.length) H) ∨ (∃ z, xs = [.str z] ∧ z.length ≤ sizeLine ∧ Q (.int z.length) H)) ∨
  (∃ a kvs, xs = [V.ref a] ∧ H a = some (.dK kvs) ∧ Q (.int kvs.length) H)) ∨ rLenT xs H Q
theorem call_lenA : CallR X (.builtin "len") (rLenA X.K) := ((call_len_seq.or call_len_str).or call_lenD).or call_len_dT
theorem len_ok {K : PySem.W.Frag} : R1D K (rLenA K) lenD := fun {F H v x z Q} s bx hz k => by
  cases x <;> simp only [lenD, reduceCtorEq] at hz
  case lst ds =>
    cases hz
    obtain ⟨p, vs, rfl, h1, r⟩ := bx.lst s
    exact .inl (.inl (.inl ⟨p, vs, rfl, .inl (SqL.of h1), by rw [r.length]; exact k _ F H .no (.int _)⟩))
  case tup ds =>
    cases hz
    obtain ⟨p, vs, rfl, h1, r⟩ := bx.tup s
    exact .inl (.inl (.inl ⟨p, vs, rfl, .inr h1, by rw [r.length]; exact k _ F H .no (.int _)⟩))
  case str t =>
    split at hz
    · next h => cases hz; exact .inl (.inl (.inr ⟨t, by rw [bx.str], Nat.le_trans h big_line, k _ F H .no (.int _)⟩))
    · cases hz
  case dct ks ds =>
    cases hz
    obtain ⟨p, kvs, rfl, h1, n, r⟩ := bx.dct s
    exact .inl (.inr ⟨p, kvs, rfl, h1, by rw [← Reps.len2 (K := K) (F := F) (ds := ds) n]; exact k _ F H .no (.int _)⟩)
  case dtt ks ds =>
    cases hz
    obtain ⟨p, kvs, rfl, h1, n, r⟩ := bx.dtt s
    exact .inr ⟨p, kvs, rfl, h1, by rw [← Reps.len2 (K := K) (F := F) (ds := ds) n]; exact k _ F H .no (.int _)⟩
theorem de_len (hm : X.mg "len" = none) (ha : DE X c pa ba e we) (hg : Gl X "len" := by rfl)
    (he : starEach [e] X.env = (false, eval e X.env) :: starEach [] X.env := by rfl) (hpl : (backTo pos (starEach [] X.env)).any (·.1) = false := by rfl) : DE X c pa false (.Call (.Name "len" p) [e] [] pos) (wUn lenD we) :=
  de_c1 (call_lenA (X := X)) (by rw [ha.kk]; exact len_ok) hm ha hg (by decide +kernel) (by decide) (by decide) he hpl
def tupleD : D → Option D
  | .lst ds => some (.tup ds)
  | .tup ds => some (.tup ds)
  | _ => none
theorem tuple_ok {K : PySem.W.Frag} : R1D K (fun xs H Q => ∃ p ys, xs = [.ref p] ∧ ((SqL K H p ys ∧ ∀ l, H l = none → Q (.ref l) (upd H l (.tup ys))) ∨ (SqT K H p ys ∧ Q (.ref p) H))) tupleD := fun {F H v x z Q} s bx hz k => by
  cases x <;> simp only [tupleD, reduceCtorEq] at hz
  case lst ds =>
    cases hz
    obtain ⟨p, vs, rfl, h1, r⟩ := bx.lst s
    exact ⟨p, vs, rfl, .inl ⟨SqL.of h1, fun l hl => k _ _ _ (Al.one hl) (.tup (SqT.of upd_same) (r.same (Same.upd_at s hl)))⟩⟩
  case tup ds =>
    cases hz
    have f1 := bx.rt
    obtain ⟨p, vs, rfl, h1, r⟩ := bx.tup s
    exact ⟨p, vs, rfl, .inr ⟨h1, k _ F H .no f1⟩⟩
theorem de_tuple (hm : X.mg "tuple" = none) (ha : DE X c pa ba e we) (hg : Gl X "tuple" := by rfl)
    (he : starEach [e] X.env = (false, eval e X.env) :: starEach [] X.env := by rfl) (hpl : (backTo pos (starEach [] X.env)).any (·.1) = false := by rfl) : DE X c pa false (.Call (.Name "tuple" p) [e] [] pos) (wUn tupleD we) :=
  de_t1 (call_tuple_of (X := X)) (by rw [ha.kk]; exact tuple_ok) hm ha hg (by decide +kernel) (by decide) (by decide) he hpl
def listD : D → Option D
  | .lst ds => some (.lst ds)
  | .tup ds => some (.lst ds)
  | _ => none
theorem list_ok {K : PySem.W.Frag} : R1F K (fun xs H Q => ∃ p ys, xs = [.ref p] ∧ (SqL K H p ys ∨ SqT K H p ys) ∧ ∀ l, H l = none → Q (.ref l) (upd H l (.lst ys))) listD := fun {F H v x z Q} s bx hz k => by
  cases x <;> simp only [listD, reduceCtorEq] at hz
  case lst ds =>
    cases hz
    obtain ⟨p, vs, rfl, h1, r⟩ := bx.lst s
    exact ⟨p, vs, rfl, .inl (SqL.of h1), fun l hl => k l (.lst vs) hl r⟩
  case tup ds =>
    cases hz
    obtain ⟨p, vs, rfl, h1, r⟩ := bx.tup s
    exact ⟨p, vs, rfl, .inr h1, fun l hl => k l (.lst vs) hl r⟩
theorem fe_list (hm : X.mg "list" = none) (ha : DE X c pa ba e we) (hg : Gl X "list" := by rfl)
    (he : starEach [e] X.env = (false, eval e X.env) :: starEach [] X.env := by rfl) (hpl : (backTo pos (starEach [] X.env)).any (·.1) = false := by rfl) : FE X c pa (.Call (.Name "list" p) [e] [] pos) (wUn listD we) :=
  fe_t1 (call_list_of (X := X)) (by rw [ha.kk]; exact list_ok) hm ha hg (by decide +kernel) (by decide) (by decide) he hpl
def blsD : List D → Option (List Bool)
  | [] => some []
  | .bl b :: ds => (blsD ds).map fun bs => b :: bs
  | _ :: _ => none
theorem bls_of {K : PySem.W.Frag} {F : Hp} : ∀ {vs : List V} {ds : List D} {bs : List Bool}, Reps K F vs ds → blsD ds = some bs → vs = bs.map V.bl
  | _, _, _, .nil, h => by cases h; rfl
  | _, .bl b :: _, _, .cons r t, h => by
    simp only [blsD, Option.map_eq_some_iff] at h
    obtain ⟨bs, h1, rfl⟩ := h
    cases r
    rw [bls_of t h1]; rfl
  | _, .non :: _, _, .cons _ _, h => by cases h
  | _, .int _ :: _, _, .cons _ _, h => by cases h
  | _, .str _ :: _, _, .cons _ _, h => by cases h
  | _, .lst _ :: _, _, .cons _ _, h => by cases h
  | _, .tup _ :: _, _, .cons _ _, h => by cases h
  | _, .dct _ _ :: _, _, .cons _ _, h => by cases h
  | _, .dtt _ _ :: _, _, .cons _ _, h => by cases h
  | _, .ins _ _ _ :: _, _, .cons _ _, h => by cases h
  | _, .raw _ :: _, _, .cons _ _, h => by cases h
def allD : D → Option D
  | .lst ds => (blsD ds).map fun bs => .bl (bs.all id)
  | _ => none
def anyD : D → Option D
  | .lst ds => (blsD ds).map fun bs => .bl (bs.any id)
  | _ => none
theorem all_ok {K : PySem.W.Frag} : R1D K (rAll K) allD := fun {F H v x z Q} s bx hz k => by
  cases x <;> simp only [allD, reduceCtorEq, Option.map_eq_some_iff] at hz
  obtain ⟨bs, h2, rfl⟩ := hz
  obtain ⟨p, vs, rfl, h1, r⟩ := bx.lst s
  have e := bls_of r h2
  subst e
  exact ⟨p, bs, rfl, SqL.of h1, k _ F H .no (.bl _)⟩
theorem any_ok {K : PySem.W.Frag} : R1D K (rAny K) anyD := fun {F H v x z Q} s bx hz k => by
  cases x <;> simp only [anyD, reduceCtorEq, Option.map_eq_some_iff] at hz
  obtain ⟨bs, h2, rfl⟩ := hz
  obtain ⟨p, vs, rfl, h1, r⟩ := bx.lst s
  have e := bls_of r h2
  subst e
  exact ⟨p, bs, rfl, SqL.of h1, k _ F H .no (.bl _)⟩
theorem de_all (hm : X.mg "all" = none) (ha : DE X c pa ba e we) (hc : X.calm = true := by rfl) (hg : Gl X "all" := by rfl)
    (he : starEach [e] X.env = (false, eval e X.env) :: starEach [] X.env := by rfl) (hpl : (backTo pos (starEach [] X.env)).any (·.1) = false := by rfl) : DE X c pa false (.Call (.Name "all" p) [e] [] pos) (wUn allD we) :=
  de_c1 (cr_all (X := X) hc) (by rw [ha.kk]; exact all_ok) hm ha hg (by decide +kernel) (by decide) (by decide) he hpl
theorem de_any (hm : X.mg "any" = none) (ha : DE X c pa ba e we) (hc : X.calm = true := by rfl) (hg : Gl X "any" := by rfl)
    (he : starEach [e] X.env = (false, eval e X.env) :: starEach [] X.env := by rfl) (hpl : (backTo pos (starEach [] X.env)).any (·.1) = false := by rfl) : DE X c pa false (.Call (.Name "any" p) [e] [] pos) (wUn anyD we) :=
  de_c1 (cr_any (X := X) hc) (by rw [ha.kk]; exact any_ok) hm ha hg (by decide +kernel) (by decide) (by decide) he hpl
/-! ### isinstance with built-in types -/
def tyD : D → Option String
  | .non => some "NoneType"
  | .bl _ => some "bool"
  | .int _ => some "int"
  | .str _ => some "str"
  | .lst _ => some "list"
  | .tup _ => some "tuple"
  | .dct _ _ => some "dict"
  | .dtt _ _ => some "dict"
  | _ => none
theorem ty_of {K : PySem.W.Frag} {F H : Hp} {v : V} {x : D} {t : String} (s : Same F H) (h : BV K F H v x) (e : tyD x = some t) : TyX K H v (.type t) := by
  cases x <;> cases e
  case non => rw [h.non]; exact .base .non
  case bl b => rw [h.bl]; exact .base (.bl b)
  case int b => rw [h.int]; exact .base (.int b)
  case str b => rw [h.str]; exact .base (.str b)
  case lst ds => obtain ⟨p, vs, rfl, h1, r⟩ := h.lst s; exact .base (.lst h1)
  case tup ds =>
    obtain ⟨p, vs, rfl, h1, r⟩ := h.tup s
    rcases h1 with (h1 | ⟨o, h1⟩) | h1
    · exact .base (.tup h1)
    · exact .fTuple h1
    · obtain ⟨o, its, n, e, cc, _⟩ := h1
      exact .kTuple e cc
  case dct ks ds =>
    obtain ⟨p, kvs, rfl, h1, n, r⟩ := h.dct s
    exact .base (.dK h1)
  case dtt ks ds =>
    obtain ⟨p, kvs, rfl, h1, n, r⟩ := h.dtt s
    exact .base (.dT h1)
end
end Q

set_option Elab.async false
set_option linter.all false
set_option maxRecDepth 100000
set_option maxHeartbeats 4000000
/-! isinstance, names of the module, targets, what is gone through, comprehensions -/
namespace Q
open PySem PySem.Spec PyProof.Rows L2
/-! ### isinstance -/
inductive Ty where | non | bool | int | str | list | tuple | dict
deriving DecidableEq
def Ty.nm : Ty → String
  | .non => "NoneType" | .bool => "bool" | .int => "int" | .str => "str" | .list => "list" | .tuple => "tuple" | .dict => "dict"
def kD2 : D → Option Ty
  | .non => some .non
  | .bl _ => some .bool
  | .int _ => some .int
  | .str _ => some .str
  | .lst _ => some .list
  | .tup _ => some .tuple
  | .dct _ _ => some .dict
  | .dtt _ _ => some .dict
  | _ => none
def isTy : Ty → Ty → Bool
  | .bool, .int => true
  | a, b => decide (a = b)
def isaD (ns : List Ty) (x : D) : Option D := (kD2 x).map fun t => .bl (ns.any (isTy t))
theorem kit_tt {K : PySem.W.Frag} (a b : Ty) : PySem.W.kitOne K (.type a.nm) (.type b.nm) = some (isTy a b) := kit_ty (by cases a <;> cases b <;> decide +kernel)
theorem kit_ts {K : PySem.W.Frag} (a : Ty) : ∀ bs : List Ty, PySem.W.kitAny K (.type a.nm) (bs.map fun b : Ty => Value.type b.nm) = some (bs.any (isTy a))
  | [] => rfl
  | b :: bs => by
    show (match PySem.W.kitOne K (.type a.nm) (.type b.nm) with | some true => some true | some false => PySem.W.kitAny K (.type a.nm) (bs.map fun b : Ty => Value.type b.nm) | none => none) = _
    rw [kit_tt, kit_ts a bs, List.any_cons]
    cases isTy a b <;> rfl
theorem ty_of2 {K : PySem.W.Frag} {F H : Hp} {v : V} {x : D} {t : Ty} (s : Same F H) (h : BV K F H v x) (e : kD2 x = some t) : TyX K H v (.type t.nm) := by
  cases x <;> cases e <;> exact ty_of s h rfl
section
variable {X : Cx} {c : Ctx} {e a b d : Expr} {es : List Expr} {pos p p2 p3 : Pos} {pa pb pd ba bb bd : Bool} {wa wb wd we : WE c.R} {j : Nat}
/-- the name of a built-in type -/
structure TyN (X : Cx) (x : Str) (t : Ty) : Prop where
  g : Gl X x
  m : X.mg x = none
  v : bootBuiltins x = some (.type t.nm)
  n : x ≠ "__name__" := by decide
  d : (x == ("__debug__" : Str)) = false := by decide
theorem TyN.pe {x : Str} {t : Ty} (h : TyN X x t) : PE X (.Name x pos) (tC (.ty t.nm)) := pe_bltn h.g h.m h.v rfl h.n h.d
theorem isa_ok {F H : Hp} {v : V} {x z : D} {t : Ty} {Q : VK} (s : Same F H) (bx : BV c.K F H v x) (hz : isaD [t] x = some z) (k : Rep c.K F (.bl (isTy ((kD2 x).getD .non) t)) z → Q (.bl (isTy ((kD2 x).getD .non) t)) H) : rIsi c.K [v, .ty t.nm] H Q := by
  simp only [isaD, Option.map_eq_some_iff] at hz
  obtain ⟨u, h1, rfl⟩ := hz
  have k := k (by rw [h1]; simp only [Option.getD_some, List.any_cons, List.any_nil, Bool.or_false]; exact .bl _)
  rw [h1] at k
  exact ⟨v, _, _, _, _, rfl, .ty _, ty_of2 s bx h1, kit_tt u t, k⟩
theorem de_is1 {x : Str} {t : Ty} (hm : X.mg "isinstance" = none) (ht : TyN X x t) (he : DE X c pa ba e we) (hg : Gl X "isinstance" := by rfl)
    (he1 : starEach [e, .Name x p2] X.env = (false, eval e X.env) :: starEach [.Name x p2] X.env := by rfl) (he2 : starEach [.Name x p2] X.env = (false, eval (.Name x p2) X.env) :: starEach [] X.env := by rfl)
    (hpl : (backTo pos (starEach [.Name x p2] X.env)).any (·.1) = false := by rfl) : DE X c pa false (.Call (.Name "isinstance" p) [e, .Name x p2] [] pos) (wUn (isaD [t]) we) :=
  ⟨(pe_callB (call_isi (X := X)) hg hm (by decide +kernel) (pa_cons he.pe (pa_cons ht.pe pa_nil he2) he1) (by decide) (by decide) he1 hpl).imp fun σ H Q ⟨ρ, F, O, Kk, S, w, k⟩ => ⟨ρ, F, O, _, S, w, fun x ρ1 v F1 H1 ⟨z, hz, hk⟩ S1 fs1 ko1 g1 r1 => by
    rw [he.kk]
    exact isa_ok S1.sub (r1.bv S1) hz fun rp => k z ρ1 _ F1 H1 hk S1 fs1 ko1 g1 rp⟩, he.kk⟩
/-- several types -/
structure TyNs (X : Cx) (es : List Expr) (ns : List Ty) : Prop where
  pa : PA X es (fun _ H Q => Q (ns.map fun t => V.ty t.nm) H)
theorem tns_nil : TyNs X [] [] := ⟨pa_nil⟩
theorem tns_cons {x : Str} {t : Ty} {ns : List Ty} (ht : TyN X x t) (hs : TyNs X es ns) (he : starEach (.Name x p :: es) X.env = (false, eval (.Name x p) X.env) :: starEach es X.env := by rfl) : TyNs X (.Name x p :: es) (t :: ns) :=
  ⟨pa_cons ht.pe hs.pa he⟩
theorem clsV_ns : ∀ ns : List Ty, Paired ClsV (ns.map fun t => V.ty t.nm) (ns.map fun t => Value.type t.nm)
  | [] => .nil
  | t :: ns => .cons (.ty _) (clsV_ns ns)
theorem de_isN {ns : List Ty} {kk} (hm : X.mg "isinstance" = none) (ht : TyNs X es ns) (he : DE X c pa ba e we) (hl : ns.length ≤ 10 := by decide) (hg : Gl X "isinstance" := by rfl)
    (he1 : starEach [e, .Tuple es kk p2] X.env = (false, eval e X.env) :: starEach [.Tuple es kk p2] X.env := by rfl) (he2 : starEach [.Tuple es kk p2] X.env = (false, eval (.Tuple es kk p2) X.env) :: starEach [] X.env := by rfl)
    (hpl : (backTo pos (starEach [.Tuple es kk p2] X.env)).any (·.1) = false := by rfl) : DE X c pa false (.Call (.Name "isinstance" p) [e, .Tuple es kk p2] [] pos) (wUn (isaD ns) we) :=
  ⟨(pe_callB (call_isiT (X := X)) hg hm (by decide +kernel) (pa_cons he.pe (pa_cons (pe_tup ht.pa) pa_nil he2) he1) (by decide) (by decide) he1 hpl).imp fun σ H Q ⟨ρ, F, O, Kk, S, w, k⟩ => ⟨ρ, F, O, _, S, w, fun x ρ1 v F1 H1 ⟨z, hz, hk⟩ S1 fs1 ko1 g1 r1 => by
    refine ⟨by rw [List.length_map]; exact Nat.le_trans hl (Nat.le_trans (by decide) big_line), fun q hq => ?_⟩
    simp only [isaD, Option.map_eq_some_iff] at hz
    obtain ⟨u, h1, rfl⟩ := hz
    have al : Al F1 H1 (upd F1 q (.tup (ns.map fun t => V.ty t.nm))) (upd H1 q (.tup (ns.map fun t => V.ty t.nm))) := Al.one hq
    have gr := al.grow S1.sub
    have S2 := S1.grow gr
    rw [he.kk]
    exact ⟨v, q, _, _, _, _, rfl, upd_same, clsV_ns ns, ty_of2 S2.sub ((r1.grow gr.fs).bv S2) h1, kit_ts u ns, k _ ρ1 _ _ _ hk S2 (fs1.trans gr.fs) (fun x hx => by rw [ko_upd S1 hq x hx]; exact ko1 x hx) (fun e => ⟨(g1 e).1, (g1 e).2.trans gr⟩) (.bl _)⟩⟩, he.kk⟩
/-! ### names of the module -/
structure GlD (K : PySem.W.Frag) (mg : Str → Option Value) (x : Str) (d : D) : Prop where
  ex : ∃ u v, mg x = some u ∧ L2.RelV v u ∧ ∀ F, Rep K F v d
theorem de_g {x : Str} {d : D} (h : GlD c.K X.mg x d) (hk : X.K = c.K := by rfl) (hg : Gl X x := by rfl) (hd : (x == ("__debug__" : Str)) = false := by decide) : DE X c true false (.Name x pos) (wC c.R d) := by
  obtain ⟨u, v, h1, h2, h3⟩ := h.ex
  exact de_of_c (pe_glob hg h1 h2 hd) h3 hk
end
/-! ### targets -/
def Wp (ts : List Nat) (σ σ' : L2.St) : Prop := ∀ vs : List Nat, (∀ i ∈ ts, i ∈ vs) → wipe σ' vs = wipe σ vs
theorem wipe_out' {σ : L2.St} {i : Nat} {v : Option V} : ∀ {vs : List Nat}, i ∈ vs → wipe (σ.set i v) vs = wipe σ vs
  | [], h => by cases h
  | j :: vs, h => by
    by_cases e : i = j
    · subst e
      by_cases m : i ∈ vs
      · show (wipe (σ.set i v) vs).set i none = (wipe σ vs).set i none
        rw [wipe_out' m]
      · apply List.ext_getElem?
        intro k
        show ((wipe (σ.set i v) vs).set i none)[k]? = ((wipe σ vs).set i none)[k]?
        rw [set_get, set_get, wipe_length, wipe_length, List.length_set]
        by_cases q : i = k
        · rw [if_pos q, if_pos q]
        · rw [if_neg q, if_neg q]
          by_cases m : k ∈ vs
          · clear h
            have : ∀ us : List Nat, k ∈ us → ∀ τ τ' : L2.St, τ.length = τ'.length → (wipe τ us)[k]? = (wipe τ' us)[k]? := by
              intro us
              induction us with
              | nil => intro h; cases h
              | cons u us ih =>
                intro h τ τ' hl
                show ((wipe τ us).set u none)[k]? = ((wipe τ' us).set u none)[k]?
                rw [set_get, set_get, wipe_length, wipe_length, hl]
                by_cases z : u = k
                · rw [if_pos z, if_pos z]
                · rw [if_neg z, if_neg z]
                  rcases List.mem_cons.mp h with m | m
                  · exact absurd m.symm z
                  · exact ih m τ τ' hl
            exact this vs m _ _ (by rw [List.length_set])
          · rw [wipe_out m, wipe_out m, set_get, if_neg q]
    · have m : i ∈ vs := (List.mem_cons.mp h).resolve_left e
      show (wipe (σ.set i v) vs).set j none = (wipe σ vs).set j none
      rw [wipe_out' m]
abbrev WG (R : Rgn) := D → DS R → (DS R → Prop) → Prop
abbrev WGs (R : Rgn) := List D → DS R → (DS R → Prop) → Prop
def liftG (c : Ctx) (ts : List Nat) (g : WG c.R) : TG := fun v σ H Q => ∃ (ρ : DS c.R) (F : Hp) (O : List Addr) (Kk : DS c.R → Prop) (d : D), St c F O σ ρ H ∧ Rep c.K F v d ∧ g d ρ Kk ∧ ∀ ρ' σ', Kk ρ' → St c F O σ' ρ' H → Wp ts σ σ' → Q σ' H
def liftGs (c : Ctx) (ts : List Nat) (g : WGs c.R) : TGs := fun vs σ H Q => ∃ (ρ : DS c.R) (F : Hp) (O : List Addr) (Kk : DS c.R → Prop) (ds : List D), St c F O σ ρ H ∧ Reps c.K F vs ds ∧ g ds ρ Kk ∧ ∀ ρ' σ', Kk ρ' → St c F O σ' ρ' H → Wp ts σ σ' → Q σ' H
theorem _root_.L2.PG.imp {X : Cx} {e : Expr} {t u : TG} (h : PG X e t) (i : ∀ v σ H Q, u v σ H Q → t v σ H Q) : PG X e u := ⟨fun pins s σ H v w Q I r q => h.run pins s σ H v w Q I r (i v σ H Q q)⟩
theorem _root_.L2.PGs.imp {X : Cx} {e : List Expr} {t u : TGs} (h : PGs X e t) (i : ∀ v σ H Q, u v σ H Q → t v σ H Q) : PGs X e u := ⟨fun pins s σ H v w Q I r q => h.run pins s σ H v w Q I r (i v σ H Q q)⟩
theorem _root_.L2.PI.imp {X : Cx} {tg e : Expr} {t u : TI} (h : PI X tg e t) (i : ∀ σ H Q, u σ H Q → t σ H Q) : PI X tg e u := ⟨fun pins s σ H Q I q => h.run pins s σ H Q I (i σ H Q q)⟩
theorem _root_.L2.PI.or {X : Cx} {tg e : Expr} {t u : TI} (h : PI X tg e t) (k : PI X tg e u) : PI X tg e (fun σ H R => t σ H R ∨ u σ H R) := ⟨fun pins s σ H Q I q => q.elim (h.run pins s σ H Q I) (k.run pins s σ H Q I)⟩
structure DG (X : Cx) (c : Ctx) (e : Expr) (ts : List Nat) (g : WG c.R) : Prop where
  pg : PG X e (liftG c ts g)
structure DGs (X : Cx) (c : Ctx) (es : List Expr) (ts : List Nat) (g : WGs c.R) : Prop where
  pgs : PGs X es (liftGs c ts g)
section
variable {X : Cx} {c : Ctx} {e : Expr} {es : List Expr} {pos p : Pos} {ts us : List Nat} {g : WG c.R} {gs : WGs c.R}
def gNm {R : Rgn} (i : Nat) : WG R := fun d ρ K => K (ρ.put i (some (.fz d)))
theorem dg_name {x : Str} {i : Nat} (hN : X.N.Nodup) (hi : X.N[i]? = some x := by rfl) (hx : Loc X.env.scope x := by first | exact Or.inl rfl | exact Or.inr rfl)
    (hf : X.fn x = true ∨ X.env.scope.names.lookup x = some .local := by first | exact .inl rfl | exact .inr rfl | assumption) : DG X c (.Name x pos) [i] (gNm i) :=
  ⟨(pg_name hN hi hx hf).imp fun v σ H Q ⟨ρ, F, O, Kk, d, S, r, w, k⟩ => k _ _ w (S.setF r i) fun vs h => wipe_out' (h i (by simp))⟩
def gNl {R : Rgn} : WGs R := fun ds ρ K => ds = [] ∧ K ρ
def gCs {R : Rgn} (g : WG R) (gs : WGs R) : WGs R := fun ds ρ K => ∃ d es, ds = d :: es ∧ g d ρ fun ρ1 => gs es ρ1 K
theorem dgs_nil : DGs X c [] [] gNl := ⟨pgs_nil.imp fun vs σ H Q ⟨ρ, F, O, Kk, ds, S, r, ⟨e, w⟩, k⟩ => by subst e; cases r; exact ⟨rfl, k ρ σ w S fun _ _ => rfl⟩⟩
theorem dgs_cons (h1 : DG X c e ts g) (h2 : DGs X c es us gs) (hs : (assignEach (e :: es) X.env).map (·.2) = assign e X.env :: (assignEach es X.env).map (·.2) := by rfl) : DGs X c (e :: es) (ts ++ us) (gCs g gs) :=
  ⟨(pgs_cons h1.pg h2.pgs hs).imp fun vs σ H Q ⟨ρ, F, O, Kk, ds, S, r, ⟨d, ds', e, w⟩, k⟩ => by
    subst e
    cases r with
    | cons r1 r2 =>
      exact ⟨_, _, rfl, ρ, F, O, _, d, S, r1, w, fun ρ1 σ1 hk S1 w1 => ⟨ρ1, F, O, Kk, ds', S1, r2, hk, fun ρ2 σ2 hk2 S2 w2 => k ρ2 σ2 hk2 S2 fun vs h => by
        rw [w2 vs fun i m => h i (List.mem_append.mpr (.inr m)), w1 vs fun i m => h i (List.mem_append.mpr (.inl m))]⟩⟩⟩
def gTp {R : Rgn} (n : Nat) (gs : WGs R) : WG R := fun d ρ K => ∃ ds, d = .tup ds ∧ ds.length = n ∧ gs ds ρ K
theorem dg_tup {kk : Nat} {n : Nat} (h : DGs X c es us gs) (hk : X.K = c.K := by rfl) (hc : X.calm = true := by rfl) (hn : (assignEach es X.env).length = n := by rfl) (hst : (assignEach es X.env).findIdx? (·.1) = none := by rfl) : DG X c (.Tuple es kk pos) us (gTp n gs) :=
  ⟨(pg_tup hc h.pgs hn hst).imp fun v σ H Q ⟨ρ, F, O, Kk, d, S, r, ⟨ds, e, hl, w⟩, k⟩ => by
    subst e
    cases r with
    | tup h1 r1 => rw [hk]; exact ⟨_, _, rfl, SqT.same S.sub h1, by rw [r1.length]; exact hl, ρ, F, O, Kk, ds, S, r1, w, k⟩⟩
/-- target = e -/
def sAsg {R : Rgn} (we : WE R) (g : WG R) : WS R := fun D ρ => we ρ fun d ρ1 => g d ρ1 D.nx
theorem ds_asg {fr pa : Bool} {we : WE c.R} {tg : Expr} (he : DE X c pa false e we) (hg : DG X c tg ts g) (hs : swapsWithSole [tg] e pos.line X.env = pure false := by rfl) (hw : swappedStores [tg] e X.env = pure none := by rfl) (h1 : (assignEach [tg] X.env).map (·.2) = [assign tg X.env] := by rfl) : DS1 X c fr (.Assign [tg] e pos) (sAsg we g) :=
  ⟨(ps_asg he.pe hg.pg hs hw h1).imp fun E σ H ⟨ρ, F, Dk, S, w, k1, k2, k3, k4⟩ => ⟨ρ, F, [], _, S, w, fun d ρ1 v F1 H1 hk S1 fs1 ko1 g1 r1 => ⟨ρ1, F1, [], _, d, S1, r1, hk, fun ρ2 σ2 hk2 S2 _ => k1 ρ2 σ2 F1 H1 hk2 S2 fs1⟩⟩⟩
end
end Q

set_option Elab.async false
set_option linter.all false
set_option maxRecDepth 100000
set_option maxHeartbeats 4000000
/-! going through things; comprehensions -/
namespace Q
open PySem PySem.Spec PyProof.Rows L2
/-- J hands out the data ds, one after another, as long as what was data stays -/
structure Walks (K : PySem.W.Frag) (F0 : Hp) (J : It) (ds : List D) : Prop where
  go : ∀ F H i, Same F0 F → Same F H → i < ds.length → J.go i H ∧ ∀ x H', J.yld i H x H' → ∃ d F', ds[i]? = some d ∧ Al F H F' H' ∧ Rep K F' x d
  stop : ∀ F H, Same F0 F → Same F H → J.stop ds.length H
section
variable {K : PySem.W.Frag} {F0 : Hp} {a : Addr} {vs : List V} {ds : List D}
theorem walks_list (h : F0 a = some (.lst vs)) (r : Reps K F0 vs ds) : Walks K F0 (Itl K a) ds where
  go := fun F H i s1 s2 hi => by
    have hs : SqL K H a vs := SqL.of (s2 _ _ (s1 _ _ h))
    obtain ⟨v, hv, rv⟩ := r.get' (List.getElem?_eq_getElem hi)
    exact ⟨⟨vs, v, hs, hv⟩, fun x H' ⟨e, y⟩ => ⟨_, F, List.getElem?_eq_getElem hi, by rw [e]; exact .no, by
      have := y vs hs
      rw [hv] at this
      cases this
      exact rv.same s1⟩⟩
  stop := fun F H s1 s2 => ⟨vs, SqL.of (s2 _ _ (s1 _ _ h)), by rw [r.length]; exact Nat.le_refl _⟩
theorem walks_tup (h : SqT K F0 a vs) (r : Reps K F0 vs ds) : Walks K F0 (Itt K a) ds where
  go := fun F H i s1 s2 hi => by
    have hs : SqT K H a vs := SqT.same (s1.trans s2) h
    obtain ⟨v, hv, rv⟩ := r.get' (List.getElem?_eq_getElem hi)
    exact ⟨⟨vs, v, hs, hv⟩, fun x H' ⟨e, y⟩ => ⟨_, F, List.getElem?_eq_getElem hi, by rw [e]; exact .no, by
      have := y vs hs
      rw [hv] at this
      cases this
      exact rv.same s1⟩⟩
  stop := fun F H s1 s2 => ⟨vs, SqT.same (s1.trans s2) h, by rw [r.length]; exact Nat.le_refl _⟩
theorem signs_length (z : Str) : (signs z).length = z.cps.size := by simp [signs]
theorem walks_str (z : Str) : Walks K F0 (Its z) (signs z) where
  go := fun F H i s1 s2 hi => by
    have hi' : i < z.cps.size := by rw [← signs_length]; exact hi
    refine ⟨hi', fun x H' ⟨e, ch, h1, h2⟩ => ⟨.str ⟨#[ch]⟩, F, ?_, by rw [e]; exact .no, by rw [h2]; exact .str _⟩⟩
    simp only [signs, List.getElem?_map, Option.map_eq_some_iff]
    exact ⟨ch, by simpa using h1, rfl⟩
  stop := fun F H s1 s2 => by show z.cps.size ≤ (signs z).length; rw [signs_length]; exact Nat.le_refl _
def rngD (lo : Int) (n : Nat) : List D := (List.range n).map fun i => .int (lo + (i : Nat))
theorem walks_rng (lo : Int) (n : Nat) : Walks K F0 (Itr lo n) (rngD lo n) where
  go := fun F H i s1 s2 hi => by
    have hi' : i < n := by simpa [rngD] using hi
    refine ⟨hi', fun x H' ⟨e, h2⟩ => ⟨.int (lo + (i : Nat)), F, ?_, by rw [e]; exact .no, by rw [h2]; exact .int _⟩⟩
    simp [rngD, List.getElem?_range hi']
  stop := fun F H s1 s2 => by show n ≤ (rngD lo n).length; simp [rngD]
def enumD : Nat → List D → List D
  | _, [] => []
  | n, d :: ds => .tup [.int (n : Nat), d] :: enumD (n + 1) ds
theorem enumD_length : ∀ (n : Nat) (ds : List D), (enumD n ds).length = ds.length
  | _, [] => rfl
  | n, _ :: ds => by rw [enumD, List.length_cons, List.length_cons, enumD_length]
theorem enumD_get : ∀ (n : Nat) (ds : List D) (i : Nat) (d : D), ds[i]? = some d → (enumD n ds)[i]? = some (.tup [.int ((n + i : Nat)), d])
  | _, [], i, _, h => by simp at h
  | n, x :: ds, 0, d, h => by simp at h; subst h; rfl
  | n, x :: ds, i + 1, d, h => by
    rw [enumD, List.getElem?_cons_succ, enumD_get (n + 1) ds i d (by simpa using h)]
    congr 5
    omega
theorem al_tup {F H : Hp} {q : Addr} {us : List V} {es : List D} (s : Same F H) (hq : H q = none) (r : Reps K F us es) : Al F H (upd F q (.tup us)) (upd H q (.tup us)) ∧ Rep K (upd F q (.tup us)) (.ref q) (.tup es) :=
  ⟨Al.one hq, .tup (SqT.of upd_same) (r.same (Same.upd_at s hq))⟩
theorem walks_enum (h : F0 a = some (.lst vs)) (r : Reps K F0 vs ds) : Walks K F0 (Ite K a) (enumD 0 ds) where
  go := fun F H i s1 s2 hi => by
    rw [enumD_length] at hi
    have hs : SqL K H a vs := SqL.of (s2 _ _ (s1 _ _ h))
    obtain ⟨v, hv, rv⟩ := r.get' (List.getElem?_eq_getElem hi)
    refine ⟨⟨vs, v, hs, hv⟩, fun x H' ⟨q, y, e1, e2, e3, e4⟩ => ?_⟩
    have := e4 vs hs
    rw [hv] at this
    cases this
    obtain ⟨al, rp⟩ := al_tup (K := K) (us := [.int ((i : Nat) : Int), v]) (es := [.int ((i : Nat) : Int), ds[i]]) s2 e2 (.cons (.int _) (.cons (rv.same s1) .nil))
    refine ⟨_, _, enumD_get 0 ds i _ (List.getElem?_eq_getElem hi), by rw [e3]; exact al, by rw [e1, Nat.zero_add]; exact rp⟩
  stop := fun F H s1 s2 => ⟨vs, SqL.of (s2 _ _ (s1 _ _ h)), by rw [enumD_length, r.length]; exact Nat.le_refl _⟩
def zipD (xs ys : List D) : List D := List.zipWith (fun x y => .tup [x, y]) xs ys
theorem zipD_get {xs ys : List D} {i : Nat} {x y : D} (hx : xs[i]? = some x) (hy : ys[i]? = some y) : (zipD xs ys)[i]? = some (.tup [x, y]) := by
  unfold zipD
  rw [List.getElem?_zipWith, hx, hy]
theorem walks_zip {b : Addr} {us : List V} {es : List D} (h : F0 a = some (.lst vs)) (r : Reps K F0 vs ds) (h' : F0 b = some (.lst us)) (r' : Reps K F0 us es) : Walks K F0 (Itz K a b) (zipD ds es) where
  go := fun F H i s1 s2 hi => by
    have hi1 : i < ds.length := by simp [zipD] at hi; omega
    have hi2 : i < es.length := by simp [zipD] at hi; omega
    have hs : SqL K H a vs := SqL.of (s2 _ _ (s1 _ _ h))
    have hs' : SqL K H b us := SqL.of (s2 _ _ (s1 _ _ h'))
    obtain ⟨v, hv, rv⟩ := r.get' (List.getElem?_eq_getElem hi1)
    obtain ⟨u, hu, ru⟩ := r'.get' (List.getElem?_eq_getElem hi2)
    refine ⟨⟨vs, us, v, u, hs, hs', hv, hu⟩, fun x H' ⟨q, y, y', e1, e2, e3, e4, e5⟩ => ?_⟩
    have t1 := e4 vs hs
    have t2 := e5 us hs'
    rw [hv] at t1
    rw [hu] at t2
    cases t1
    cases t2
    obtain ⟨al, rp⟩ := al_tup (K := K) (us := [v, u]) (es := [ds[i], es[i]]) s2 e2 (.cons (rv.same s1) (.cons (ru.same s1) .nil))
    exact ⟨_, _, zipD_get (List.getElem?_eq_getElem hi1) (List.getElem?_eq_getElem hi2), by rw [e3]; exact al, by rw [e1]; exact rp⟩
  stop := fun F H s1 s2 => ⟨vs, us, SqL.of (s2 _ _ (s1 _ _ h)), SqL.of (s2 _ _ (s1 _ _ h')), by
    have := r.length
    have := r'.length
    simp only [zipD, List.length_zipWith]
    omega⟩
end
abbrev WI (R : Rgn) := DS R → (List D → DS R → Prop) → Prop
def liftI (c : Ctx) (w : WI c.R) : TI := fun σ H R => ∃ (ρ : DS c.R) (F : Hp) (O : List Addr) (Kk : List D → DS c.R → Prop), St c F O σ ρ H ∧ w ρ Kk ∧
  ∀ ds ρ' F' H' J, Kk ds ρ' → St c F' O σ ρ' H' → Same F F' → (∀ a ∈ O, H' a = H a) → Walks c.K F' J ds → R J H'
structure DI (X : Cx) (c : Ctx) (tg e : Expr) (w : WI c.R) : Prop where
  pi : PI X tg e (liftI c w)
/-- going through a value -/
structure VI (X : Cx) (tg : Expr) (r : V → Hp → (It → Hp → Prop) → Prop) : Prop where
  run : ∀ (pins : List (Addr × Obj)) (s : Shared) (σ : L2.St) (H : Hp) (x : V) (v : Value) (R : It → Hp → Prop), L2.Inv X pins σ H s → L2.RelV x v → r x H R → wpAny (model X.prog X.w) X.A (pyIter v) (PIE X pins σ tg R) X.xe s
def rWalk (K : PySem.W.Frag) : V → Hp → (It → Hp → Prop) → Prop := fun x H R => (∃ a xs, x = .ref a ∧ SqL K H a xs ∧ R (Itl K a) H) ∨ (∃ a xs, x = .ref a ∧ SqT K H a xs ∧ R (Itt K a) H) ∨ ∃ z, x = .str z ∧ R (Its z) H
theorem vi_walk {X : Cx} {tg : Expr} : VI X tg (rWalk X.K) := ⟨fun pins s σ H x v R I rx h => by
  rcases h with ⟨a, xs, rfl, hq, q⟩ | ⟨a, xs, rfl, hq, q⟩ | ⟨z, rfl, q⟩
  · cases rx
    obtain ⟨its, _, p, _⟩ := I.list hq
    exact wpAny_pyIter_list p.isList (pi_one (tk := s.toks) I _ (turn_list a _) ⟨_, Heap.get?_push_size _ rfl, rfl, rfl⟩ q)
  · cases rx
    obtain ⟨its, _, p, _⟩ := I.tuple hq
    exact wpAny_pyIter_tuple (show s.heap.IsTuple a its.toArray from p) (pi_one (tk := s.toks) I _ (turn_tuple a _) ⟨_, Heap.get?_push_size _ rfl, rfl, rfl⟩ q)
  · obtain ⟨tk, rfl⟩ := rx
    by_cases ha : z.cps.all (· < 128) = true
    · exact wpAny_pyIter_ascii ha (pi_one (tk := s.toks) I _ (turn_str _ z tk "str_ascii_iterator" (.inl rfl)) ⟨_, Heap.get?_push_size _ rfl, rfl, rfl⟩ q)
    · exact wpAny_pyIter_wide (Bool.not_eq_true _ ▸ ha) (pi_one (tk := s.toks) I _ (turn_str _ z tk "str_iterator" (.inr rfl)) ⟨_, Heap.get?_push_size _ rfl, rfl, rfl⟩ q)⟩
theorem VI.pi {X : Cx} {tg e : Expr} {te : TE} {r : V → Hp → (It → Hp → Prop) → Prop} (h : VI X tg r) (he : PE X e te) : PI X tg e (fun σ H R => te σ H fun x H1 => r x H1 R) :=
  ⟨fun pins s σ H R I q => thn (he.run pins s σ H _ I q) fun v s1 ⟨x, H1, I1, r1, q1⟩ => h.run pins s1 σ H1 x v R I1 r1 q1⟩
def seqD : D → Option (List D)
  | .lst ds => some ds
  | .tup ds => some ds
  | .str z => some (signs z)
  | _ => none
section
variable {X : Cx} {c : Ctx} {fr : Bool} {tg iter e e2 elt : Expr} {es ifs : List Expr} {pos p : Pos} {pa pb bb : Bool} {ts us : List Nat} {g : WG c.R} {we wb : WE c.R} {wi : WI c.R} {wt : WB c.R}
def wSq {R : Rgn} (we : WE R) : WI R := fun ρ K => we ρ fun d ρ1 => ∃ ds, seqD d = some ds ∧ K ds ρ1
theorem di_seq (he : DE X c pa false e we) : DI X c tg e (wSq we) :=
  ⟨(vi_walk.pi he.pe).imp fun σ H R ⟨ρ, F, O, Kk, S, w, k⟩ => ⟨ρ, F, O, _, S, w, fun d ρ1 v F1 H1 ⟨ds, hd, hk⟩ S1 fs1 ko1 g1 r1 => by
    rw [he.kk]
    cases d <;> simp only [seqD, reduceCtorEq, Option.some.injEq] at hd <;> subst hd
    case lst ds =>
      cases r1 with
      | lst h r => exact .inl ⟨_, _, rfl, SqL.of (S1.sub _ _ h), k _ ρ1 F1 H1 _ hk S1 fs1 ko1 (walks_list h r)⟩
    case tup ds =>
      cases r1 with
      | tup h r => exact .inr (.inl ⟨_, _, rfl, SqT.same S1.sub h, k _ ρ1 F1 H1 _ hk S1 fs1 ko1 (walks_tup h r)⟩)
    case str z =>
      cases r1
      exact .inr (.inr ⟨_, rfl, k _ ρ1 F1 H1 _ hk S1 fs1 ko1 (walks_str _)⟩)⟩⟩
def wRg {R : Rgn} (we : WE R) : WI R := fun ρ K => we ρ fun d ρ1 => ∃ n : Int, d = .int n ∧ -1000000000 ≤ n ∧ n ≤ 1000000000 ∧ K (rngD 0 n.toNat) ρ1
theorem di_rng (hm : X.mg "range" = none) (he : DE X c pa bb e we) (hg : Gl X "range" := by rfl) (h1 : starEach [e] X.env = (false, eval e X.env) :: starEach [] X.env := by rfl) (hs : starEach [e] X.env = [(false, eval e X.env)] := by rfl) : DI X c tg (.Call (.Name "range" p) [e] [] pos) (wRg we) :=
  ⟨(pi_range1 hg hm (pa_cons he.pe pa_nil h1) hs).imp fun σ H R ⟨ρ, F, O, Kk, S, w, k⟩ => ⟨ρ, F, O, _, S, w, fun d ρ1 v F1 H1 ⟨n, hd, n1, n2, hk⟩ S1 fs1 ko1 g1 r1 => by
    subst hd
    exact ⟨n, by rw [(r1.bv S1).int], by omega, by omega, k _ ρ1 F1 H1 _ hk S1 fs1 ko1 (walks_rng 0 n.toNat)⟩⟩⟩
def wRg2 {R : Rgn} (we wb : WE R) : WI R := fun ρ K => we ρ fun d ρ1 => wb ρ1 fun d' ρ2 => ∃ i n : Int, d = .int i ∧ d' = .int n ∧ (-1000000000 ≤ i ∧ i ≤ 1000000000 ∧ -1000000000 ≤ n ∧ n ≤ 1000000000) ∧ K (rngD i (n - i).toNat) ρ2
theorem di_rng2 (hm : X.mg "range" = none) (he : DE X c pa false e we) (he2 : DE X c pb false e2 wb) (hg : Gl X "range" := by rfl) (h1 : starEach [e, e2] X.env = (false, eval e X.env) :: starEach [e2] X.env := by rfl) (h2 : starEach [e2] X.env = (false, eval e2 X.env) :: starEach [] X.env := by rfl)
    (h3 : starEach [e, e2] X.env = [(false, eval e X.env), (false, eval e2 X.env)] := by rfl) (h4 : starEach [e2] X.env = [(false, eval e2 X.env)] := by rfl) : DI X c tg (.Call (.Name "range" p) [e, e2] [] pos) (wRg2 we wb) :=
  ⟨(pi_range2 hg hm (pa_cons he.pe (pa_cons he2.pe pa_nil h2) h1) h3 h4).imp fun σ H R ⟨ρ, F, O, Kk, S, w, k⟩ => ⟨ρ, F, O, _, S, w, fun d ρ1 v F1 H1 hk1 S1 fs1 ko1 g1 r1 => ⟨ρ1, F1, O, _, S1, hk1, fun d' ρ2 u F2 H2 ⟨i, n, e1, e2, hb, hk⟩ S2 fs2 ko2 g2 r2 => by
    subst e1
    subst e2
    cases r1
    cases r2
    exact ⟨i, n, rfl, by omega, k _ ρ2 F2 H2 _ hk S2 (fs1.trans fs2) (fun q hq => by rw [ko2 q hq, ko1 q hq]) (walks_rng i (n - i).toNat)⟩⟩⟩⟩
def wEn {R : Rgn} (we : WE R) : WI R := fun ρ K => we ρ fun d ρ1 => ∃ ds, d = .lst ds ∧ K (enumD 0 ds) ρ1
theorem di_enum {elts : List Expr} {kk : Nat} {tpos : Pos} (hm : X.mg "enumerate" = none) (he : DE X c pa false e we) (hg : Gl X "enumerate" := by rfl) (h1 : starEach [e] X.env = (false, eval e X.env) :: starEach [] X.env := by rfl) (hs : starEach [e] X.env = [(false, eval e X.env)] := by rfl) : DI X c (.Tuple elts kk tpos) (.Call (.Name "enumerate" p) [e] [] pos) (wEn we) :=
  ⟨(pi_enum hg hm (pa_cons he.pe pa_nil h1) hs).imp fun σ H R ⟨ρ, F, O, Kk, S, w, k⟩ => ⟨ρ, F, O, _, S, w, fun d ρ1 v F1 H1 ⟨ds, hd, hk⟩ S1 fs1 ko1 g1 r1 => by
    subst hd
    cases r1 with
    | lst h r => rw [he.kk]; exact ⟨_, _, rfl, SqL.of (S1.sub _ _ h), k _ ρ1 F1 H1 _ hk S1 fs1 ko1 (walks_enum h r)⟩⟩⟩
def wZp {R : Rgn} (we wb : WE R) : WI R := fun ρ K => we ρ fun d ρ1 => wb ρ1 fun d' ρ2 => ∃ ds es, d = .lst ds ∧ d' = .lst es ∧ K (zipD ds es) ρ2
theorem di_zip {elts : List Expr} {kk : Nat} {tpos : Pos} (hm : X.mg "zip" = none) (he : DE X c pa false e we) (he2 : DE X c pb false e2 wb) (hg : Gl X "zip" := by rfl) (h1 : starEach [e, e2] X.env = (false, eval e X.env) :: starEach [e2] X.env := by rfl) (h2 : starEach [e2] X.env = (false, eval e2 X.env) :: starEach [] X.env := by rfl)
    (h4 : (backTo pos (starEach [e2] X.env)).any (·.1) = false := by rfl) : DI X c (.Tuple elts kk tpos) (.Call (.Name "zip" p) [e, e2] [] pos) (wZp we wb) :=
  ⟨(pi_zip hg hm (pa_cons he.pe (pa_cons he2.pe pa_nil h2) h1) h1 h4).imp fun σ H R ⟨ρ, F, O, Kk, S, w, k⟩ => ⟨ρ, F, O, _, S, w, fun d ρ1 v F1 H1 hk1 S1 fs1 ko1 g1 r1 => ⟨ρ1, F1, O, _, S1, hk1, fun d' ρ2 u F2 H2 ⟨ds, es, e1, e2, hk⟩ S2 fs2 ko2 g2 r2 => by
    subst e1
    subst e2
    have r1 := Rep.same fs2 r1
    cases r1 with
    | lst h r =>
      cases r2 with
      | lst h' r' => rw [he.kk]; exact ⟨_, _, _, _, rfl, SqL.of (S2.sub _ _ h), SqL.of (S2.sub _ _ h'), k _ ρ2 F2 H2 _ hk S2 (fs1.trans fs2) (fun q hq => by rw [ko2 q hq, ko1 q hq]) (walks_zip h r h' r')⟩⟩⟩⟩
/-! ### for -/
def forGo {R : Rgn} (g : WG R) (wb : WS R) (Dk : DEnds R) : List D → DS R → Prop
  | [], ρ => Dk.nx ρ
  | d :: ds, ρ => g d ρ fun ρ2 => wb { Dk with nx := forGo g wb Dk ds, ct := forGo g wb Dk ds, bk := Dk.nx } ρ2
def sFor {R : Rgn} (wi : WI R) (g : WG R) (wb : WS R) : WS R := fun Dk ρ => wi ρ fun ds ρ1 => forGo g wb Dk ds ρ1
theorem ds_for {body : List Stmt} {wb : WS c.R} (hi : DI X c tg iter wi) (hg : DG X c tg ts g) (hb : DSs X c fr body wb) (hp : PassesOwn (model X.prog X.w) X.A X.env X.xe := by exact PassesOwn.never) (hc : X.calm = true := by rfl)
    (hs : ∀ x, foldedSetIterable iter X.env x = pure x := by intro _; rfl) : DS1 X c fr (.For tg iter body [] pos) (sFor wi g wb) :=
  ⟨(ps_for hp hc hi.pi hg.pg hb.ps hs).imp fun E σ H ⟨ρ, F, Dk, S, w, k1, k2, k3, k4⟩ => ⟨ρ, F, [], _, S, w, fun ds ρ1 F1 H1 J hk S1 fs1 ko1 wk => by
    refine ⟨fun i m σ' H' => ∃ ρ' F', m = ds.length - i ∧ i ≤ ds.length ∧ St c F' [] σ' ρ' H' ∧ Same F1 F' ∧ forGo g wb Dk (ds.drop i) ρ', ⟨ds.length, ρ1, F1, rfl, Nat.zero_le _, S1, Same.refl _, hk⟩, ?_⟩
    rintro i m σ' H' ⟨ρ', F', rfl, hi, S', fs', hw⟩
    by_cases hlt : i < ds.length
    · obtain ⟨hgo, hy⟩ := wk.go F' H' i fs' S'.sub hlt
      refine .inr ⟨hgo, fun σ2 H2 => ∃ ρ2 F2, St c F2 [] σ2 ρ2 H2 ∧ Same F1 F2 ∧ forGo g wb Dk (ds.drop (i + 1)) ρ2, fun σ2 H2 ⟨ρ2, F2, S2, fs2, h2⟩ => ⟨ds.length - (i + 1), by omega, ρ2, F2, rfl, hlt, S2, fs2, h2⟩, fun x H2 y => ?_⟩
      obtain ⟨d, F2, hd, al, rp⟩ := hy x H2 y
      rw [List.drop_eq_getElem_cons hlt] at hw
      have e : d = ds[i] := by
        rw [List.getElem?_eq_getElem hlt] at hd
        exact (Option.some.inj hd).symm
      subst e
      have S2 := S'.grow (al.grow S'.sub)
      have fs2 : Same F1 F2 := fs'.trans (al.fs S'.sub)
      refine ⟨ρ', F2, [], _, ds[i], S2, rp, hw, fun ρ3 σ3 hk3 S3 _ => ⟨ρ3, F2, _, S3, hk3, fun ρ4 σ4 F4 H4 h4 S4 fs4 => ⟨ρ4, F4, S4, fs2.trans fs4, h4⟩, fun ρ4 σ4 F4 H4 h4 S4 fs4 => k1 ρ4 σ4 F4 H4 h4 S4 (fs1.trans (fs2.trans fs4)), fun ρ4 σ4 F4 H4 h4 S4 fs4 => ⟨ρ4, F4, S4, fs2.trans fs4, h4⟩, k4⟩⟩
    · have e : i = ds.length := by omega
      subst e
      rw [List.drop_length] at hw
      exact .inl ⟨wk.stop F' H' fs' S'.sub, k1 ρ' σ' F' H' hw S' (fs1.trans fs')⟩⟩⟩
end
end Q

set_option Elab.async false
set_option linter.all false
set_option maxRecDepth 100000
set_option maxHeartbeats 4000000
/-! list comprehensions over data -/
namespace Q
open PySem PySem.Spec PyProof.Rows L2
section
variable {c : Ctx} {F F' H H' : Hp} {O : List Addr} {σ : L2.St} {ρ : DS c.R} {p : Addr} {o : HO}
/-- an object being made is set apart -/
theorem St.protect (S : St c F O σ ρ H) (hp : H p = none) : St c F (p :: O) σ ρ (upd H p o) := by
  have hF : F p = none := by
    cases e : F p with
    | none => rfl
    | some u => rw [S.sub _ _ e] at hp; cases hp
  have h0 : c.H0 p = none := by
    cases e : c.H0 p with
    | none => rfl
    | some u => exact absurd hp (S.live p (by rw [e]; exact fun z => by cases z))
  have no : ∀ i, ¬ Owns σ ρ.sl i p := fun i h => by
    obtain ⟨d, _, ow⟩ := h.there (S.slots i)
    exact ow.there hp
  obtain ⟨Z, r, z1, z2, z3, z4⟩ := S.reg
  have hZ : ¬ Z p := fun z => c.R.al r p z hp
  refine ⟨S.len, fun b u e => ?_, S.old, S.new, fun b u e n => ?_, fun b n => ?_, fun i => ?_, fun i a h => ?_, S.inj, fun a h => ?_, Z, c.R.fr r fun a h => ?_, z1, z2, fun a h => ?_, z4⟩
  · rw [upd_ne (fun z => by rw [z, hF] at e; cases e)]; exact S.sub _ _ e
  · rw [upd_ne (fun z => by rw [z, h0] at e; cases e)]; exact S.keep b u e n
  · rw [upd_ne (fun z => by rw [z] at n; exact n h0)]; exact S.live b n
  · have h := S.slots i
    cases e : ρ.sl[i]? with
    | none => trivial
    | some x =>
      rw [e] at h
      cases x with
      | none => trivial
      | some x =>
        cases x with
        | fz d => exact h
        | own d =>
          obtain ⟨a, h1, h2⟩ := h
          exact ⟨a, h1, h2.same (Same.refl _) (upd_ne fun z => no i (by rw [← z]; exact ⟨h1, d, e⟩))⟩
  · obtain ⟨m1, m2, m3⟩ := S.mine i a h
    exact ⟨m1, m2, fun z => (List.mem_cons.mp z).elim (fun y => no i (by rw [← y]; exact h)) m3⟩
  · rcases List.mem_cons.mp h with y | y
    · subst y; exact ⟨hF, h0, by rw [upd_same]; exact fun z => by cases z⟩
    · obtain ⟨m1, m2, m3⟩ := S.out a y
      exact ⟨m1, m2, by rw [upd_ne (fun z => m3 (by rw [z]; exact hp))]; exact m3⟩
  · rw [upd_ne (fun z => hZ (by rw [← z]; exact h))]
  · rcases List.mem_cons.mp h with y | y
    · subst y; exact hZ
    · exact z3 a y
/-- .. and written -/
theorem St.writeO (S : St c F O σ ρ H) (hp : p ∈ O) : St c F O σ ρ (upd H p o) := by
  obtain ⟨hF, h0, _⟩ := S.out p hp
  have no : ∀ i, ¬ Owns σ ρ.sl i p := fun i h => (S.mine i p h).2.2 hp
  obtain ⟨Z, r, z1, z2, z3, z4⟩ := S.reg
  refine ⟨S.len, fun b u e => ?_, S.old, S.new, fun b u e n => ?_, fun b n => ?_, fun i => ?_, S.mine, S.inj, fun a h => ?_, Z, c.R.fr r fun a h => ?_, z1, z2, z3, z4⟩
  · rw [upd_ne (fun z => by rw [z, hF] at e; cases e)]; exact S.sub _ _ e
  · rw [upd_ne (fun z => by rw [z, h0] at e; cases e)]; exact S.keep b u e n
  · rw [upd_ne (fun z => by rw [z] at n; exact n h0)]; exact S.live b n
  · have h := S.slots i
    cases e : ρ.sl[i]? with
    | none => trivial
    | some x =>
      rw [e] at h
      cases x with
      | none => trivial
      | some x =>
        cases x with
        | fz d => exact h
        | own d =>
          obtain ⟨a, h1, h2⟩ := h
          exact ⟨a, h1, h2.same (Same.refl _) (upd_ne fun z => no i (by rw [← z]; exact ⟨h1, d, e⟩))⟩
  · obtain ⟨m1, m2, m3⟩ := S.out a h
    refine ⟨m1, m2, ?_⟩
    by_cases z : a = p
    · subst z; rw [upd_same]; exact fun y => by cases y
    · rw [upd_ne z]; exact m3
  · rw [upd_ne (fun z => z3 p hp (by rw [← z]; exact h))]
/-- .. and handed back -/
def gone (H : Hp) (p : Addr) : Hp := fun b => if b = p then none else H b
theorem gone_at {H : Hp} {p : Addr} : gone H p p = none := if_pos rfl
theorem gone_ne {H : Hp} {p b : Addr} (h : b ≠ p) : gone H p b = H b := if_neg h
theorem gone_upd {H : Hp} {p : Addr} {o : HO} (h : H p = some o) : upd (gone H p) p o = H := by
  funext b
  by_cases z : b = p
  · subst z; rw [upd_same, h]
  · rw [upd_ne z, gone_ne z]
theorem St.release (S : St c F (p :: O) σ ρ H) (np : p ∉ O) : St c F O σ ρ (gone H p) := by
  obtain ⟨hF, h0, _⟩ := S.out p (by simp)
  have no : ∀ i, ¬ Owns σ ρ.sl i p := fun i h => (S.mine i p h).2.2 (by simp)
  obtain ⟨Z, r, z1, z2, z3, z4⟩ := S.reg
  refine ⟨S.len, fun b u e => ?_, S.old, S.new, fun b u e n => ?_, fun b n => ?_, fun i => ?_, fun i a h => ?_, S.inj, fun a h => ?_, Z, c.R.fr r fun a h => ?_, z1, z2, fun a h => z3 a (by simp [h]), z4⟩
  · rw [gone_ne (fun z => by rw [z, hF] at e; cases e)]; exact S.sub _ _ e
  · rw [gone_ne (fun z => by rw [z, h0] at e; cases e)]; exact S.keep b u e n
  · rw [gone_ne (fun z => by rw [z] at n; exact n h0)]; exact S.live b n
  · have h := S.slots i
    cases e : ρ.sl[i]? with
    | none => trivial
    | some x =>
      rw [e] at h
      cases x with
      | none => trivial
      | some x =>
        cases x with
        | fz d => exact h
        | own d =>
          obtain ⟨a, h1, h2⟩ := h
          exact ⟨a, h1, h2.same (Same.refl _) (gone_ne fun z => no i (by rw [← z]; exact ⟨h1, d, e⟩))⟩
  · obtain ⟨m1, m2, m3⟩ := S.mine i a h
    exact ⟨m1, m2, fun z => m3 (by simp [z])⟩
  · obtain ⟨m1, m2, m3⟩ := S.out a (by simp [h])
    exact ⟨m1, m2, by rw [gone_ne (fun z => np (by rw [← z]; exact h))]; exact m3⟩
  · rw [gone_ne (fun z => z3 p (by simp) (by rw [← z]; exact h))]
/-- a slot forgotten -/
theorem St.forget (S : St c F O σ ρ H) (i : Nat) : St c F O (σ.set i none) (ρ.put i none) H := by
  have own : ∀ j a, Owns (σ.set i none) (ρ.put i none).sl j a → Owns σ ρ.sl j a := fun j a h => by
    obtain ⟨h1, x, h2⟩ := h
    have h2 : (ρ.sl.set i none)[j]? = some (some (.own x)) := h2
    rw [set_get] at h1 h2
    by_cases e : i = j
    · rw [if_pos e] at h2
      split at h2 <;> cases h2
    · rw [if_neg e] at h1 h2
      exact ⟨h1, x, h2⟩
  obtain ⟨Z, r, z1, z2, z3, z4⟩ := S.reg
  refine ⟨by show (σ.set i none).length = (ρ.sl.set i none).length; rw [List.length_set, List.length_set]; exact S.len, S.sub, S.old, S.new, S.keep, S.live, fun j => ?_, fun j a h => S.mine j a (own j a h), fun j k a h h' => S.inj j k a (own j a h) (own k a h'), S.out, Z, r, z1, z2, z3, fun j a h => z4 j a (own j a h)⟩
  show SlotOk c.K F H (σ.set i none) j (ρ.sl.set i none)[j]?
  rw [set_get]
  by_cases e : i = j
  · rw [if_pos e]
    split <;> trivial
  · rw [if_neg e]
    have h := S.slots j
    have e2 : (σ.set i none)[j]? = σ[j]? := by rw [set_get, if_neg e]
    cases q : ρ.sl[j]? with
    | none => trivial
    | some x =>
      rw [q] at h
      cases x with
      | none => trivial
      | some x =>
        cases x with
        | fz d => obtain ⟨v, h1, h2⟩ := h; exact ⟨v, by rw [e2]; exact h1, h2⟩
        | own d => obtain ⟨a, h1, h2⟩ := h; exact ⟨a, by rw [e2]; exact h1, h2⟩
def wipeL (sl : List (Option DV)) : List Nat → List (Option DV)
  | [] => sl
  | v :: vs => (wipeL sl vs).set v none
theorem St.wiped (S : St c F O σ ρ H) : ∀ vs : List Nat, St c F O (wipe σ vs) ⟨ρ.g, wipeL ρ.sl vs⟩ H
  | [] => S
  | v :: vs => (S.wiped vs).forget v
/-- the slots that a block has used are as they were -/
def backL (sl sl' : List (Option DV)) : List Nat → List (Option DV)
  | [] => sl'
  | v :: vs => (backL sl sl' vs).set v (sl.getD v none)
def NoOwn (sl : List (Option DV)) (vs : List Nat) : Prop := ∀ i ∈ vs, ∀ d, sl[i]? ≠ some (some (.own d))
theorem backL_length (sl sl' : List (Option DV)) : ∀ vs : List Nat, (backL sl sl' vs).length = sl'.length
  | [] => rfl
  | v :: vs => by rw [backL, List.length_set, backL_length]
theorem backL_out (sl sl' : List (Option DV)) {i : Nat} : ∀ {vs : List Nat}, i ∉ vs → (backL sl sl' vs)[i]? = sl'[i]?
  | [], _ => rfl
  | v :: vs, h => by
    rw [backL, set_get, if_neg (fun z => h (by simp [z]))]
    exact backL_out sl sl' fun z => h (by simp [z])
theorem backL_in (sl sl' : List (Option DV)) (hl : sl.length = sl'.length) {i : Nat} : ∀ {vs : List Nat}, i ∈ vs → (backL sl sl' vs)[i]? = sl[i]?
  | [], h => by cases h
  | v :: vs, h => by
    rw [backL, set_get]
    by_cases e : v = i
    · subst e
      rw [if_pos rfl, backL_length]
      by_cases z : v < sl'.length
      · rw [if_pos z, List.getD_eq_getElem?_getD]
        have : v < sl.length := by omega
        rw [List.getElem?_eq_getElem this]
        rfl
      · rw [if_neg z, List.getElem?_eq_none (by omega)]
    · rw [if_neg e]
      exact backL_in sl sl' hl ((List.mem_cons.mp h).resolve_left fun z => e z.symm)
theorem St.back {F1 H1 : Hp} {O1 : List Addr} {ρ1 : DS c.R} {vs : List Nat} (S1 : St c F1 O1 σ ρ1 H1) (no : NoOwn ρ1.sl vs) (S : St c F O (wipe σ vs) ρ H) (fs : Same F1 F) : St c F O σ ⟨ρ.g, backL ρ1.sl ρ.sl vs⟩ H := by
  have hl : ρ1.sl.length = ρ.sl.length := by rw [← S1.len, ← S.len, wipe_length]
  have own : ∀ i a, Owns σ (backL ρ1.sl ρ.sl vs) i a → Owns (wipe σ vs) ρ.sl i a := fun i a ⟨h1, d, h2⟩ => by
    by_cases m : i ∈ vs
    · rw [backL_in _ _ hl m] at h2
      exact absurd h2 (no i m d)
    · rw [backL_out _ _ m] at h2
      exact ⟨by rw [wipe_out m]; exact h1, d, h2⟩
  obtain ⟨Z, r, z1, z2, z3, z4⟩ := S.reg
  refine ⟨by show σ.length = (backL ρ1.sl ρ.sl vs).length; rw [backL_length, ← S.len, wipe_length], S.sub, S.old, S.new, S.keep, S.live, fun j => ?_, fun j a h => S.mine j a (own j a h), fun j k a h h' => S.inj j k a (own j a h) (own k a h'), S.out, Z, r, z1, z2, z3, fun j a h => z4 j a (own j a h)⟩
  show SlotOk c.K F H σ j (backL ρ1.sl ρ.sl vs)[j]?
  by_cases m : j ∈ vs
  · rw [backL_in _ _ hl m]
    have h := S1.slots j
    cases q : ρ1.sl[j]? with
    | none => trivial
    | some x =>
      rw [q] at h
      cases x with
      | none => trivial
      | some x =>
        cases x with
        | fz d => obtain ⟨v, h1, h2⟩ := h; exact ⟨v, h1, h2.same fs⟩
        | own d => exact absurd q (no j m d)
  · rw [backL_out _ _ m]
    have h := S.slots j
    have e2 := wipe_out (σ := σ) m
    cases q : ρ.sl[j]? with
    | none => trivial
    | some x =>
      rw [q] at h
      cases x with
      | none => trivial
      | some x =>
        cases x with
        | fz d => obtain ⟨v, h1, h2⟩ := h; exact ⟨v, by rw [← e2]; exact h1, h2⟩
        | own d => obtain ⟨a, h1, h2⟩ := h; exact ⟨a, by rw [← e2]; exact h1, h2⟩
theorem wipe_twice {σ : L2.St} {vs : List Nat} : ∀ {us : List Nat}, (∀ i ∈ us, i ∈ vs) → wipe (wipe σ us) vs = wipe σ vs
  | [], _ => rfl
  | u :: us, h => by
    show wipe ((wipe σ us).set u none) vs = wipe σ vs
    rw [wipe_out' (h u (by simp)), wipe_twice fun i m => h i (by simp [m])]
end
theorem itT {A B : Prop} (h : A) : if (true : Bool) = true then A else B := by rw [if_pos rfl]; exact h
theorem itF {A B : Prop} (h : B) : if (false : Bool) = true then A else B := by rw [if_neg (by decide)]; exact h
/-- a comprehension's tests -/
structure DTs (X : Cx) (c : Ctx) (ifs : List Expr) (w : WB c.R) : Prop where
  pts : PTs X ifs (liftT c false w)
theorem _root_.L2.PTs.imp {X : Cx} {es : List Expr} {t u : TT} (h : PTs X es t) (i : ∀ σ H Q, u σ H Q → t σ H Q) : PTs X es u := ⟨fun pins s σ H Q I q => h.run pins s σ H Q I (i σ H Q q)⟩
def wYes {R : Rgn} : WB R := fun ρ K => K true ρ
section
variable {X : Cx} {c : Ctx} {fr : Bool} {tg iter e elt : Expr} {ifs : List Expr} {pos p : Pos} {pa pb bb : Bool} {ts vs : List Nat} {g : WG c.R} {we : WE c.R} {wi : WI c.R} {wt : WB c.R}
theorem dts_nil : DTs X c [] wYes := ⟨pts_nil.imp fun σ H Q ⟨ρ, F, O, Kk, S, w, k⟩ => k true ρ F H w S (Same.refl _) (fun _ _ => rfl) (fun z => by cases z)⟩
theorem dts_one (h : DT X c pa e wt) : DTs X c [e] wt := ⟨(pts_one h.pt).imp fun σ H Q ⟨ρ, F, O, Kk, S, w, k⟩ => ⟨ρ, F, O, Kk, S, w, fun d ρ' F' H' hk S' fs ko g' => k d ρ' F' H' hk S' fs ko (fun z => by cases z)⟩⟩
def lcGo {R : Rgn} (g : WG R) (wt : WB R) (we : WE R) (vs : List Nat) (K : List D → DS R → Prop) : List D → List D → DS R → Prop
  | [], acc, ρ => K acc ρ
  | d :: ds, acc, ρ => g d ρ fun ρ2 => wt ρ2 fun b ρ3 => if b = true then we ρ3 fun y ρ4 => lcGo g wt we vs K ds (acc ++ [y]) ⟨ρ4.g, wipeL ρ4.sl vs⟩ else lcGo g wt we vs K ds acc ⟨ρ3.g, wipeL ρ3.sl vs⟩
def wLc {R : Rgn} (wi : WI R) (g : WG R) (wt : WB R) (we : WE R) (vs : List Nat) : WE R := fun ρ K => wi ρ fun ds ρ1 => ds.length ≤ 100000 ∧ NoOwn ρ1.sl vs ∧ lcGo g wt we vs (fun acc ρ2 => K (.lst acc) ⟨ρ2.g, backL ρ1.sl ρ2.sl vs⟩) ds [] ⟨ρ1.g, wipeL ρ1.sl vs⟩
theorem lc_ok {σ : L2.St} {H : Hp} {Q : VK} (h : liftF c false (wLc wi g wt we vs) σ H Q) (hv : ∀ i ∈ ts, i ∈ vs) : tLc (liftI c wi) (liftG c ts g) (liftT c false wt) (liftE c pb false we) vs σ H Q := by
  obtain ⟨ρ, F, O, Kk, S, w, k⟩ := h
  refine ⟨ρ, F, O, _, S, w, fun ds ρ1 F1 H1 J ⟨hz, no, hk⟩ S1 fs1 ko1 wk L hD => ?_⟩
  have nDO : L ∉ O := fun m => (S1.out L m).2.2 hD
  refine ⟨fun i m H' => ∃ (F' : Hp) (ρ' : DS c.R) (acc : List V) (accD : List D), m = ds.length - i ∧ i ≤ ds.length ∧ St c F' (L :: O) (wipe σ vs) ρ' H' ∧ Same F1 F' ∧ (∀ a ∈ O, H' a = H1 a) ∧ H' L = some (.lst acc) ∧ Reps c.K F' acc accD ∧ acc.length ≤ i ∧
    lcGo g wt we vs (fun acc ρ2 => Kk (.lst acc) ⟨ρ2.g, backL ρ1.sl ρ2.sl vs⟩) (ds.drop i) accD ρ', ⟨ds.length, F1, ⟨ρ1.g, wipeL ρ1.sl vs⟩, [], [], rfl, Nat.zero_le _, (S1.wiped vs).protect hD, Same.refl _, fun a m => upd_ne fun z => nDO (by rw [← z]; exact m), upd_same, .nil, Nat.le_refl _, hk⟩, ?_⟩
  rintro i m H' ⟨F', ρ', acc, accD, rfl, hi, S', fs', ko', hacc, rac, hla, hw⟩
  by_cases hlt : i < ds.length
  · obtain ⟨hgo, hy⟩ := wk.go F' H' i fs' S'.sub hlt
    refine .inr ⟨hgo, fun H2 => ∃ (F2 : Hp) (ρ2 : DS c.R) (acc2 : List V) (accD2 : List D), St c F2 (L :: O) (wipe σ vs) ρ2 H2 ∧ Same F1 F2 ∧ (∀ a ∈ O, H2 a = H1 a) ∧ H2 L = some (.lst acc2) ∧ Reps c.K F2 acc2 accD2 ∧ acc2.length ≤ i + 1 ∧
      lcGo g wt we vs (fun acc ρ2 => Kk (.lst acc) ⟨ρ2.g, backL ρ1.sl ρ2.sl vs⟩) (ds.drop (i + 1)) accD2 ρ2, fun H2 ⟨F2, ρ2, acc2, accD2, q1, q2, q3, q4, q5, q6, q7⟩ => ⟨ds.length - (i + 1), by omega, F2, ρ2, acc2, accD2, rfl, hlt, q1, q2, q3, q4, q5, q6, q7⟩, fun x H2 y => ?_⟩
    obtain ⟨d, F2, hd, al, rp⟩ := hy x H2 y
    rw [List.drop_eq_getElem_cons hlt] at hw
    have e : d = ds[i] := by
      rw [List.getElem?_eq_getElem hlt] at hd
      exact (Option.some.inj hd).symm
    subst e
    have S2 := S'.grow (al.grow S'.sub)
    have fs2 : Same F1 F2 := fs'.trans (al.fs S'.sub)
    have k2 : ∀ a ∈ L :: O, H2 a = H' a := ko_al S' al
    refine ⟨ρ', F2, L :: O, _, ds[i], S2, rp, hw, fun ρ3 σ3 hk3 S3 w3 => ⟨?_, ρ3, F2, L :: O, _, S3, hk3, fun b ρ4 F4 H4 hk4 S4 fs4 ko4 _ => ?_⟩⟩
    · rw [w3 vs hv, wipe_twice fun _ m => m]
    have w3' : wipe σ3 vs = wipe σ vs := by rw [w3 vs hv, wipe_twice fun _ m => m]
    have a4 : H4 L = some (.lst acc) := by rw [ko4 L (by simp), k2 L (by simp), hacc]
    have o4 : ∀ a ∈ O, H4 a = H1 a := fun a m => by rw [ko4 a (by simp [m]), k2 a (by simp [m]), ko' a m]
    have r4 := (rac.same (al.fs S'.sub)).same fs4
    cases b with
    | false =>
      rw [if_neg (by decide)] at hk4
      refine itF ?_
      exact ⟨F4, _, acc, accD, by rw [← w3']; exact S4.wiped vs, fs2.trans fs4, o4, a4, r4, Nat.le_succ_of_le hla, hk4⟩
    | true =>
      rw [if_pos rfl] at hk4
      refine itT ?_
      refine ⟨ρ4, F4, L :: O, _, S4, hk4, fun z ρ5 v F5 H5 hk5 S5 fs5 ko5 _ r5 => ?_⟩
      have r5 : Rep c.K F5 v z := r5
      refine ⟨acc, by rw [ko5 L (by simp), a4], by have := big_line; omega, F5, _, acc ++ [v], accD ++ [z], ?_, fs2.trans (fs4.trans fs5), fun a m => ?_, upd_same, (r4.same fs5).snoc r5, by simp; omega, hk5⟩
      · rw [← w3']; exact (S5.writeO (by simp)).wiped vs
      · rw [upd_ne (fun z => nDO (by rw [← z]; exact m)), ko5 a (by simp [m]), o4 a m]
  · have e : i = ds.length := by omega
    subst e
    rw [List.drop_length] at hw
    refine .inl ⟨wk.stop F' H' fs' S'.sub, ?_⟩
    have S3 := S1.back no (S'.release nDO) fs'
    have := k (.lst accD) ⟨ρ'.g, backL ρ1.sl ρ'.sl vs⟩ L (.lst acc) F' (gone H' L) hw S3 (fs1.trans fs') (fun a m => by rw [gone_ne (fun z => nDO (by rw [← z]; exact m)), ko' a m, ko1 a m]) (fun z => by cases z) gone_at rac
    rw [gone_upd hacc] at this
    exact this
theorem fe_lc {scope : Scope} {own : List (Str × Nat)} (hN : X.N.Nodup) (hi : DI X c tg iter wi) (ok : BlkOk X.N X.env.scope scope own)
    (hg : ∀ (s : Shared) (H : Hp) (C : Addr) (cl : List (Str × Addr)) (fp : List Addr), DG (X.blk s H scope (compEnvC scope cl C X.env) fp) c tg ts g) (ht : ∀ (s : Shared) (H : Hp) (C : Addr) (cl : List (Str × Addr)) (fp : List Addr), DTs (X.blk s H scope (compEnvC scope cl C X.env) fp) c ifs wt)
    (he : ∀ (s : Shared) (H : Hp) (C : Addr) (cl : List (Str × Addr)) (fp : List Addr), DE (X.blk s H scope (compEnvC scope cl C X.env) fp) c pb false elt we) (hv : ∀ i ∈ ts, i ∈ own.map (·.2) := by decide) (hk : X.K = c.K := by rfl) (hc : X.calm = true := by rfl)
    (hs : ∀ x, foldedSetIterable iter X.env x = pure x := by intro _; rfl) : FE X c false (.ListComp elt [⟨tg, iter, ifs, 0⟩] scope pos) (wLc wi g wt we (own.map (·.2))) :=
  ⟨(pe_lc hc hN hi.pi ok (fun s H C cl fp => (hg s H C cl fp).pg) (fun s H C cl fp => (ht s H C cl fp).pts) (fun s H C cl fp => (he s H C cl fp).pe) hs).imp fun σ H Q h => lc_ok h hv, hk⟩
/-- x = [..], x a plain local -/
theorem ps_lc {scope : Scope} {own : List (Str × Nat)} {spos py : Pos} {i : Nat} {y : Str} (hN : X.N.Nodup) (hi : DI X c tg iter wi) (ok : BlkOk X.N X.env.scope scope own)
    (hg : ∀ (s : Shared) (H : Hp) (C : Addr) (cl : List (Str × Addr)) (fp : List Addr), DG (X.blk s H scope (compEnvC scope cl C X.env) fp) c tg ts g) (ht : ∀ (s : Shared) (H : Hp) (C : Addr) (cl : List (Str × Addr)) (fp : List Addr), DTs (X.blk s H scope (compEnvC scope cl C X.env) fp) c ifs wt)
    (he : ∀ (s : Shared) (H : Hp) (C : Addr) (cl : List (Str × Addr)) (fp : List Addr), DE (X.blk s H scope (compEnvC scope cl C X.env) fp) c pb false elt we) (hsw : swapsWith (.ListComp elt [⟨tg, iter, ifs, 0⟩] scope pos) (some (.Name y py)) spos.line X.env = pure true)
    (hy : X.N[i]? = some y := by rfl) (hyl : X.env.scope.names.lookup y = some .local := by rfl) (hv : ∀ i ∈ ts, i ∈ own.map (·.2) := by decide) (hk : X.K = c.K := by rfl) (hc : X.calm = true := by rfl)
    (hs : ∀ x, foldedSetIterable iter X.env x = pure x := by intro _; rfl) : PS X (.Assign [.Name y py] (.ListComp elt [⟨tg, iter, ifs, 0⟩] scope pos) spos) (tAsg (liftF c false (wLc wi g wt we (own.map (·.2)))) (gName i)) :=
  (ps_setLc hc hN hy hyl hsw hi.pi ok (fun s H C cl fp => (hg s H C cl fp).pg) (fun s H C cl fp => (ht s H C cl fp).pts) (fun s H C cl fp => (he s H C cl fp).pe) hs).imp fun E σ H h => lc_ok h hv
theorem ds_newP {st : Stmt} {i : Nat} (h : PS X st (tAsg (liftF c false we) (gName i))) : DS1 X c fr st (sNew i we) :=
  ⟨h.imp fun E σ H ⟨ρ, F, Dk, S, w, k1, k2, k3, k4⟩ => ⟨ρ, F, [], _, S, w, fun d ρ1 q o F1 H1 hk S1 fs1 ko1 g1 hq ob => k1 _ _ F1 _ hk (S1.setO hq ob i) fs1⟩⟩
theorem ds_setP {st : Stmt} {i : Nat} (h : PS X st (tAsg (liftF c false we) (gName i))) : DS1 X c fr st (sSet i we) :=
  ⟨h.imp fun E σ H ⟨ρ, F, Dk, S, w, k1, k2, k3, k4⟩ => ⟨ρ, F, [], _, S, w, fun d ρ1 q o F1 H1 hk S1 fs1 ko1 g1 hq ob => by
    have al : Al F1 H1 (upd F1 q o) (upd H1 q o) := Al.one hq
    have gr := al.grow S1.sub
    refine k1 _ _ (upd F1 q o) _ hk ((S1.grow gr).setF ?_ i) (fs1.trans gr.fs)
    cases o <;> cases d <;> simp only [ObjD] at ob
    · exact .lst upd_same (ob.same gr.fs)
    · exact .dK upd_same ob.1 (ob.2.same gr.fs)
    · exact .dT upd_same ob.1 (ob.2.same gr.fs)⟩⟩
end
end Q

set_option Elab.async false
set_option linter.all false
set_option maxRecDepth 100000
set_option maxHeartbeats 4000000
/-! answers without a change; promises as functions -/
namespace Q
open PySem PySem.Spec PyProof.Rows L2
/-- what answers y and changes nothing -/
def Ev {R : Rgn} (we : WE R) (ρ : DS R) (y : D) : Prop := ∀ K, K y ρ → we ρ K
def EvB {R : Rgn} (wt : WB R) (ρ : DS R) (b : Bool) : Prop := ∀ K, K b ρ → wt ρ K
def EvI {R : Rgn} (wi : WI R) (ρ : DS R) (ds : List D) : Prop := ∀ K, K ds ρ → wi ρ K
/-- a def's promise: on data that fit, this answer -/
def wF (ok : List D → Prop) (g : List D → D) : WM := fun ds Kk => ok ds ∧ Kk (g ds)
def tame : D → Prop
  | .str z => z.length ≤ 100000
  | .ins _ _ _ => False
  | .raw _ => False
  | _ => True
section
variable {R : Rgn} {ρ : DS R} {g : WG R} {wt : WB R} {we : WE R} {wi : WI R} {i : Nat}
theorem put_put {x y : Option DV} : (ρ.put i x).put i y = ρ.put i y := by
  show (⟨ρ.g, (ρ.sl.set i x).set i y⟩ : DS R) = ⟨ρ.g, ρ.sl.set i y⟩
  rw [List.set_set]
theorem put_back {x : Option DV} (h : ρ.sl[i]? = some x) : ρ.put i x = ρ := by
  show (⟨ρ.g, ρ.sl.set i x⟩ : DS R) = ρ
  have : ρ.sl.set i x = ρ.sl := by
    apply List.ext_getElem?
    intro j
    rw [set_get]
    by_cases e : i = j
    · subst e
      rw [if_pos rfl, h]
      have : i < ρ.sl.length := (List.getElem?_eq_some_iff.mp h).1
      rw [if_pos this]
    · rw [if_neg e]
  rw [this]
theorem lcGo_ev {α : Type} {h : α → D} {K : List D → DS R → Prop} {p : α → Bool} {f : α → D} : ∀ (xs : List α) (acc : List D), (∀ d ∈ xs, EvB wt (ρ.put i (some (.fz (h d)))) (p d)) → (∀ d ∈ xs, p d = true → Ev we (ρ.put i (some (.fz (h d)))) (f d)) →
    K (acc ++ (xs.filter p).map f) (ρ.put i none) → lcGo (gNm i) wt we [i] K (xs.map h) acc (ρ.put i none)
  | [], acc, _, _, k => by
    rw [List.filter_nil, List.map_nil, List.append_nil] at k
    exact k
  | d :: xs, acc, h1, h2, k => by
    rw [List.map_cons]
    unfold lcGo
    show wt ((ρ.put i none).put i (some (.fz (h d)))) _
    rw [put_put]
    refine h1 d (by simp) _ ?_
    have e : (⟨(ρ.put i (some (DV.fz (h d)))).g, wipeL (ρ.put i (some (DV.fz (h d)))).sl [i]⟩ : DS R) = ρ.put i none := put_put
    cases hp : p d with
    | false =>
      refine itF ?_
      rw [e]
      refine lcGo_ev xs acc (fun x m => h1 x (by simp [m])) (fun x m => h2 x (by simp [m])) ?_
      rw [List.filter_cons_of_neg (by rw [hp]; decide)] at k
      exact k
    | true =>
      refine itT (h2 d (by simp) hp _ ?_)
      rw [e]
      refine lcGo_ev xs _ (fun x m => h1 x (by simp [m])) (fun x m => h2 x (by simp [m])) ?_
      rw [List.filter_cons_of_pos hp, List.map_cons] at k
      rw [List.append_assoc]
      exact k
theorem wLc_fm {α : Type} {h : α → D} {xs : List α} {p : α → Bool} {f : α → D} {x : Option DV} (hi : EvI wi ρ (xs.map h)) (hz : xs.length ≤ 100000) (hx : ρ.sl[i]? = some x) (no : ∀ d, x ≠ some (.own d)) (ht : ∀ d ∈ xs, EvB wt (ρ.put i (some (.fz (h d)))) (p d))
    (he : ∀ d ∈ xs, p d = true → Ev we (ρ.put i (some (.fz (h d)))) (f d)) : Ev (wLc wi (gNm i) wt we [i]) ρ (.lst ((xs.filter p).map f)) := by
  intro K k
  refine hi _ ⟨by rw [List.length_map]; exact hz, fun j m d q => ?_, ?_⟩
  · have e : j = i := by simpa using m
    subst e
    rw [hx] at q
    exact no d (Option.some.inj q)
  · refine lcGo_ev xs [] ht he ?_
    rw [List.nil_append]
    have : (⟨(ρ.put i none).g, backL ρ.sl (ρ.put i none).sl [i]⟩ : DS R) = ρ := by
      show (⟨ρ.g, (ρ.sl.set i none).set i (ρ.sl.getD i none)⟩ : DS R) = ρ
      rw [List.set_set, List.getD_eq_getElem?_getD, hx]
      exact put_back hx
    rw [this]
    exact k
theorem wLc_m {α : Type} {h : α → D} {xs : List α} {f : α → D} {x : Option DV} (hi : EvI wi ρ (xs.map h)) (hz : xs.length ≤ 100000) (hx : ρ.sl[i]? = some x) (no : ∀ d, x ≠ some (.own d)) (he : ∀ d ∈ xs, Ev we (ρ.put i (some (.fz (h d)))) (f d)) :
    Ev (wLc wi (gNm i) wYes we [i]) ρ (.lst (xs.map f)) := by
  have q := wLc_fm (p := fun _ => true) (wt := wYes) hi hz hx no (fun d _ K k => k) fun d m _ => he d m
  rw [List.filter_eq_self.mpr fun _ _ => rfl] at q
  exact q
theorem wLc_map {ds : List D} {f : D → D} {x : Option DV} (hi : EvI wi ρ ds) (hz : ds.length ≤ 100000) (hx : ρ.sl[i]? = some x) (no : ∀ d, x ≠ some (.own d)) (he : ∀ d ∈ ds, Ev we (ρ.put i (some (.fz d))) (f d)) :
    Ev (wLc wi (gNm i) wYes we [i]) ρ (.lst (ds.map f)) := wLc_m (h := id) (by rw [List.map_id]; exact hi) hz hx no he
theorem wLc_filter {ds : List D} {f : D → D} {p : D → Bool} {x : Option DV} (hi : EvI wi ρ ds) (hz : ds.length ≤ 100000) (hx : ρ.sl[i]? = some x) (no : ∀ d, x ≠ some (.own d)) (ht : ∀ d ∈ ds, EvB wt (ρ.put i (some (.fz d))) (p d))
    (he : ∀ d ∈ ds, p d = true → Ev we (ρ.put i (some (.fz d))) (f d)) : Ev (wLc wi (gNm i) wt we [i]) ρ (.lst ((ds.filter p).map f)) := wLc_fm (h := id) (by rw [List.map_id]; exact hi) hz hx no ht he
end
theorem eqv_str (a b : Str) : PyData.eqv (.str a) (.str b) = decide (a = b) := by simp only [PyData.eqv]; first | rfl | (cases h : decide (a = b) <;> simp_all)
theorem bls_map {α : Type} (p : α → Bool) : ∀ xs : List α, blsD (xs.map fun x => .bl (p x)) = some (xs.map p)
  | [] => rfl
  | x :: xs => by rw [List.map_cons, blsD, bls_map p xs]; rfl
theorem all_map {α : Type} (p : α → Bool) (xs : List α) : allD (.lst (xs.map fun x => .bl (p x))) = some (.bl (xs.all p)) := by
  rw [allD, bls_map]
  simp [Option.map, Function.comp_def]
theorem any_map {α : Type} (p : α → Bool) (xs : List α) : anyD (.lst (xs.map fun x => .bl (p x))) = some (.bl (xs.any p)) := by
  rw [anyD, bls_map]
  simp [Option.map, Function.comp_def]
theorem seq_of {R : Rgn} {we : WE R} {ρ : DS R} {d : D} {ds : List D} (h : Ev we ρ d) (e : seqD d = some ds) : EvI (wSq we) ρ ds := fun K k => h _ ⟨ds, e, k⟩
end Q

set_option Elab.async false
set_option linter.all false
set_option maxRecDepth 100000
set_option maxHeartbeats 4000000
/-! what the operators answer, kind by kind -/
namespace Q
open PySem PySem.Spec PyProof.Rows L2
@[simp] theorem tr_non  : truD .non = some false := rfl
@[simp] theorem kd_non  : kD2 .non = some .non := rfl
@[simp] theorem nn_non  : isNonD .non = some true := rfl
@[simp] theorem da_non  : isDat .non = true := by simp only [isDat]
@[simp] theorem dp_non  : dep .non = 0 := by simp only [dep]
@[simp] theorem tr_bl (b : Bool) : truD (.bl b) = some b := rfl
@[simp] theorem kd_bl (b : Bool) : kD2 (.bl b) = some .bool := rfl
@[simp] theorem nn_bl (b : Bool) : isNonD (.bl b) = some false := rfl
@[simp] theorem da_bl (b : Bool) : isDat (.bl b) = true := by simp only [isDat]
@[simp] theorem dp_bl (b : Bool) : dep (.bl b) = 0 := by simp only [dep]
@[simp] theorem tr_int (i : Int) : truD (.int i) = some (i != 0) := rfl
@[simp] theorem kd_int (i : Int) : kD2 (.int i) = some .int := rfl
@[simp] theorem nn_int (i : Int) : isNonD (.int i) = some false := rfl
@[simp] theorem da_int (i : Int) : isDat (.int i) = true := by simp only [isDat]
@[simp] theorem dp_int (i : Int) : dep (.int i) = 0 := by simp only [dep]
@[simp] theorem tr_str (s : Str) : truD (.str s) = if s.length ≤ sizeLine then some ((s.length : Int) != 0) else none := rfl
@[simp] theorem kd_str (s : Str) : kD2 (.str s) = some .str := rfl
@[simp] theorem nn_str (s : Str) : isNonD (.str s) = some false := rfl
@[simp] theorem da_str (s : Str) : isDat (.str s) = true := by simp only [isDat]
@[simp] theorem dp_str (s : Str) : dep (.str s) = 0 := by simp only [dep]
@[simp] theorem tr_lst (xs : List D) : truD (.lst xs) = some (!xs.isEmpty) := rfl
@[simp] theorem kd_lst (xs : List D) : kD2 (.lst xs) = some .list := rfl
@[simp] theorem nn_lst (xs : List D) : isNonD (.lst xs) = some false := rfl
@[simp] theorem da_lst (xs : List D) : isDat (.lst xs) = isDats xs := by simp only [isDat]
@[simp] theorem dp_lst (xs : List D) : dep (.lst xs) = deps xs + 1 := by simp only [dep]
@[simp] theorem tr_tup (ts : List D) : truD (.tup ts) = some (!ts.isEmpty) := rfl
@[simp] theorem kd_tup (ts : List D) : kD2 (.tup ts) = some .tuple := rfl
@[simp] theorem nn_tup (ts : List D) : isNonD (.tup ts) = some false := rfl
@[simp] theorem da_tup (ts : List D) : isDat (.tup ts) = isDats ts := by simp only [isDat]
@[simp] theorem dp_tup (ts : List D) : dep (.tup ts) = deps ts + 1 := by simp only [dep]
@[simp] theorem kd_dct (ks vs : List D) : kD2 (.dct ks vs) = some .dict := rfl
@[simp] theorem kd_dtt (ks vs : List D) : kD2 (.dtt ks vs) = some .dict := rfl
@[simp] theorem nn_dct (ks vs : List D) : isNonD (.dct ks vs) = some false := rfl
@[simp] theorem nn_dtt (ks vs : List D) : isNonD (.dtt ks vs) = some false := rfl
@[simp] theorem eq_non_non   : deq .non .non = true := by simp [deq]
@[simp] theorem eq_non_bl  (b' : Bool) : deq .non (.bl b') = false := by simp [deq]
@[simp] theorem eq_non_int  (i' : Int) : deq .non (.int i') = false := by simp [deq]
@[simp] theorem eq_non_str  (s' : Str) : deq .non (.str s') = false := by simp [deq]
@[simp] theorem eq_non_lst  (xs' : List D) : deq .non (.lst xs') = false := by simp [deq]
@[simp] theorem eq_non_tup  (ts' : List D) : deq .non (.tup ts') = false := by simp [deq]
@[simp] theorem eq_bl_non (b : Bool)  : deq (.bl b) .non = false := by simp [deq]
@[simp] theorem eq_bl_bl (b : Bool) (b' : Bool) : deq (.bl b) (.bl b') = (b == b') := by simp [deq]
@[simp] theorem eq_bl_int (b : Bool) (i' : Int) : deq (.bl b) (.int i') = ((if b then 1 else 0) == i') := by simp [deq]
@[simp] theorem eq_bl_str (b : Bool) (s' : Str) : deq (.bl b) (.str s') = false := by simp [deq]
@[simp] theorem eq_bl_lst (b : Bool) (xs' : List D) : deq (.bl b) (.lst xs') = false := by simp [deq]
@[simp] theorem eq_bl_tup (b : Bool) (ts' : List D) : deq (.bl b) (.tup ts') = false := by simp [deq]
@[simp] theorem eq_int_non (i : Int)  : deq (.int i) .non = false := by simp [deq]
@[simp] theorem eq_int_bl (i : Int) (b' : Bool) : deq (.int i) (.bl b') = (i == (if b' then 1 else 0)) := by simp [deq]
@[simp] theorem eq_int_int (i : Int) (i' : Int) : deq (.int i) (.int i') = (i == i') := by simp [deq]
@[simp] theorem eq_int_str (i : Int) (s' : Str) : deq (.int i) (.str s') = false := by simp [deq]
@[simp] theorem eq_int_lst (i : Int) (xs' : List D) : deq (.int i) (.lst xs') = false := by simp [deq]
@[simp] theorem eq_int_tup (i : Int) (ts' : List D) : deq (.int i) (.tup ts') = false := by simp [deq]
@[simp] theorem eq_str_non (s : Str)  : deq (.str s) .non = false := by simp [deq]
@[simp] theorem eq_str_bl (s : Str) (b' : Bool) : deq (.str s) (.bl b') = false := by simp [deq]
@[simp] theorem eq_str_int (s : Str) (i' : Int) : deq (.str s) (.int i') = false := by simp [deq]
@[simp] theorem eq_str_str (s : Str) (s' : Str) : deq (.str s) (.str s') = (s == s') := by simp [deq]
@[simp] theorem eq_str_lst (s : Str) (xs' : List D) : deq (.str s) (.lst xs') = false := by simp [deq]
@[simp] theorem eq_str_tup (s : Str) (ts' : List D) : deq (.str s) (.tup ts') = false := by simp [deq]
@[simp] theorem eq_lst_non (xs : List D)  : deq (.lst xs) .non = false := by simp [deq]
@[simp] theorem eq_lst_bl (xs : List D) (b' : Bool) : deq (.lst xs) (.bl b') = false := by simp [deq]
@[simp] theorem eq_lst_int (xs : List D) (i' : Int) : deq (.lst xs) (.int i') = false := by simp [deq]
@[simp] theorem eq_lst_str (xs : List D) (s' : Str) : deq (.lst xs) (.str s') = false := by simp [deq]
@[simp] theorem eq_lst_lst (xs : List D) (xs' : List D) : deq (.lst xs) (.lst xs') = deqs xs xs' := by simp [deq]
@[simp] theorem eq_lst_tup (xs : List D) (ts' : List D) : deq (.lst xs) (.tup ts') = false := by simp [deq]
@[simp] theorem eq_tup_non (ts : List D)  : deq (.tup ts) .non = false := by simp [deq]
@[simp] theorem eq_tup_bl (ts : List D) (b' : Bool) : deq (.tup ts) (.bl b') = false := by simp [deq]
@[simp] theorem eq_tup_int (ts : List D) (i' : Int) : deq (.tup ts) (.int i') = false := by simp [deq]
@[simp] theorem eq_tup_str (ts : List D) (s' : Str) : deq (.tup ts) (.str s') = false := by simp [deq]
@[simp] theorem eq_tup_lst (ts : List D) (xs' : List D) : deq (.tup ts) (.lst xs') = false := by simp [deq]
@[simp] theorem eq_tup_tup (ts : List D) (ts' : List D) : deq (.tup ts) (.tup ts') = deqs ts ts' := by simp [deq]
@[simp] theorem it_non_non : isTy .non .non = true := rfl
@[simp] theorem it_non_bool : isTy .non .bool = false := rfl
@[simp] theorem it_non_int : isTy .non .int = false := rfl
@[simp] theorem it_non_str : isTy .non .str = false := rfl
@[simp] theorem it_non_list : isTy .non .list = false := rfl
@[simp] theorem it_non_tuple : isTy .non .tuple = false := rfl
@[simp] theorem it_non_dict : isTy .non .dict = false := rfl
@[simp] theorem it_bool_non : isTy .bool .non = false := rfl
@[simp] theorem it_bool_bool : isTy .bool .bool = true := rfl
@[simp] theorem it_bool_int : isTy .bool .int = true := rfl
@[simp] theorem it_bool_str : isTy .bool .str = false := rfl
@[simp] theorem it_bool_list : isTy .bool .list = false := rfl
@[simp] theorem it_bool_tuple : isTy .bool .tuple = false := rfl
@[simp] theorem it_bool_dict : isTy .bool .dict = false := rfl
@[simp] theorem it_int_non : isTy .int .non = false := rfl
@[simp] theorem it_int_bool : isTy .int .bool = false := rfl
@[simp] theorem it_int_int : isTy .int .int = true := rfl
@[simp] theorem it_int_str : isTy .int .str = false := rfl
@[simp] theorem it_int_list : isTy .int .list = false := rfl
@[simp] theorem it_int_tuple : isTy .int .tuple = false := rfl
@[simp] theorem it_int_dict : isTy .int .dict = false := rfl
@[simp] theorem it_str_non : isTy .str .non = false := rfl
@[simp] theorem it_str_bool : isTy .str .bool = false := rfl
@[simp] theorem it_str_int : isTy .str .int = false := rfl
@[simp] theorem it_str_str : isTy .str .str = true := rfl
@[simp] theorem it_str_list : isTy .str .list = false := rfl
@[simp] theorem it_str_tuple : isTy .str .tuple = false := rfl
@[simp] theorem it_str_dict : isTy .str .dict = false := rfl
@[simp] theorem it_list_non : isTy .list .non = false := rfl
@[simp] theorem it_list_bool : isTy .list .bool = false := rfl
@[simp] theorem it_list_int : isTy .list .int = false := rfl
@[simp] theorem it_list_str : isTy .list .str = false := rfl
@[simp] theorem it_list_list : isTy .list .list = true := rfl
@[simp] theorem it_list_tuple : isTy .list .tuple = false := rfl
@[simp] theorem it_list_dict : isTy .list .dict = false := rfl
@[simp] theorem it_tuple_non : isTy .tuple .non = false := rfl
@[simp] theorem it_tuple_bool : isTy .tuple .bool = false := rfl
@[simp] theorem it_tuple_int : isTy .tuple .int = false := rfl
@[simp] theorem it_tuple_str : isTy .tuple .str = false := rfl
@[simp] theorem it_tuple_list : isTy .tuple .list = false := rfl
@[simp] theorem it_tuple_tuple : isTy .tuple .tuple = true := rfl
@[simp] theorem it_tuple_dict : isTy .tuple .dict = false := rfl
@[simp] theorem it_dict_non : isTy .dict .non = false := rfl
@[simp] theorem it_dict_bool : isTy .dict .bool = false := rfl
@[simp] theorem it_dict_int : isTy .dict .int = false := rfl
@[simp] theorem it_dict_str : isTy .dict .str = false := rfl
@[simp] theorem it_dict_list : isTy .dict .list = false := rfl
@[simp] theorem it_dict_tuple : isTy .dict .tuple = false := rfl
@[simp] theorem it_dict_dict : isTy .dict .dict = true := rfl
@[simp] theorem ds_0 : isDats [] = true := by simp only [isDats]
@[simp] theorem ds_1 (x : D) (xs : List D) : isDats (x :: xs) = (isDat x && isDats xs) := by simp only [isDats]
@[simp] theorem dps_0 : deps [] = 0 := by simp only [deps]
@[simp] theorem dps_1 (x : D) (xs : List D) : deps (x :: xs) = max (dep x) (deps xs) := by simp only [deps]
@[simp] theorem eqs_0 : deqs [] [] = true := by simp [deqs]
@[simp] theorem eqs_1 (x y : D) (xs ys : List D) : deqs (x :: xs) (y :: ys) = (deq x y && deqs xs ys) := by simp [deqs]
@[simp] theorem eqs_2 (x : D) (xs : List D) : deqs (x :: xs) [] = false := by simp [deqs]
@[simp] theorem eqs_3 (x : D) (xs : List D) : deqs [] (x :: xs) = false := by simp [deqs]
@[simp] theorem ad_int (a b : Int) : addD (.int a) (.int b) = some (.int (a + b)) := rfl
@[simp] theorem ad_str (a b : Str) : addD (.str a) (.str b) = if a.length + b.length ≤ 100000 then some (.str (a ++ b)) else none := rfl
@[simp] theorem ad_lst (a b : List D) : addD (.lst a) (.lst b) = if a.length + b.length ≤ 100000 then some (.lst (a ++ b)) else none := rfl
@[simp] theorem ad_tup (a b : List D) : addD (.tup a) (.tup b) = if a.length + b.length ≤ 100000 then some (.tup (a ++ b)) else none := rfl
@[simp] theorem sb_int (a b : Int) : subD (.int a) (.int b) = some (.int (a - b)) := rfl
@[simp] theorem cm_int (p : Int → Int → Bool) (a b : Int) : cmpD p (.int a) (.int b) = some (.bl (p a b)) := rfl
@[simp] theorem in_lst (n : Bool) (x : D) (ds : List D) : inD n x (.lst ds) = inSq n x ds := rfl
@[simp] theorem in_tup (n : Bool) (x : D) (ds : List D) : inD n x (.tup ds) = inSq n x ds := rfl
@[simp] theorem in_str (n : Bool) (x : D) (z : Str) : inD n x (.str z) = inTx n x z := rfl
@[simp] theorem in_sgn (n : Bool) (c : Nat) (z : Str) : inTx n (.str ⟨#[c]⟩) z = some (.bl (xr n (decide (c ∈ z.cps.toList)))) := rfl
@[simp] theorem ix_lst (ds : List D) (i : Int) : ixD (.lst ds) (.int i) = (ixN ds.length i).bind fun j => ds[j]? := rfl
@[simp] theorem ix_tup (ds : List D) (i : Int) : ixD (.tup ds) (.int i) = (ixN ds.length i).bind fun j => ds[j]? := rfl
@[simp] theorem ix_str (z : Str) (i : Int) : ixD (.str z) (.int i) = if z.length ≤ 100000 then (ixN z.cps.toList.length i).bind fun j => (signs z)[j]? else none := rfl
@[simp] theorem sl_lst (a b : Option Int) (ds : List D) : slD a b (.lst ds) = some (.lst (cutD ds a b)) := rfl
@[simp] theorem sl_tup (a b : Option Int) (ds : List D) : slD a b (.tup ds) = some (.tup (cutD ds a b)) := rfl
@[simp] theorem sl_txt (a b : Option Int) (z : Str) : slD a b (.str z) = if z.length ≤ 100000 then some (.str (cutS z a b)) else none := rfl
@[simp] theorem ln_lst (ds : List D) : lenD (.lst ds) = some (.int ds.length) := rfl
@[simp] theorem ln_tup (ds : List D) : lenD (.tup ds) = some (.int ds.length) := rfl
@[simp] theorem ln_str (z : Str) : lenD (.str z) = if z.length ≤ 100000 then some (.int z.length) else none := rfl
@[simp] theorem ln_dct (ks vs : List D) : lenD (.dct ks vs) = some (.int ks.length) := rfl
@[simp] theorem ln_dtt (ks vs : List D) : lenD (.dtt ks vs) = some (.int ks.length) := rfl
@[simp] theorem tu_lst (ds : List D) : tupleD (.lst ds) = some (.tup ds) := rfl
@[simp] theorem tu_tup (ds : List D) : tupleD (.tup ds) = some (.tup ds) := rfl
@[simp] theorem li_lst (ds : List D) : listD (.lst ds) = some (.lst ds) := rfl
@[simp] theorem li_tup (ds : List D) : listD (.tup ds) = some (.lst ds) := rfl
@[simp] theorem id_non (n : Bool) (x : D) : isD n x .non = (isNonD x).map fun k => .bl (xr n (k)) := rfl
@[simp] theorem sq_lst (ds : List D) : seqD (.lst ds) = some ds := rfl
@[simp] theorem sq_tup (ds : List D) : seqD (.tup ds) = some ds := rfl
@[simp] theorem sq_str (z : Str) : seqD (.str z) = some (signs z) := rfl
@[simp] theorem tm_non  : tame .non = True := rfl
@[simp] theorem tm_bl (b : Bool) : tame (.bl b) = True := rfl
@[simp] theorem tm_int (i : Int) : tame (.int i) = True := rfl
@[simp] theorem tm_str (s : Str) : tame (.str s) = (s.length ≤ 100000) := rfl
@[simp] theorem tm_lst (xs : List D) : tame (.lst xs) = True := rfl
@[simp] theorem tm_tup (ts : List D) : tame (.tup ts) = True := rfl
@[simp] theorem tm_dct (ks vs : List D) : tame (.dct ks vs) = True := rfl
@[simp] theorem tm_dtt (ks vs : List D) : tame (.dtt ks vs) = True := rfl
@[simp] theorem tm_ins (C : Addr) (ns : List Str) (xs : List D) : tame (.ins C ns xs) = False := rfl
@[simp] theorem tm_raw (v : V) : tame (.raw v) = False := rfl
end Q

set_option Elab.async false
set_option linter.all false
set_option maxRecDepth 100000
set_option maxHeartbeats 4000000
/-! dicts with plain keys -/
namespace Q
open PySem PySem.Spec PyProof.Rows L2
instance keyMem (k : Key) (ks : List Key) : Decidable (k ∈ ks) := @List.instDecidableMemOfLawfulBEq _ instBEqOfDecidableEq inferInstance k ks
theorem kD_inj : ∀ {k j : Key}, kD k = kD j → k = j
  | .inl _, .inl _, h => by cases h; rfl
  | .inr _, .inr _, h => by cases h; rfl
  | .inl _, .inr _, h => by cases h
  | .inr _, .inl _, h => by cases h
theorem kD_map : ∀ {ks js : List Key}, ks.map kD = js.map kD → ks = js
  | [], [], _ => rfl
  | [], _ :: _, h => by cases h
  | _ :: _, [], h => by cases h
  | k :: ks, j :: js, h => by
    rw [List.map_cons, List.map_cons] at h
    have h1 := (List.cons.inj h).1
    have h2 := (List.cons.inj h).2
    rw [kD_inj h1, kD_map h2]
theorem Rep.key {K : PySem.W.Frag} {F : Hp} {v : V} : ∀ {k : Key}, Rep K F v (kD k) → v = kV k
  | .inl _, h => by cases h; rfl
  | .inr _, h => by cases h; rfl
theorem rep_key {K : PySem.W.Frag} {F : Hp} : ∀ k : Key, Rep K F (kV k) (kD k)
  | .inl i => .int i
  | .inr x => .str x
theorem BV.key {K : PySem.W.Frag} {F H : Hp} {v : V} : ∀ {k : Key}, BV K F H v (kD k) → v = kV k
  | .inl _, h => h.int
  | .inr _, h => h.str
def putKs (ks : List Key) (k : Key) : List Key := if k ∈ ks then ks else ks ++ [k]
def putVs (ks : List Key) (vs : List D) (k : Key) (v : D) : List D := if k ∈ ks then List.zipWith (fun j u => if j = k then v else u) ks vs else vs ++ [v]
theorem any_key (k : Key) : ∀ kvs : List (Key × V), (kvs.any fun kv => decide (kv.1 = k)) = decide (k ∈ kvs.map (·.1))
  | [] => rfl
  | kv :: kvs => by
    rw [List.any_cons, any_key k kvs, List.map_cons]
    by_cases e : kv.1 = k
    · simp [e]
    · have : ¬ k = kv.1 := fun z => e z.symm
      simp [e, this]
theorem putK_keys (k : Key) (v : V) (kvs : List (Key × V)) : (putK kvs k v).map (·.1) = putKs (kvs.map (·.1)) k := by
  unfold putK putKs
  rw [any_key]
  by_cases h : k ∈ kvs.map (·.1)
  · rw [if_pos (by simpa using h), if_pos h, List.map_map]
    apply List.map_congr_left
    intro kv _
    show (if kv.1 = k then (kv.1, v) else kv).1 = kv.1
    split <;> rfl
  · rw [if_neg (by simpa using h), if_neg h, List.map_append]
    rfl
theorem putK_vals {K : PySem.W.Frag} {F : Hp} (k : Key) {v : V} {d : D} (r : Rep K F v d) {kvs : List (Key × V)} {ds : List D} (h : Reps K F (kvs.map (·.2)) ds) : Reps K F ((putK kvs k v).map (·.2)) (putVs (kvs.map (·.1)) ds k d) := by
  unfold putK putVs
  rw [any_key]
  by_cases m : k ∈ kvs.map (·.1)
  · rw [if_pos (by simpa using m), if_pos m]
    clear m
    induction kvs generalizing ds with
    | nil => cases h; exact .nil
    | cons kv kvs ih =>
      cases h with
      | cons h1 h2 =>
        rw [List.map_cons, List.map_cons, List.map_cons, List.zipWith_cons_cons]
        refine .cons ?_ (ih h2)
        by_cases e : kv.1 = k
        · rw [if_pos e, if_pos e]; exact r
        · rw [if_neg e, if_neg e]; exact h1
  · rw [if_neg (by simpa using m), if_neg m, List.map_append]
    exact h.snoc r
def valD : List Key → List D → Key → Option D
  | j :: ks, v :: vs, k => if j = k then some v else valD ks vs k
  | _, _, _ => none
theorem valD_of {K : PySem.W.Frag} {F : Hp} (k : Key) : ∀ {kvs : List (Key × V)} {ds : List D}, Reps K F (kvs.map (·.2)) ds → (∀ d, valD (kvs.map (·.1)) ds k = some d → ∃ v, valV kvs k = some v ∧ Rep K F v d)
  | [], _, _, d, h => by simp [valD] at h
  | kv :: kvs, _, .cons r t, d, h => by
    rw [List.map_cons] at h
    unfold valD at h
    by_cases e : kv.1 = k
    · rw [if_pos e] at h
      cases h
      exact ⟨_, valV_pos e, r⟩
    · rw [if_neg e] at h
      rw [valV_neg e]
      exact valD_of k t d h
section
variable {X : Cx} {c : Ctx} {fr : Bool} {tg iter e e2 kx vx a b : Expr} {ifs : List Expr} {pos p : Pos} {pa pb ba bb : Bool} {ts vs : List Nat} {g : WG c.R} {we wb wk wv : WE c.R} {wi : WI c.R} {wt : WB c.R} {j : Nat}
/-- {} -/
theorem fe_d0 (hk : X.K = c.K := by rfl) : FE X c true (.Dict [] [] pos) (wC c.R (.dct [] [])) :=
  ⟨pe_dnewK.imp fun σ H Q ⟨ρ, F, O, Kk, S, w, k⟩ q hq => k _ ρ q (.dK []) F H w S (Same.refl _) (fun _ _ => rfl) (fun _ => ⟨rfl, Grow.refl S.sub⟩) hq ⟨rfl, .nil⟩, hk⟩
/-- x[k] = e, x a dict of the def's own -/
def sDput {R : Rgn} (i : Nat) (we wk : WE R) : WS R := fun Dk ρ => we ρ fun d ρ1 => (∃ d0, ρ1.sl[i]? = some (some (.own d0))) ∧ wk ρ1 fun kd ρ2 => ∃ (k : Key) (ks : List Key) (vs : List D), kd = kD k ∧ ρ2.sl[i]? = some (some (.own (.dct (ks.map kD) vs))) ∧ ks.length < 100000 ∧ Dk.nx (ρ2.put i (some (.own (.dct ((putKs ks k).map kD) (putVs ks vs k d)))))
theorem ds_dput {i : Nat} {x : Str} {k : Expr} {pp qp : Pos} (hr : Room j X.A) (he : DE X c pa false e we) (hx : DE X c pb bb k wk) (hN : X.N[i]? = some x := by rfl) (hv : Vis X.env.scope x := by first | exact .inl rfl | exact .inr (.inl rfl) | exact .inr (.inr rfl))
    (hd : (x == ("__debug__" : Str)) = false := by decide) (hcd : (x == ("__classdict__" : Str)) = false := by decide) (hs : swapsWith e (some (.Subscript (.Name x pp) k qp)) pos.line X.env = pure false := by rfl) :
    DS1 X c fr (.Assign [.Subscript (.Name x pp) k qp] e pos) (sDput i we wk) :=
  ⟨(ps_dput (hu_of hr) (pe_var hN hv hd hcd) hx.pe he.pe hs).imp fun E σ H ⟨ρ, F, Dk, S, w, k1, k2, k3, k4⟩ => by
    refine ⟨ρ, F, [], _, S, w, fun d ρ1 v F1 H1 ⟨⟨d0, h0⟩, hk⟩ S1 fs1 ko1 g1 r1 => ?_⟩
    obtain ⟨q, hq, _⟩ := own_at S1 h0
    refine ⟨.ref q, hq, ρ1, F1, [], _, S1, hk, fun kd ρ2 kv F2 H2 ⟨kk, ks, vs, ek, h2, hl, hk2⟩ S2 fs2 ko2 g2 r2 => ?_⟩
    subst ek
    obtain ⟨q', hq', kvs, hvs, hks, rv⟩ := own_at S2 h2
    rw [hq] at hq'
    cases hq'
    have hks : ks = kvs.map (·.1) := kD_map (by rw [hks, List.map_map]; rfl)
    subst hks
    refine ⟨q, _, rfl, .inl ⟨kvs, kk, hvs, (r2.bv S2).key, by rw [List.length_map] at hl; exact Nat.lt_of_lt_of_le hl big_line, rfl⟩, ?_⟩
    exact k1 _ σ F2 _ hk2 (S2.write hq h2 (o := .dK (putK kvs kk v)) ⟨by rw [← putK_keys kk v, List.map_map]; rfl, putK_vals kk (Rep.same fs2 r1) rv⟩) (fs1.trans fs2)⟩
/-- k in x, x a dict -/
def wDin {R : Rgn} (n : Bool) (wk we : WE R) : WE R := fun ρ K => wk ρ fun kd ρ1 => we ρ1 fun d ρ2 => ∃ (k : Key) (ks : List Key) (vs : List D), kd = kD k ∧ d = .dct (ks.map kD) vs ∧ K (.bl (xr n (decide (k ∈ ks)))) ρ2
theorem din_ok {n : Bool} {wa : WE c.R} (he : DE X c pb bb b wb) (ha : DE X c pa false a wa) {σ : L2.St} {H : Hp} {Q : VK} (h : liftE c (pa && pb) false (wDin n wa wb) σ H Q) :
    liftE c pa false wa σ H fun y H1 => liftE c pb bb wb σ H1 fun x H2 => ∃ a o, x = .ref a ∧ DGet H2 a y o ∧ Q (.bl (xr n o.isSome)) H2 := by
  obtain ⟨ρ, F, O, Kk, S, w, k⟩ := h
  refine ⟨ρ, F, O, _, S, w, fun x ρ1 v F1 H1 hk S1 fs1 ko1 g1 r1 => ⟨ρ1, F1, O, _, S1, hk, fun d ρ2 u F2 H2 ⟨kk, ks, vs, ek, ed, kz⟩ S2 fs2 ko2 g2 r2 => ?_⟩⟩
  subst ek
  subst ed
  obtain ⟨q, kvs, rfl, h1, hks, r⟩ := (r2.bv S2).dct S2.sub
  have hks : ks = kvs.map (·.1) := kD_map (by rw [hks, List.map_map]; rfl)
  subst hks
  refine ⟨q, _, rfl, .inl ⟨kvs, kk, .inl h1, (r1.bv S1).key, rfl⟩, ?_⟩
  have e : (valV kvs kk).isSome = decide (kk ∈ kvs.map (·.1)) := by rw [← valV_any, any_key]
  rw [e]
  refine k _ ρ2 _ F2 H2 kz S2 (fs1.trans fs2) (fun q hq => by rw [ko2 q hq, ko1 q hq]) (fun e => ?_) (.bl _)
  rw [Bool.and_eq_true] at e
  obtain ⟨e1, q1⟩ := g1 e.1
  obtain ⟨e2, q2⟩ := g2 e.2
  exact ⟨e2.trans e1, q1.trans q2⟩
theorem de_din {wa : WE c.R} (hr : Room j X.A) (ha : DE X c pa false a wa) (hb : DE X c pb bb b wb) (hm : behindInMarks .In b = false := by rfl) : DE X c (pa && pb) false (.Compare a [.In] [b] pos) (wDin false wa wb) :=
  ⟨(pe_cmp (pc_din (hu_of hr) ha.pe hb.pe) hm).imp fun σ H Q h => din_ok hb ha h, ha.kk⟩
theorem de_dni {wa : WE c.R} (hr : Room j X.A) (ha : DE X c pa false a wa) (hb : DE X c pb bb b wb) (hm : behindInMarks .NotIn b = false := by rfl) : DE X c (pa && pb) false (.Compare a [.NotIn] [b] pos) (wDin true wa wb) :=
  ⟨(pe_cmp (pc_dnotin (hu_of hr) ha.pe hb.pe) hm).imp fun σ H Q h => din_ok hb ha h, ha.kk⟩
theorem dt_din {wa : WE c.R} (hr : Room j X.A) (ha : DE X c pa false a wa) (hb : DE X c pb bb b wb) (hm : behindInMarks .In b = false := by rfl) : DT X c (pa && pb) (.Compare a [.In] [b] pos) (wTest (wDin false wa wb)) :=
  ⟨(pt_cmp (pc_din (hu_of hr) ha.pe hb.pe) hm).imp fun σ H Q h => din_ok hb ha (test_ok (ba := false) h)⟩
theorem dt_dni {wa : WE c.R} (hr : Room j X.A) (ha : DE X c pa false a wa) (hb : DE X c pb bb b wb) (hm : behindInMarks .NotIn b = false := by rfl) : DT X c (pa && pb) (.Compare a [.NotIn] [b] pos) (wTest (wDin true wa wb)) :=
  ⟨(pt_cmp (pc_dnotin (hu_of hr) ha.pe hb.pe) hm).imp fun σ H Q h => din_ok hb ha (test_ok (ba := false) h)⟩
/-- x[k], x a dict -/
def wDget {R : Rgn} (we wk : WE R) : WE R := fun ρ K => we ρ fun d ρ1 => wk ρ1 fun kd ρ2 => ∃ (k : Key) (ks : List Key) (vs : List D) (z : D), kd = kD k ∧ d = .dct (ks.map kD) vs ∧ valD ks vs k = some z ∧ K z ρ2
theorem de_dget (hr : Room j X.A) (ha : DE X c pa ba e we) (hb : DE X c pb bb e2 wk) (hs : ba = false ∨ pb = true := by first | exact .inl rfl | exact .inr rfl) (hi : NoSl e2 := by exact fun _ _ => rfl) : DE X c (pa && pb) false (.Subscript e e2 pos) (wDget we wk) :=
  ⟨(pe_dget (hu_of hr) ha.pe hb.pe hi).imp fun σ H Q ⟨ρ, F, O, Kk, S, w, k⟩ => ⟨ρ, F, O, _, S, w, fun x ρ1 v F1 H1 hk S1 fs1 ko1 g1 r1 => ⟨ρ1, F1, O, _, S1, hk, fun kd ρ2 u F2 H2 ⟨kk, ks, vs, z, ek, ed, hz, kz⟩ S2 fs2 ko2 g2 r2 => by
    subst ek
    subst ed
    have c1 : VRep c.K F2 σ ρ2.sl v _ ba := r1.carry fs2 (hs.imp id fun e => by rw [(g2 e).1])
    obtain ⟨q, kvs, rfl, h1, hks, r⟩ := (c1.bv S2).dct S2.sub
    have hks : ks = kvs.map (·.1) := kD_map (by rw [hks, List.map_map]; rfl)
    subst hks
    obtain ⟨y, hy, ry⟩ := valD_of kk r z hz
    refine ⟨q, y, rfl, .inl ⟨kvs, kk, .inl h1, (r2.bv S2).key, hy.symm⟩, ?_⟩
    refine k z ρ2 y F2 H2 kz S2 (fs1.trans fs2) (fun q hq => by rw [ko2 q hq, ko1 q hq]) (fun e => ?_) ry
    rw [Bool.and_eq_true] at e
    obtain ⟨e1, q1⟩ := g1 e.1
    obtain ⟨e2, q2⟩ := g2 e.2
    exact ⟨e2.trans e1, q1.trans q2⟩⟩⟩, ha.kk⟩
/-- list(x), x a dict -/
def keysD : D → Option D
  | .dct ks _ => some (.lst ks)
  | _ => none
theorem reps_keys {K : PySem.W.Frag} {F : Hp} : ∀ kvs : List (Key × V), Reps K F (kvs.map fun kv => kV kv.1) (kvs.map fun kv => kD kv.1)
  | [] => .nil
  | kv :: kvs => .cons (rep_key kv.1) (reps_keys kvs)
theorem keys_ok {K : PySem.W.Frag} : R1F K rListD keysD := fun {F H v x z Q} s bx hz k => by
  cases x <;> simp only [keysD, reduceCtorEq] at hz
  cases hz
  obtain ⟨p, kvs, rfl, h1, n, r⟩ := bx.dct s
  exact ⟨p, kvs, rfl, h1, fun l hl => k l _ hl (by rw [n]; exact reps_keys kvs)⟩
theorem fe_listK (hm : X.mg "list" = none) (ha : DE X c pa ba e we) (hc : X.calm = true := by rfl) (hg : Gl X "list" := by rfl)
    (he : starEach [e] X.env = (false, eval e X.env) :: starEach [] X.env := by rfl) (hpl : (backTo pos (starEach [] X.env)).any (·.1) = false := by rfl) : FE X c pa (.Call (.Name "list" p) [e] [] pos) (wUn keysD we) :=
  fe_t1 (call_list_dK hc) keys_ok hm ha hg (by decide +kernel) (by decide) (by decide) he hpl
/-- dict([(k, v), ..]) -/
def pairD : Key → D → D := fun k v => .tup [kD k, v]
def wDict {R : Rgn} (we : WE R) : WE R := fun ρ K => we ρ fun d ρ1 => ∃ (ks : List Key) (vs : List D), d = .lst (List.zipWith pairD ks vs) ∧ ks.length = vs.length ∧ ks.Nodup ∧ K (.dct (ks.map kD) vs) ρ1
theorem pairs_of {K : PySem.W.Frag} {F : Hp} : ∀ {us : List V} {ks : List Key} {vs : List D}, Reps K F us (List.zipWith pairD ks vs) → ks.length = vs.length → ∃ (ps : List Addr) (kvs : List (Key × V)), us = ps.map V.ref ∧ Paired (fun p kv => SqT K F p [kV kv.1, kv.2]) ps kvs ∧ kvs.map (·.1) = ks ∧ Reps K F (kvs.map (·.2)) vs
  | _, [], [], h, _ => by cases h; exact ⟨[], [], rfl, .nil, rfl, .nil⟩
  | _, [], _ :: _, _, h => by cases h
  | _, _ :: _, [], _, h => by cases h
  | _, k :: ks, v :: vs, h, e => by
    rw [List.zipWith_cons_cons] at h
    cases h with
    | cons r t =>
      cases r with
      | tup hs rr =>
        cases rr with
        | cons r1 rr =>
          cases rr with
          | cons r2 rr =>
            cases rr
            obtain ⟨ps, kvs, e1, h1, h2, h3⟩ := pairs_of t (by simpa using e)
            refine ⟨_ :: ps, (k, _) :: kvs, by rw [e1]; rfl, .cons ?_ h1, by rw [List.map_cons, h2], .cons r2 h3⟩
            have := r1.key
            subst this
            exact hs
theorem putK_fresh {kvs : List (Key × V)} {k : Key} {v : V} (h : k ∉ kvs.map (·.1)) : putK kvs k v = kvs ++ [(k, v)] := by
  unfold putK
  rw [any_key, if_neg (by simpa using h)]
theorem mergeK_nodup : ∀ {kvs acc : List (Key × V)}, ((acc ++ kvs).map (·.1)).Nodup → mergeK acc kvs = acc ++ kvs
  | [], acc, _ => by rw [List.append_nil]; rfl
  | (k, v) :: kvs, acc, h => by
    have hk : k ∉ acc.map (·.1) := fun m => by
      rw [List.map_append, List.map_cons] at h
      exact (List.nodup_append.mp h).2.2 k m k (by simp) rfl
    show mergeK (putK acc k v) kvs = acc ++ (k, v) :: kvs
    rw [putK_fresh hk, mergeK_nodup (by rw [List.append_assoc]; exact h), List.append_assoc]
    rfl
theorem Paired.impl {α β : Type} {P Q : α → β → Prop} (h : ∀ a b, P a b → Q a b) : ∀ {xs : List α} {ys : List β}, Paired P xs ys → Paired Q xs ys
  | _, _, .nil => .nil
  | _, _, .cons p t => .cons (h _ _ p) (Paired.impl h t)
theorem fe_dict (hm : X.mg "dict" = none) (ha : DE X c pa ba e we) (hc : X.calm = true := by rfl) (hg : Gl X "dict" := by rfl)
    (he : starEach [e] X.env = (false, eval e X.env) :: starEach [] X.env := by rfl) (hpl : (backTo pos (starEach [] X.env)).any (·.1) = false := by rfl) : FE X c pa (.Call (.Name "dict" p) [e] [] pos) (wDict we) :=
  ⟨(pe_callTy (call_dictP (X := X) hc) hg hm (by decide +kernel) (pa_cons ha.pe pa_nil he) (by decide) (by decide) he hpl).imp fun σ H Q ⟨ρ, F, O, Kk, S, w, k⟩ => ⟨ρ, F, O, _, S, w, fun d ρ1 v F1 H1 ⟨ks, vs, ed, hl, nd, hk⟩ S1 fs1 ko1 g1 r1 => by
    subst ed
    obtain ⟨a, us, rfl, h1, r⟩ := (r1.bv S1).lst S1.sub
    obtain ⟨ps, kvs, rfl, h2, h3, h4⟩ := pairs_of r hl
    rw [ha.kk]
    refine ⟨a, ps, kvs, rfl, SqL.of h1, Paired.impl (fun p kv q => SqT.same S1.sub q) h2, fun q hq => ?_⟩
    rw [mergeK_nodup (by rw [List.nil_append, h3]; exact nd), List.nil_append]
    exact k _ ρ1 q (.dK kvs) F1 H1 hk S1 fs1 ko1 g1 hq ⟨by rw [← h3, List.map_map]; rfl, h4⟩⟩, ha.kk⟩
/-! ### {k: v for ..} -/
def dcGo {R : Rgn} (g : WG R) (wt : WB R) (wk wv : WE R) (us : List Nat) (K : List Key → List D → DS R → Prop) : List D → List Key → List D → DS R → Prop
  | [], ks, vs, ρ => K ks vs ρ
  | d :: ds, ks, vs, ρ => g d ρ fun ρ2 => wt ρ2 fun b ρ3 => if b = true then wk ρ3 fun y ρ4 => wv ρ4 fun z ρ5 => ∃ k, y = kD k ∧ dcGo g wt wk wv us K ds (putKs ks k) (putVs ks vs k z) ⟨ρ5.g, wipeL ρ5.sl us⟩ else dcGo g wt wk wv us K ds ks vs ⟨ρ3.g, wipeL ρ3.sl us⟩
def wDc {R : Rgn} (wi : WI R) (g : WG R) (wt : WB R) (wk wv : WE R) (us : List Nat) : WE R := fun ρ K => wi ρ fun ds ρ1 => ds.length ≤ 100000 ∧ NoOwn ρ1.sl us ∧ dcGo g wt wk wv us (fun ks vs ρ2 => K (.dct (ks.map kD) vs) ⟨ρ2.g, backL ρ1.sl ρ2.sl us⟩) ds [] [] ⟨ρ1.g, wipeL ρ1.sl us⟩
theorem putKs_length (ks : List Key) (k : Key) : (putKs ks k).length ≤ ks.length + 1 := by unfold putKs; split <;> simp
theorem dc_ok {us : List Nat} {σ : L2.St} {H : Hp} {Q : VK} (h : liftF c false (wDc wi g wt wk wv us) σ H Q) (hv : ∀ i ∈ ts, i ∈ us) : tDc (liftI c wi) (liftG c ts g) (liftT c false wt) (liftE c pa false wk) (liftE c pb false wv) us σ H Q := by
  obtain ⟨ρ, F, O, Kk, S, w, k⟩ := h
  refine ⟨ρ, F, O, _, S, w, fun ds ρ1 F1 H1 J ⟨hz, no, hk⟩ S1 fs1 ko1 wk' L hD => ?_⟩
  have nDO : L ∉ O := fun m => (S1.out L m).2.2 hD
  refine ⟨fun i m H' => ∃ (F' : Hp) (ρ' : DS c.R) (kvs : List (Key × V)) (vs : List D), m = ds.length - i ∧ i ≤ ds.length ∧ St c F' (L :: O) (wipe σ us) ρ' H' ∧ Same F1 F' ∧ (∀ a ∈ O, H' a = H1 a) ∧ H' L = some (.dK kvs) ∧ Reps c.K F' (kvs.map (·.2)) vs ∧ kvs.length ≤ i ∧
    dcGo g wt wk wv us (fun ks vs ρ2 => Kk (.dct (ks.map kD) vs) ⟨ρ2.g, backL ρ1.sl ρ2.sl us⟩) (ds.drop i) (kvs.map (·.1)) vs ρ', ⟨ds.length, F1, ⟨ρ1.g, wipeL ρ1.sl us⟩, [], [], rfl, Nat.zero_le _, (S1.wiped us).protect hD, Same.refl _, fun a m => upd_ne fun z => nDO (by rw [← z]; exact m), upd_same, .nil, Nat.le_refl _, hk⟩, ?_⟩
  rintro i m H' ⟨F', ρ', kvs, vs, rfl, hi, S', fs', ko', hacc, rac, hla, hw⟩
  by_cases hlt : i < ds.length
  · obtain ⟨hgo, hy⟩ := wk'.go F' H' i fs' S'.sub hlt
    refine .inr ⟨hgo, fun H2 => ∃ (F2 : Hp) (ρ2 : DS c.R) (kvs2 : List (Key × V)) (vs2 : List D), St c F2 (L :: O) (wipe σ us) ρ2 H2 ∧ Same F1 F2 ∧ (∀ a ∈ O, H2 a = H1 a) ∧ H2 L = some (.dK kvs2) ∧ Reps c.K F2 (kvs2.map (·.2)) vs2 ∧ kvs2.length ≤ i + 1 ∧
      dcGo g wt wk wv us (fun ks vs ρ2 => Kk (.dct (ks.map kD) vs) ⟨ρ2.g, backL ρ1.sl ρ2.sl us⟩) (ds.drop (i + 1)) (kvs2.map (·.1)) vs2 ρ2, fun H2 ⟨F2, ρ2, kvs2, vs2, q1, q2, q3, q4, q5, q6, q7⟩ => ⟨ds.length - (i + 1), by omega, F2, ρ2, kvs2, vs2, rfl, hlt, q1, q2, q3, q4, q5, q6, q7⟩, fun x H2 y => ?_⟩
    obtain ⟨d, F2, hd, al, rp⟩ := hy x H2 y
    rw [List.drop_eq_getElem_cons hlt] at hw
    have e : d = ds[i] := by
      rw [List.getElem?_eq_getElem hlt] at hd
      exact (Option.some.inj hd).symm
    subst e
    have S2 := S'.grow (al.grow S'.sub)
    have fs2 : Same F1 F2 := fs'.trans (al.fs S'.sub)
    have k2 : ∀ a ∈ L :: O, H2 a = H' a := ko_al S' al
    refine ⟨ρ', F2, L :: O, _, ds[i], S2, rp, hw, fun ρ3 σ3 hk3 S3 w3 => ⟨?_, ρ3, F2, L :: O, _, S3, hk3, fun b ρ4 F4 H4 hk4 S4 fs4 ko4 _ => ?_⟩⟩
    · rw [w3 us hv, wipe_twice fun _ m => m]
    have w3' : wipe σ3 us = wipe σ us := by rw [w3 us hv, wipe_twice fun _ m => m]
    have a4 : H4 L = some (.dK kvs) := by rw [ko4 L (by simp), k2 L (by simp), hacc]
    have o4 : ∀ a ∈ O, H4 a = H1 a := fun a m => by rw [ko4 a (by simp [m]), k2 a (by simp [m]), ko' a m]
    have r4 := (rac.same (al.fs S'.sub)).same fs4
    cases b with
    | false =>
      rw [if_neg (by decide)] at hk4
      refine itF ?_
      exact ⟨F4, _, kvs, vs, by rw [← w3']; exact S4.wiped us, fs2.trans fs4, o4, a4, r4, Nat.le_succ_of_le hla, hk4⟩
    | true =>
      rw [if_pos rfl] at hk4
      refine itT ?_
      refine ⟨ρ4, F4, L :: O, _, S4, hk4, fun y ρ5 u F5 H5 hk5 S5 fs5 ko5 _ r5 => ⟨ρ5, F5, L :: O, _, S5, hk5, fun z ρ6 v F6 H6 ⟨kk, ek, hk6⟩ S6 fs6 ko6 _ r6 => ?_⟩⟩
      subst ek
      have r6 : Rep c.K F6 v z := r6
      refine ⟨kvs, kk, (r5.bv S5).key, by rw [ko6 L (by simp), ko5 L (by simp), a4], by have := big_line; omega, F6, _, putK kvs kk v, putVs (kvs.map (·.1)) vs kk z, ?_, fs2.trans (fs4.trans (fs5.trans fs6)), fun a m => ?_, upd_same, putK_vals kk r6 ((r4.same fs5).same fs6), ?_, by rw [putK_keys]; exact hk6⟩
      · rw [← w3']; exact (S6.writeO (by simp)).wiped us
      · rw [upd_ne (fun z => nDO (by rw [← z]; exact m)), ko6 a (by simp [m]), ko5 a (by simp [m]), o4 a m]
      · have h1 := congrArg List.length (putK_keys kk v kvs)
        have h2 := putKs_length (kvs.map (·.1)) kk
        rw [List.length_map] at h1 h2
        omega
  · have e : i = ds.length := by omega
    subst e
    rw [List.drop_length] at hw
    refine .inl ⟨wk'.stop F' H' fs' S'.sub, ?_⟩
    have S3 := S1.back no (S'.release nDO) fs'
    unfold dcGo at hw
    have := k (.dct ((kvs.map (fun x => x.1)).map kD) vs) ⟨ρ'.g, backL ρ1.sl ρ'.sl us⟩ L (.dK kvs) F' (gone H' L) hw S3 (fs1.trans fs') (fun a m => by rw [gone_ne (fun z => nDO (by rw [← z]; exact m)), ko' a m, ko1 a m]) (fun z => by cases z) gone_at ⟨by rw [List.map_map]; rfl, rac⟩
    rw [gone_upd hacc] at this
    exact this
theorem fe_dc {scope : Scope} {own : List (Str × Nat)} (hr : Room j X.A) (hN : X.N.Nodup) (hi : DI X c tg iter wi) (ok : BlkOk X.N X.env.scope scope own)
    (hg : ∀ (s : Shared) (H : Hp) (C : Addr) (cl : List (Str × Addr)) (fp : List Addr), DG (X.blk s H scope (compEnvC scope cl C X.env) fp) c tg ts g) (ht : ∀ (s : Shared) (H : Hp) (C : Addr) (cl : List (Str × Addr)) (fp : List Addr), DTs (X.blk s H scope (compEnvC scope cl C X.env) fp) c ifs wt)
    (he : ∀ (s : Shared) (H : Hp) (C : Addr) (cl : List (Str × Addr)) (fp : List Addr), DE (X.blk s H scope (compEnvC scope cl C X.env) fp) c pa false kx wk) (he2 : ∀ (s : Shared) (H : Hp) (C : Addr) (cl : List (Str × Addr)) (fp : List Addr), DE (X.blk s H scope (compEnvC scope cl C X.env) fp) c pb false vx wv)
    (hv : ∀ i ∈ ts, i ∈ own.map (·.2) := by decide) (hk : X.K = c.K := by rfl) (hc : X.calm = true := by rfl)
    (hs : ∀ x, foldedSetIterable iter X.env x = pure x := by intro _; rfl) : FE X c false (.DictComp kx vx [⟨tg, iter, ifs, 0⟩] scope pos) (wDc wi g wt wk wv (own.map (·.2))) :=
  ⟨(pe_dc hc hN hi.pi ok (fun s H C cl fp => (hg s H C cl fp).pg) (fun s H C cl fp => (ht s H C cl fp).pts) (fun s H C cl fp => (he s H C cl fp).pe) (fun s H C cl fp => (he2 s H C cl fp).pe) hs).imp fun σ H Q h => dc_ok h hv, hk⟩
end
end Q

set_option Elab.async false
set_option linter.all false
set_option maxRecDepth 100000
set_option maxHeartbeats 4000000
/-! own ==, !=, len of instances -/
namespace Q
open PySem PySem.Spec PyProof.Rows L2
section
open PySem.W
variable {prog : Program} {w : World} {A : Around} {E : Value → Shared → Prop} {s : Shared} {K : Frag} {x C L f : Addr} {h₀ : Heap} {m : Str → Option Value} {ox : Obj} {od : Option Obj} {name : Str} {b tb : Value}
theorem ifBound_B {M : Model} {B id : String} {args : List Value} {R : Option Value → Shared → Prop} (inK : K.In s.heap) (I : InstAt s.heap x ox C od) (found : findIn K (.ref C) name = some (some (.builtin id))) (S : Slot B name id)
    (h : wpAny M A (call (.builtin id) (.ref x :: args)) (fun v => R (some v)) E s) : wpAny M A (callSpecialIfBound? (.ref x) name args) R E s := by
  simp only [bindSpecialIfBound?, callSpecialIfBound?]
  refine wpAny_holding (wpAny_bind (wpAny_bind (wpAny_bind (I.type.here ((looks_findIn inK found).here ?_)))))
  simp only [S.bind]
  refine wpAny_bind ?_
  refine wpAny_askSetting ?_
  refine wpAny_ite ?_
  have ends : wpAny M A (call (.builtin id) ([.ref x] ++ args) >>= fun v => pure (some v)) R E s := wpAny_bind (wpAny_mono h (fun v s' h' => wpAny_pure h') fun _ _ h' => h')
  split
  · exact wpAny_bind (wpAny_pure (wpAny_pure ends))
  · exact wpAny_tryCatch (wpAny_bind (wpAny_pure (wpAny_pure ends)))
theorem ne_inst {R : Value → Shared → Prop} (room : A.units + 1 < cLine) (G : Fr h₀ L s.heap m) (X₀ : K.In h₀) (I : InstAt s.heap x ox C od) (tyb : Looks (model prog w) s.heap (typeOf b) tb) (nf : notFirst K C tb = true)
    (hne : findIn K (.ref C) "__ne__" = some (some (.builtin "object.__ne__"))) (found : findIn K (.ref C) "__eq__" = some (some (.ref f))) (hf : isFn K (.ref f) = true) (hm : mroIn K C (.type "object") = some true)
    (h : wpAny (model prog w) A.in1 (call (.ref f) [.ref x, b]) (fun v s' => ∃ k, v = .bool k ∧ R (.bool !k) s') E s) : wpAny (model prog w) A (richCompare .NotEq (.ref x) b) R E s := by
  have inK := X₀.keeps G.keep
  have inner : wpAny (model prog w) A.in1 (Builtin.«object.__ne__» ⟨[.ref x, b], []⟩) (fun fl s' => ∃ k, fl = .done (.ret (.bool k)) ∧ R (.bool k) s') E s := by
    unfold Builtin.«object.__ne__»; refine wpAny_bind (m := slotArgs "__ne__" 1 _) (wpAny_pure ?_)
    refine wpAny_bind (wpAny_cRoomFor room ?_)
    refine wpAny_bind (ifBound_K inK I found hf (wpAny_mono h (fun v s' hv => ?_) fun _ _ e => e))
    obtain ⟨k, rfl, told⟩ := hv
    refine wpAny_bind (wpAny_truthy_bool ?_)
    exact wpAny_pure ⟨_, rfl, told⟩
  have once : wpAny (model prog w) A (tryCompare (.ref x) "__ne__" b) (fun r s' => ∃ v, r = some v ∧ R v s') E s := by
    unfold tryCompare
    refine wpAny_bind (ifBound_B inK I hne PySem.F.cmp_object.ne (wpAny_call (codeAny_call_builtin PySem.F.cmp_object.ne.plain PySem.F.cmpEntry_ne (check_slot PySem.F.cmpKind_ne PySem.F.cmpSplit_ne (I.type.andThen (looks_mroIn inK hm)) (PySem.F.cmpArgs_ne _ _)
      (wpAny_mono inner (fun fl s' hv => ?_) fun _ _ e => e)))))
    obtain ⟨k, rfl, told⟩ := hv
    exact wpAny_pure ⟨_, rfl, told⟩
  unfold richCompare
  simp only [oneThing_ref]
  refine wpAny_holding (wpAny_bind (wpAny_cRoomFor (by omega) ?_))
  refine wpAny_bind (I.type.here (wpAny_bind (tyb.here ?_)))
  split
  · rename_i q
    have noSub : subIn K tb (.ref C) = some false := by
      rcases Bool.or_eq_true_iff.mp nf with is | is
      · rw [beq_iff_eq.mp is] at q; simp at q
      · exact beq_iff_eq.mp is
    refine wpAny_bind ((looks_subIn inK noSub).here ?_)
    simp only [if_false, Bool.false_eq_true]
    refine wpAny_bind ?_
    refine wpAny_mono once (fun r s1 z => ?_) fun _ _ q => q
    obtain ⟨v, rfl, told⟩ := z
    exact wpAny_pure told
  · refine wpAny_bind ?_; refine wpAny_pure ?_
    simp only [if_false, Bool.false_eq_true]
    refine wpAny_bind ?_
    refine wpAny_mono once (fun r s1 z => ?_) fun _ _ q => q
    obtain ⟨v, rfl, told⟩ := z
    exact wpAny_pure told
end
section
variable {X : Cx} {C g : Addr} {n : Nat} {sp : Sp}
def rOwnC (K : PySem.W.Frag) (C : Addr) (neg : Bool) (sp : Sp) : R2 := fun x y H Q => ∃ a dx fs t, x = .ref a ∧ H a = some (.ins C dx fs) ∧ TyX K H y t ∧ PySem.W.notFirst K C t = true ∧ sp [x, y] H (fun z H' => ∃ b, z = .bl b ∧ Q (.bl (xr neg b)) H') E0
theorem op_ownE (hs : PySem.W.findIn X.K (.ref C) "__eq__" = some (some (.ref g))) (hf : PySem.W.isFn X.K (.ref g) = true) (F : L2.FnR X.prog X.w X.K X.mg X.base CX0 n g sp) (hr : Room n X.A) : OpR X (compareOp .Eq) (rOwnC X.K C false sp) := by
  intro pn s σ H x y v u Q I rX rY h
  obtain ⟨a, dx, fs, t, rfl, ha, ty, hn, q⟩ := h
  have rX' := rX
  cases (show v = .ref a from rX)
  obtain ⟨attrs, J1, _⟩ := ins_get I.hok ha
  obtain ⟨od, J1, _⟩ := J1.look
  obtain ⟨P, kx, hp, _⟩ := kit_of I rY ty
  obtain ⟨m, hF⟩ := I.fr
  show wpAny (model X.prog X.w) X.A (richCompare .Eq (.ref a) u) (EP X pn σ Q) X.xe s
  refine PySem.W.cmp_K (op := .Eq) hr.units0 hF I.ok.mod.kin J1 (kx.ty _ _ I.kIn hp) hn hs hf ?_
  refine wpAny_mono (wpAny_call (run_fnR (us := [.ref a, u]) F hr pass0 I (.cons rX' (.cons rY .nil)) q)) (fun w s' z => ?_) fun _ _ x => x
  obtain ⟨z', H', I', rZ, b, rfl, qz⟩ := z
  exact SlX.cmpback rZ ⟨_, H', I', rZ, qz⟩
theorem op_ownN (hne : PySem.W.findIn X.K (.ref C) "__ne__" = some (some (.builtin "object.__ne__"))) (hs : PySem.W.findIn X.K (.ref C) "__eq__" = some (some (.ref g))) (hf : PySem.W.isFn X.K (.ref g) = true) (hm : PySem.W.mroIn X.K C (.type "object") = some true)
    (F : L2.FnR X.prog X.w X.K X.mg X.base CX0 n g sp) (hr : Room (n + 1) X.A) : OpR X (compareOp .NotEq) (rOwnC X.K C true sp) := by
  intro pn s σ H x y v u Q I rX rY h
  obtain ⟨a, dx, fs, t, rfl, ha, ty, hn, q⟩ := h
  have rX' := rX
  cases (show v = .ref a from rX)
  obtain ⟨attrs, J1, _⟩ := ins_get I.hok ha
  obtain ⟨od, J1, _⟩ := J1.look
  obtain ⟨P, kx, hp, _⟩ := kit_of I rY ty
  obtain ⟨m, hF⟩ := I.fr
  show wpAny (model X.prog X.w) X.A (richCompare .NotEq (.ref a) u) (EP X pn σ Q) X.xe s
  refine ne_inst (by have := hr.units; omega) hF I.ok.mod.kin J1 (kx.ty _ _ I.kIn hp) hn hne hs hf hm ?_
  refine wpAny_mono (wpAny_call (SlX.run_at (us := [.ref a, u]) F hr.in1 I.env0.in1 pass0 I (.cons rX' (.cons rY .nil)) q)) (fun w s' z => ?_) fun _ _ x => x
  obtain ⟨z', H', I', rZ, b, rfl, qz⟩ := z
  cases (show w = Value.bool b from rZ)
  exact ⟨b, rfl, .bl (!b), H', I', rfl, qz⟩
def rOwnL (C : Addr) (sp : Sp) : List V → Hp → VK → Prop := fun xs H Q => ∃ a dx fs, xs = [V.ref a] ∧ H a = some (.ins C dx fs) ∧ sp xs H (fun z H' => ∃ i : Int, z = .int i ∧ 0 ≤ i ∧ i < 2 ^ 63 ∧ Q (.int i) H') E0
theorem call_lenO (hs : PySem.W.findIn X.K (.ref C) "__len__" = some (some (.ref g))) (hf : PySem.W.isFn X.K (.ref g) = true) (F : L2.FnR X.prog X.w X.K X.mg X.base CX0 n g sp) (hr : Room (n + 1) X.A) : CallR X (.builtin "len") (rOwnL C sp) := by
  intro pn s σ H xs us Q I r h
  obtain ⟨a, dx, fs, rfl, atA, q⟩ := h
  have ha := atA
  obtain ⟨u, rfl, ru⟩ := r.one
  have ru' := ru
  cases (show u = .ref a from ru)
  obtain ⟨attrs, J1, _⟩ := ins_get I.hok ha
  obtain ⟨od, J1, _⟩ := J1.look
  obtain ⟨m, hF⟩ := I.fr
  refine PySem.W.len_K hF I.ok.mod.kin J1 hs hf ?_
  refine wpAny_mono (wpAny_call (SlX.run_at (us := [.ref a]) F hr.in1 I.env0.in1 pass0 I (.cons ru' .nil) q)) (fun w s' z => ?_) fun _ _ x => x
  obtain ⟨z', H', I', rZ, i, rfl, h0, h1, qz⟩ := z
  obtain ⟨t, e⟩ := (show ∃ tk, w = Value.int i tk from rZ)
  cases e
  exact ⟨⟨h0, h1⟩, .int i, H', I'.tok _, ⟨_, rfl⟩, qz⟩
end
end Q

set_option Elab.async false
set_option linter.all false
set_option maxRecDepth 100000
set_option maxHeartbeats 4000000
/-! names set side by side, *, pop, instances -/
namespace Q
open PySem PySem.Spec PyProof.Rows L2
section
variable {X : Cx} {c : Ctx} {fr : Bool} {e e2 a b d : Expr} {es : List Expr} {pos p : Pos} {pa pb pd ba bb : Bool} {we wa wb : WE c.R} {was : WA c.R} {j : Nat}
/-! ### x, y = a, b -/
def sPar2 {R : Rgn} (i k : Nat) (wa : WA R) : WS R := fun Dk ρ => wa ρ fun ds ρ1 => ∃ x y, ds = [x, y] ∧ Dk.nx ((ρ1.put i (some (.fz x))).put k (some (.fz y)))
theorem ds_par2 {i k : Nat} {x y : Str} {px py pt : Pos} {kt k2 pt2} (hN : X.N.Nodup) (hij : i ≠ k) (ha : DA X c pa [a, b] was) (hi : X.N[i]? = some x := by rfl) (hj : X.N[k]? = some y := by rfl)
    (hx : X.env.scope.names.lookup x = some .local := by rfl) (hy : X.env.scope.names.lookup y = some .local := by rfl) (hc : X.calm = true := by rfl)
    (hw : swappedStores [.Tuple [.Name x px, .Name y py] kt pt] (.Tuple [a, b] k2 pt2) X.env = pure (some [x, y]) := by rfl)
    (hs : swapsWithSole [.Tuple [.Name x px, .Name y py] kt pt] (.Tuple [a, b] k2 pt2) pos.line X.env = pure false := by rfl) :
    DS1 X c fr (.Assign [.Tuple [.Name x px, .Name y py] kt pt] (.Tuple [a, b] k2 pt2) pos) (sPar2 i k was) :=
  ⟨(ps_par hc hN hi hj hij hx hy ha.pa hw hs).imp fun E σ H ⟨ρ, F, Dk, S, w, k1, k2, k3, k4⟩ => ⟨ρ, F, [], _, S, w, fun ds ρ1 vs F1 H1 ⟨x, y, e, hk⟩ S1 fs1 ko1 g1 r1 => by
    subst e
    cases r1 with
    | cons r r1 =>
      cases r1 with
      | cons r' r1 =>
        cases r1
        exact ⟨_, _, rfl, k1 _ _ F1 H1 hk ((S1.setF r i).setF r' k) fs1⟩⟩⟩
def sPar3 {R : Rgn} (i k l : Nat) (wa : WA R) : WS R := fun Dk ρ => wa ρ fun ds ρ1 => ∃ x y z, ds = [x, y, z] ∧ Dk.nx (((ρ1.put i (some (.fz x))).put k (some (.fz y))).put l (some (.fz z)))
theorem ds_par3 {i k l : Nat} {x y z : Str} {px py pz pt : Pos} {kt k2 pt2} (hN : X.N.Nodup) (hij : i ≠ k ∧ i ≠ l ∧ k ≠ l) (ha : DA X c pa [a, b, d] was) (hi : X.N[i]? = some x := by rfl) (hj : X.N[k]? = some y := by rfl) (hl : X.N[l]? = some z := by rfl)
    (hx : X.env.scope.names.lookup x = some .local := by rfl) (hy : X.env.scope.names.lookup y = some .local := by rfl) (hz : X.env.scope.names.lookup z = some .local := by rfl) (hc : X.calm = true := by rfl)
    (hw : swappedStores [.Tuple [.Name x px, .Name y py, .Name z pz] kt pt] (.Tuple [a, b, d] k2 pt2) X.env = pure (some [x, y, z]) := by rfl)
    (hs : swapsWithSole [.Tuple [.Name x px, .Name y py, .Name z pz] kt pt] (.Tuple [a, b, d] k2 pt2) pos.line X.env = pure false := by rfl) :
    DS1 X c fr (.Assign [.Tuple [.Name x px, .Name y py, .Name z pz] kt pt] (.Tuple [a, b, d] k2 pt2) pos) (sPar3 i k l was) :=
  ⟨(ps_par3 hc hN hi hj hl hij.1 hij.2.1 hij.2.2 hx hy hz ha.pa hw hs).imp fun E σ H ⟨ρ, F, Dk, S, w, k1, k2, k3, k4⟩ => ⟨ρ, F, [], _, S, w, fun ds ρ1 vs F1 H1 ⟨x, y, z, e, hk⟩ S1 fs1 ko1 g1 r1 => by
    subst e
    cases r1 with
    | cons r r1 =>
      cases r1 with
      | cons r' r1 =>
        cases r1 with
        | cons r'' r1 =>
          cases r1
          exact ⟨_, _, _, rfl, k1 _ _ F1 H1 hk (((S1.setF r i).setF r' k).setF r'' l) fs1⟩⟩⟩
/-! ### * -/
def mulD : D → D → Option D
  | .int a, .int b => if -18446744073709551616 < b ∧ b < 18446744073709551616 then some (.int (a * b)) else none
  | .lst ds, .int k => if 0 ≤ k ∧ k ≤ 1000 ∧ ds.length ≤ 100 then some (.lst (List.replicate k.toNat ds).flatten) else none
  | .tup ds, .int k => if 2 ≤ k ∧ k ≤ 1000 ∧ ds ≠ [] ∧ ds.length ≤ 100 then some (.tup (List.replicate k.toNat ds).flatten) else none
  | _, _ => none
theorem Reps.rep {K : PySem.W.Frag} {F : Hp} {vs : List V} {ds : List D} (r : Reps K F vs ds) : ∀ n : Nat, Reps K F (List.replicate n vs).flatten (List.replicate n ds).flatten
  | 0 => .nil
  | n + 1 => by
    rw [List.replicate_succ, List.replicate_succ, List.flatten_cons, List.flatten_cons]
    exact r.append (Reps.rep r n)
def rMulA (K : PySem.W.Frag) : R2 := fun x y H Q => (rI CMul (fun i j => .int (i * j)) x y H Q ∨ rRep x y H Q) ∨ rRepT K x y H Q
theorem mul_ok {K : PySem.W.Frag} : R2D K (rMulA K) mulD := fun {F H v u x y z Q} s bx by' hz k => by
  cases x <;> cases y <;> simp only [mulD, reduceCtorEq] at hz
  case int.int a b =>
    split at hz
    · next h => cases hz; exact .inl (.inl ⟨a, b, bx.int, by'.int, .inr (by have e : (2 : Int) ^ 64 = 18446744073709551616 := by decide
                                                                            rw [e]; exact h), k _ F H .no (.int _)⟩)
    · cases hz
  case lst.int ds i =>
    split at hz
    · next h =>
      cases hz
      obtain ⟨p, vs, rfl, h1, r⟩ := bx.lst s
      have e : (2 : Int) ^ 63 = 9223372036854775808 := by decide
      refine .inl (.inr ⟨p, i, vs, rfl, by'.int, h1, by rw [e]; omega, by rw [e]; omega, ?_, fun l hl => k _ _ _ (Al.one hl) (.lst upd_same ((r.rep i.toNat).same (Same.upd_at s hl)))⟩)
      rw [r.length]
      have h1 : ds.length * i.toNat ≤ 100 * 1000 := Nat.mul_le_mul h.2.2 (by omega)
      exact Nat.le_trans h1 big_line
    · cases hz
  case tup.int ds i =>
    split at hz
    · next h =>
      cases hz
      obtain ⟨p, vs, rfl, h1, r⟩ := bx.tup s
      exact .inr ⟨p, i, vs, rfl, by'.int, h1, fun e => by subst e; cases r; exact h.2.2.1 rfl, h.1, h.2.1, by rw [r.length]; omega, fun l hl => k _ _ _ (Al.one hl) (.tup (SqT.of upd_same) ((r.rep i.toNat).same (Same.upd_at s hl)))⟩
    · cases hz
theorem de_mul (ha : DE X c pa ba a wa) (hb : DE X c pb bb b wb) (hs : ba = false ∨ pb = true := by first | exact .inl rfl | exact .inr rfl) : DE X c (pa && pb) false (.BinOp a .Mult b pos) (wOp mulD wa wb) :=
  de_op (((op_mul (X := X)).or op_rep).or op_repT) (by rw [ha.kk]; exact mul_ok) ha hb hs
@[simp] theorem mu_int (a b : Int) : mulD (.int a) (.int b) = if -18446744073709551616 < b ∧ b < 18446744073709551616 then some (.int (a * b)) else none := rfl
@[simp] theorem mu_lst (a : List D) (k : Int) : mulD (.lst a) (.int k) = if 0 ≤ k ∧ k ≤ 1000 ∧ a.length ≤ 100 then some (.lst (List.replicate k.toNat a).flatten) else none := rfl
@[simp] theorem mu_tup (a : List D) (k : Int) : mulD (.tup a) (.int k) = if 2 ≤ k ∧ k ≤ 1000 ∧ a ≠ [] ∧ a.length ≤ 100 then some (.tup (List.replicate k.toNat a).flatten) else none := rfl
/-! ### x.pop(k), x a list of the def's own -/
def wPop {R : Rgn} (i : Nat) (we : WE R) : WE R := fun ρ K => (∃ ds, ρ.sl[i]? = some (some (.own (.lst ds)))) ∧ we ρ fun d ρ1 => ∃ (ds : List D) (n : Nat) (y : D), d = .int (n : Int) ∧ ρ1.sl[i]? = some (some (.own (.lst ds))) ∧ ds[n]? = some y ∧ ds.length ≤ 100000 ∧ K y (ρ1.put i (some (.own (.lst (ds.eraseIdx n)))))
theorem de_pop {i : Nat} {x : Str} {ep pp qp : Pos} (he : DE X c pa ba e we) (hN : X.N[i]? = some x := by rfl) (hv : Vis X.env.scope x := by first | exact .inl rfl | exact .inr (.inl rfl) | exact .inr (.inr rfl))
    (hd : (x == ("__debug__" : Str)) = false := by decide) (hcd : (x == ("__classdict__" : Str)) = false := by decide)
    (hbase : attributeBase (.Name x pp) "pop" X.env (eval (.Name x pp) X.env) = eval (.Name x pp) X.env := by rfl)
    (hfew : ((backTo ep (starEach [e] X.env)).all (fun x => !x.1) && (backToKw ep (keywordEach [] X.env)).all (fun x => x.1.isSome) && decide (([e] : List Expr).length + ([] : List Keyword).length + (if ([] : List Keyword).isEmpty then 0 else 1) < 30)) = true := by rfl)
    (hline : (qp.endLine == ep.line) = true := by rfl) (hst : starEach [e] X.env = (false, eval e X.env) :: starEach [] X.env := by rfl) (hplain : (backTo ep (starEach [] X.env)).any (·.1) = false := by rfl) :
    DE X c false false (.Call (.Attribute (.Name x pp) "pop" qp) [e] [] ep) (wPop i we) :=
  ⟨(pe_bm PySem.F.plainAttrs_list PySem.F.slot_list_pop PySem.F.type_list_pop mt_popAt (pe_var hN hv hd hcd) (pa_cons he.pe pa_nil hst) hbase hfew hline hst hplain).imp fun σ H Q ⟨ρ, F, O, Kk, S, ⟨⟨ds0, h0⟩, w⟩, k⟩ => by
    obtain ⟨q, hq, vs0, hvs0, _⟩ := own_at S h0
    refine ⟨.ref q, hq, .inl ⟨rfl, vs0, SqL.of hvs0⟩, ρ, F, O, _, S, w, fun d ρ1 v F1 H1 ⟨ds, n, y, ed, h2, hy, hz, hk⟩ S1 fs1 ko1 g1 r1 => ?_⟩
    subst ed
    obtain ⟨q', hq', vs, hvs, rv⟩ := own_at S1 h2
    rw [hq] at hq'
    cases hq'
    obtain ⟨z, hz1, rz⟩ := rv.get' hy
    have hn : n < vs.length := (List.getElem?_eq_some_iff.mp hz1).1
    have hvl := rv.length
    have e1 : (2 : Int) ^ 63 = 9223372036854775808 := by decide
    refine ⟨q, vs, (n : Int), n, z, rfl, by rw [(r1.bv S1).int], hvs, by rw [e1]; omega, by rw [e1]; omega, ?_, hz1, ?_⟩
    · unfold seqIndex?
      have : ¬ ((n : Int) < 0) := by omega
      simp [this, hn]
    · exact k y _ z F1 _ hk (S1.write hq h2 (o := .lst (vs.eraseIdx n)) (rv.erase n)) fs1 (fun a ha => by
        obtain ⟨m1, m2, m3⟩ := S1.mine i q ⟨hq, _, h2⟩
        rw [upd_ne (fun z => m3 (by rw [← z]; exact ha))]
        exact ko1 a ha) (fun z => by cases z) rz, he.kk⟩
/-! ### instances -/
def lookD : List Str → List D → Str → Option D
  | n :: ns, x :: xs, f => if f == n then some x else lookD ns xs f
  | _, _, _ => none
theorem lookD_of {K : PySem.W.Frag} {F : Hp} (f : Str) : ∀ {fs : List (Str × V)} {xs : List D}, Reps K F (fs.map (·.2)) xs → ∀ d, lookD (fs.map (·.1)) xs f = some d → ∃ v, fs.lookup f = some v ∧ Rep K F v d
  | [], _, _, d, h => by simp [lookD] at h
  | (n, v) :: fs, _, .cons r t, d, h => by
    rw [List.map_cons] at h
    unfold lookD at h
    rw [List.lookup_cons]
    cases e : f == n with
    | true => rw [e] at h; cases h; exact ⟨_, rfl, r⟩
    | false => rw [e] at h; exact lookD_of f t d h
/-- e.f -/
def wFld {R : Rgn} (C : Addr) (f : Str) (we : WE R) : WE R := fun ρ K => we ρ fun d ρ1 => ∃ ns xs z, d = .ins C ns xs ∧ lookD ns xs f = some z ∧ K z ρ1
theorem de_fld {C : Addr} {f : Str} (hC : Cls c.K C) (hn : NoAttr c.K C f) (he : DE X c pa ba e we) (hb : attributeBase e f X.env (eval e X.env) = eval e X.env := by rfl) : DE X c pa false (.Attribute e f pos) (wFld C f we) :=
  ⟨(pe_fld he.pe hb).imp fun σ H Q ⟨ρ, F, O, Kk, S, w, k⟩ => ⟨ρ, F, O, _, S, w, fun d ρ1 v F1 H1 ⟨ns, xs, z, ed, hz, hk⟩ S1 fs1 ko1 g1 r1 => by
    subst ed
    obtain ⟨a, dx, fs, rfl, h1, e1, r⟩ := (r1.bv S1).ins S1.sub
    subst e1
    obtain ⟨v, hv, rv⟩ := lookD_of f r z hz
    rw [he.kk]
    exact ⟨a, C, dx, fs, v, rfl, h1, hC, hn, hv, k z ρ1 v F1 H1 hk S1 fs1 ko1 g1 rv⟩⟩, he.kk⟩
/-- what is asked of a class for isinstance, ==, != and len -/
structure IsC (K : PySem.W.Frag) (C : Addr) : Prop where
  cls : Cls K C
  ha : PySem.W.findIn K (.ref C) "__class__" = some (some (.builtin "object.__class__"))
  hn : PySem.W.specialIn K (.builtin "object.__class__") "__get__" = some (some (.builtin "getset_descriptor.__get__"))
  ht : PySem.W.takesIn K (.builtin "object.__class__") = some true
  hm : PySem.W.mroIn K C (.type "object") = some true
  it : ∀ t : Ty, PySem.W.kitOne K (.type t.nm) (.ref C) = some false
  nf : ∀ t : Ty, PySem.W.notFirst K C (.type t.nm) = true
theorem IsC.self {K : PySem.W.Frag} {C : Addr} : PySem.W.kitOne K (.ref C) (.ref C) = some true := by
  unfold PySem.W.kitOne
  rw [if_pos (by simp)]
theorem IsC.selfN {K : PySem.W.Frag} {C : Addr} : PySem.W.notFirst K C (.ref C) = true := by simp [PySem.W.notFirst]
def isCD (C : Addr) : D → Option D
  | .ins C' _ _ => if C' = C then some (.bl true) else none
  | x => (kD2 x).map fun _ => .bl false
theorem tyC_of {K : PySem.W.Frag} {F H : Hp} {v : V} {C : Addr} {ns : List Str} {xs : List D} (I : IsC K C) (s : Same F H) (h : BV K F H v (.ins C ns xs)) : TyX K H v (.ref C) := by
  obtain ⟨a, dx, fs, rfl, h1, _⟩ := h.ins s
  exact .base (.ins h1 I.cls I.ha I.hn I.ht I.hm)
theorem isC_cases {C : Addr} {x z : D} (h : isCD C x = some z) : (∃ ns xs, x = .ins C ns xs ∧ z = .bl true) ∨ ∃ t, kD2 x = some t ∧ z = .bl false := by
  cases x <;> simp only [isCD, Option.map_eq_some_iff] at h
  case ins C' ns xs =>
    split at h
    · next e => cases h; subst e; exact .inl ⟨ns, xs, rfl, rfl⟩
    · cases h
  all_goals (obtain ⟨t, h1, h2⟩ := h; exact .inr ⟨t, h1, h2.symm⟩)
theorem de_isC {x : Str} {C : Addr} {p2 : Pos} (hm : X.mg "isinstance" = none) (hC : X.mg x = some (.ref C)) (I : IsC c.K C) (he : DE X c pa ba e we) (hg : Gl X "isinstance" := by rfl) (hgx : Gl X x := by rfl) (hdb : (x == ("__debug__" : Str)) = false := by decide)
    (he1 : starEach [e, .Name x p2] X.env = (false, eval e X.env) :: starEach [.Name x p2] X.env := by rfl) (he2 : starEach [.Name x p2] X.env = (false, eval (.Name x p2) X.env) :: starEach [] X.env := by rfl)
    (hpl : (backTo pos (starEach [.Name x p2] X.env)).any (·.1) = false := by rfl) : DE X c pa false (.Call (.Name "isinstance" p) [e, .Name x p2] [] pos) (wUn (isCD C) we) :=
  ⟨(pe_callB (call_isi (X := X)) hg hm (by decide +kernel) (pa_cons he.pe (pa_cons (pe_glob hgx hC (v := .ref C) rfl hdb) pa_nil he2) he1) (by decide) (by decide) he1 hpl).imp fun σ H Q ⟨ρ, F, O, Kk, S, w, k⟩ => ⟨ρ, F, O, _, S, w, fun x ρ1 v F1 H1 ⟨z, hz, hk⟩ S1 fs1 ko1 g1 r1 => by
    rw [he.kk]
    rcases isC_cases hz with ⟨ns, xs, rfl, rfl⟩ | ⟨t, ht, rfl⟩
    · exact ⟨v, _, _, _, _, rfl, .own _, tyC_of I S1.sub (r1.bv S1), IsC.self, k _ ρ1 _ F1 H1 hk S1 fs1 ko1 g1 (.bl _)⟩
    · exact ⟨v, _, _, _, _, rfl, .own _, ty_of2 S1.sub (r1.bv S1) ht, I.it t, k _ ρ1 _ F1 H1 hk S1 fs1 ko1 g1 (.bl _)⟩⟩, he.kk⟩
/-- x == y, x != y by an own == -/
structure OwnEq (X : Cx) (C : Addr) (n : Nat) (m : WM) : Prop where
  ex : ∃ g, PySem.W.findIn X.K (.ref C) "__eq__" = some (some (.ref g)) ∧ PySem.W.isFn X.K (.ref g) = true ∧ L2.FnR X.prog X.w X.K X.mg X.base CX0 n g (spD X.K m)
  ne : PySem.W.findIn X.K (.ref C) "__ne__" = some (some (.builtin "object.__ne__"))
def wOwnE {R : Rgn} (C : Addr) (neg : Bool) (m : WM) (wa wb : WE R) : WE R := fun ρ K => wa ρ fun x ρ1 => wb ρ1 fun y ρ2 => (∃ ns xs, x = .ins C ns xs) ∧ ((∃ ns xs, y = .ins C ns xs) ∨ ∃ t, kD2 y = some t) ∧ m [x, y] fun d => ∃ b, d = .bl b ∧ K (.bl (xr neg b)) ρ2
theorem ownE_ok {C : Addr} {neg : Bool} {m : WM} (I : IsC c.K C) (ha : DE X c pa false a wa) (hb : DE X c pb false b wb) {σ : L2.St} {H : Hp} {Q : VK} (h : liftE c (pa && pb) false (wOwnE C neg m wa wb) σ H Q) :
    tOp (rOwnC c.K C neg (spD c.K m)) (liftE c pa false wa) (liftE c pb false wb) σ H Q := by
  obtain ⟨ρ, F, O, Kk, S, w, k⟩ := h
  refine ⟨ρ, F, O, _, S, w, fun x ρ1 v F1 H1 hk S1 fs1 ko1 g1 r1 => ⟨ρ1, F1, O, _, S1, hk, fun y ρ2 u F2 H2 ⟨⟨ns, xs, ex⟩, hy, hm⟩ S2 fs2 ko2 g2 r2 => ?_⟩⟩
  subst ex
  have r1' : Rep c.K F2 v (.ins C ns xs) := Rep.same fs2 r1
  obtain ⟨a, dx, fs, rfl, h1, _⟩ := (BV.rep r1' : BV c.K F2 H2 v _).ins S2.sub
  have r2' : Rep c.K F2 u y := r2
  have ty : ∃ t, TyX c.K H2 u t ∧ PySem.W.notFirst c.K C t = true := by
    rcases hy with ⟨ns', xs', rfl⟩ | ⟨t, ht⟩
    · exact ⟨_, tyC_of I S2.sub (r2.bv S2), IsC.selfN⟩
    · exact ⟨_, ty_of2 S2.sub (r2.bv S2) ht, I.nf t⟩
  obtain ⟨t, ty, hnf⟩ := ty
  refine ⟨a, dx, fs, t, rfl, h1, ty, hnf, _, F2, _, S2.sub, .cons r1' (.cons r2' .nil), hm, fun d v' F' H' ⟨b, ed, hk⟩ gr rp => ?_⟩
  subst ed
  cases rp
  refine ⟨b, rfl, k _ ρ2 _ F' H' hk (S2.grow gr) (fs1.trans (fs2.trans gr.fs)) (fun q hq => by rw [gr.at (S2.out q hq).2.2, ko2 q hq, ko1 q hq]) (fun e => ?_) (.bl _)⟩
  rw [Bool.and_eq_true] at e
  obtain ⟨e1, q1⟩ := g1 e.1
  obtain ⟨e2, q2⟩ := g2 e.2
  exact ⟨e2.trans e1, q1.trans (q2.trans gr)⟩
theorem de_ownE {C : Addr} {m : WM} {n : Nat} (I : IsC c.K C) (O : OwnEq X C n m) (hr : Room j X.A) (ha : DE X c pa false a wa) (hb : DE X c pb false b wb) (hj : n ≤ j := by decide) (hm : behindInMarks .Eq b = false := by rfl) : DE X c (pa && pb) false (.Compare a [.Eq] [b] pos) (wOwnE C false m wa wb) := by
  obtain ⟨g, h1, h2, F⟩ := O.ex
  exact ⟨(pe_cmpR (op_ownE h1 h2 F (hr.mono hj)) ha.pe hb.pe hm).imp fun σ H Q h => by rw [ha.kk]; exact ownE_ok I ha hb h, ha.kk⟩
theorem de_ownN {C : Addr} {m : WM} {n : Nat} (I : IsC c.K C) (O : OwnEq X C n m) (hr : Room j X.A) (ha : DE X c pa false a wa) (hb : DE X c pb false b wb) (hj : n + 1 ≤ j := by decide) (hm : behindInMarks .NotEq b = false := by rfl) : DE X c (pa && pb) false (.Compare a [.NotEq] [b] pos) (wOwnE C true m wa wb) := by
  obtain ⟨g, h1, h2, F⟩ := O.ex
  exact ⟨(pe_cmpR (op_ownN O.ne h1 h2 (by rw [ha.kk]; exact I.hm) F (hr.mono hj)) ha.pe hb.pe hm).imp fun σ H Q h => by rw [ha.kk]; exact ownE_ok I ha hb h, ha.kk⟩
/-- a test by what answers a truth -/
theorem dt_of {e : Expr} {w : WE c.R} (h : DE X c pa ba e w) (he : ∀ whole, isTrue e X.env whole = (do let v ← whole; standAt e.pos; holding [v] (truthy v)) := by intro _; rfl) : DT X c pa e (wTest w) := dt_val h he
/-- len(x) by an own len -/
structure OwnLen (X : Cx) (C : Addr) (n : Nat) (m : WM) : Prop where
  ex : ∃ g, PySem.W.findIn X.K (.ref C) "__len__" = some (some (.ref g)) ∧ PySem.W.isFn X.K (.ref g) = true ∧ L2.FnR X.prog X.w X.K X.mg X.base CX0 n g (spD X.K m)
def wOwnL {R : Rgn} (C : Addr) (m : WM) (we : WE R) : WE R := fun ρ K => we ρ fun x ρ1 => (∃ ns xs, x = .ins C ns xs) ∧ m [x] fun d => ∃ i : Int, d = .int i ∧ 0 ≤ i ∧ i ≤ 1000000 ∧ K (.int i) ρ1
theorem de_lenO {C : Addr} {m : WM} {n : Nat} (hm : X.mg "len" = none) (L : OwnLen X C n m) (hr : Room j X.A) (he : DE X c pa false e we) (hj : n + 1 ≤ j := by decide) (hg : Gl X "len" := by rfl)
    (he1 : starEach [e] X.env = (false, eval e X.env) :: starEach [] X.env := by rfl) (hpl : (backTo pos (starEach [] X.env)).any (·.1) = false := by rfl) : DE X c pa false (.Call (.Name "len" p) [e] [] pos) (wOwnL C m we) := by
  obtain ⟨g, h1, h2, F⟩ := L.ex
  exact ⟨(pe_callB (call_lenO h1 h2 F (hr.mono hj)) hg hm (by decide +kernel) (pa_cons he.pe pa_nil he1) (by decide) (by decide) he1 hpl).imp fun σ H Q ⟨ρ, F, O, Kk, S, w, k⟩ => ⟨ρ, F, O, _, S, w, fun x ρ1 v F1 H1 ⟨⟨ns, xs, ex⟩, hm⟩ S1 fs1 ko1 g1 r1 => by
    subst ex
    have r1' : Rep c.K F1 v (.ins C ns xs) := r1
    obtain ⟨a, dx, fs, rfl, ha, _⟩ := (r1.bv S1).ins S1.sub
    refine ⟨a, dx, fs, rfl, ha, ?_⟩
    rw [he.kk]
    refine ⟨_, F1, _, S1.sub, .cons r1' .nil, hm, fun d v' F' H' ⟨i, ed, i0, i1, hk⟩ gr rp => ?_⟩
    subst ed
    cases rp
    have e1 : (2 : Int) ^ 63 = 9223372036854775808 := by decide
    exact ⟨i, rfl, i0, by rw [e1]; omega, k _ ρ1 _ F' H' hk (S1.grow gr) (fs1.trans gr.fs) (fun q hq => by rw [gr.at (S1.out q hq).2.2, ko1 q hq]) (fun e => ⟨(g1 e).1, (g1 e).2.trans gr⟩) (.int _)⟩⟩, he.kk⟩
end
end Q

set_option Elab.async false
set_option linter.all false
set_option maxRecDepth 100000
set_option maxHeartbeats 4000000
/-! errors that leave a def -/
namespace Q
open PySem PySem.Spec PyProof.Rows L2
/-- what is wanted of an error: its class, its fields -/
abbrev XW := Addr → List Str → List D → Prop
abbrev WMX := List D → (D → Prop) → XW → Prop
/-- an error's fields, as they lie in the heap behind it -/
structure XdAt (K : PySem.W.Frag) (F' H H' : Hp) (dx : Addr) (ns : List Str) (xs : List D) : Prop where
  f0 : F' dx = none
  h0 : H dx = none
  at_ : ∃ fs : List (Str × V), H' dx = some (.xd fs) ∧ ns = fs.map (·.1) ∧ Reps K F' (fs.map (·.2)) xs
def spX (K : PySem.W.Frag) (m : WMX) : Sp := fun vs H Q E => ∃ (ds : List D) (F : Hp) (Kk : D → Prop) (Xk : XW), Same F H ∧ Reps K F vs ds ∧ m ds Kk Xk ∧ (∀ d v F' H', Kk d → Grow F H F' H' → Rep K F' v d → Q v H') ∧
  ∀ C ns xs F' H' dx, Xk C ns xs → Grow F H F' H' → XdAt K F' H H' dx ns xs → E (.ref C) (some dx) H'
def XFit (c : Ctx) (E : XK) (Xk : XW) : Prop := ∀ C ns xs (g : c.R.G) F' H' dx, Xk C ns xs → Fin c F' H' g → XdAt c.K F' c.H0 H' dx ns xs → E (.ref C) (some dx) H'
def XNo : XW := fun _ _ _ => False
theorem xfit_no {c : Ctx} {E : XK} : XFit c E XNo := fun _ _ _ _ _ _ _ h => h.elim
theorem St.dead {c : Ctx} {F H : Hp} {O : List Addr} {σ : L2.St} {ρ : DS c.R} (S : St c F O σ ρ H) {p : Addr} (hp : H p = none) : c.H0 p = none := by
  cases e : c.H0 p with
  | none => rfl
  | some u => exact absurd hp (S.live p (by rw [e]; exact fun z => by cases z))
/-- a def of the text that may let errors out -/
structure CalX (P : Program) (w : World) (K : PySem.W.Frag) (mg : Str → Option Value) (base : Heap) (x : Str) (k : Nat) (ps : List Str) (sp : Sp) : Prop where
  ex : ∃ (f : Addr) (fd : FuncData), mg x = some (.ref f) ∧ PySem.W.keepIn K (.ref f) = true ∧ FnOk P w K mg base (L2.CX P w) k f fd ps sp ∧ Binds K fd ps []
theorem passF {X : Cx} : Passes (L2.CX X.prog X.w) X (fun _ _ _ => False) := fun _ _ _ _ _ _ _ ⟨_, _, _, _, _, _, _, _, _, _, _, _, h⟩ => h.elim
section
variable {X : Cx} {c : Ctx} {fr : Bool} {e : Expr} {es : List Expr} {pos p : Pos} {pa : Bool} {wa : WA c.R} {j k : Nat} {x : Str} {ps : List Str} {E : XK} {Xk : XW}
def wCallX {R : Rgn} (Xk : XW) (m : WMX) (wa : WA R) : WE R := fun ρ K => wa ρ fun ds ρ1 => m ds (fun d => K d ρ1) Xk
theorem de_callX {m : WMX} (C : CalX X.prog X.w X.K X.mg X.base x k ps (spX c.K m)) (hx : Passes (L2.CX X.prog X.w) X E) (fit : XFit c E Xk) (hr : Room j X.A) (ha : DA X c pa (e :: es) wa) (hj : k ≤ j := by decide) (hk : X.K = c.K := by rfl) (hg : Gl X x := by rfl) (hdb : (x == ("__debug__" : Str)) = false := by decide)
    (he : starEach (e :: es) X.env = (false, eval e X.env) :: starEach es X.env := by rfl) (hpl : (backTo pos (starEach es X.env)).any (·.1) = false := by rfl) : DE X c pa false (.Call (.Name x p) (e :: es) [] pos) (wCallX Xk m wa) := by
  obtain ⟨f, fd, hm, hkp, G, hb⟩ := C.ex
  exact ⟨(pe_call G (hr.mono hj) hg hm hkp hb .nil hx ha.pa hdb he hpl).imp fun σ H Q ⟨ρ, F, O, Kk, S, w, kk⟩ => ⟨ρ, F, O, _, S, w, fun ds ρ1 vs F1 H1 hw S1 fs1 ko1 g1 r1 => ⟨ds, F1, _, Xk, S1.sub, by rw [app_nil]; exact r1, hw, fun d v F' H' hd gr rp =>
    kk d ρ1 v F' H' hd (S1.grow gr) (fs1.trans gr.fs) (fun q hq => by rw [gr.at (S1.out q hq).2.2]; exact ko1 q hq) (fun e => ⟨(g1 e).1, (g1 e).2.trans gr⟩) rp,
    fun C ns xs F' H' dx hX gr ⟨x0, x1, x2⟩ => fit C ns xs ρ1.g F' H' dx hX (S1.grow gr).fin ⟨x0, S1.dead x1, x2⟩⟩⟩, hk⟩
/-! ### raise -/
/-- an error class of the text: its fields, in the order in which it is told -/
structure ExCl (P : Program) (w : World) (K : PySem.W.Frag) (mg : Str → Option Value) (base : Heap) (x : Str) (C : Addr) (k : Nat) (ns : List Str) : Prop where
  cls : OexC K C
  at_ : mg x = some (.ref C)
  ex : ∃ (fI : Addr) (fd : FuncData) (ps : List Str) (sp : Sp), PySem.W.findIn K (.ref C) "__init__" = some (some (.ref fI)) ∧ PySem.W.typeIn K (.ref fI) = some (.type "function") ∧ FnOk P w K mg base CX0 k fI fd ps sp ∧ Binds K fd ps [] ∧
    ∀ (a : Addr) (us : List V) (H : Hp) (Q : VK), us.length = ns.length → H a = some (exo a C none) → (∀ d, H d = none → d ≠ a → Q .non (upd (upd H d (exd d (List.zip ns us).reverse)) a (exo a C (some d)))) → sp (.ref a :: us) H Q (fun _ _ _ => False)
def sRaise {R : Rgn} (Xk : XW) (C : Addr) (ns : List Str) (wa : WA R) : WS R := fun _ ρ => wa ρ fun xs _ => xs.length = ns.length ∧ Xk C ns.reverse xs.reverse
theorem zip_fst {α β : Type} : ∀ {xs : List α} {ys : List β}, ys.length = xs.length → (List.zip xs ys).map (·.1) = xs
  | [], [], _ => rfl
  | [], _ :: _, h => by simp at h
  | _ :: _, [], h => by simp at h
  | x :: xs, y :: ys, h => by rw [List.zip_cons_cons, List.map_cons, zip_fst (by simpa using h)]
theorem zip_snd {α β : Type} : ∀ {xs : List α} {ys : List β}, ys.length = xs.length → (List.zip xs ys).map (·.2) = ys
  | [], [], _ => rfl
  | [], _ :: _, h => by simp at h
  | _ :: _, [], h => by simp at h
  | x :: xs, y :: ys, h => by rw [List.zip_cons_cons, List.map_cons, zip_snd (by simpa using h)]
theorem ds_raise {C : Addr} {ns : List Str} {pos' : Pos} (T : ExCl X.prog X.w X.K X.mg X.base x C k ns) (tk : Takes X (fun cls d _ H => E cls d H)) (fit : XFit c E Xk) (hr : Room (k + 1) X.A) (ha : DA X c pa (e :: es) wa) (hn : ns.length ≤ 10 := by decide) (hk : X.K = c.K := by rfl) (hc : X.calm = true := by rfl) (hg : Gl X x := by rfl) (hdb : (x == ("__debug__" : Str)) = false := by decide)
    (he : starEach (e :: es) X.env = (false, eval e X.env) :: starEach es X.env := by rfl) (hpl : (backTo pos (starEach es X.env)).any (·.1) = false := by rfl) : DS1 X c fr (.Raise (some (.Call (.Name x p) (e :: es) [] pos)) none pos') (sRaise Xk C ns wa) := by
  obtain ⟨fI, fd, ps, sp, h1, h2, G, hb, hsp⟩ := T.ex
  refine ⟨(ps_raise hc tk (pmk_oex T.cls h1 h2 G hr hb .nil pass0 hg T.at_ ha.pa hdb he hpl)).imp fun E' σ H ⟨ρ, F, Dk, S, w, _⟩ => ?_⟩
  refine ⟨ρ, F, [], _, S, w, fun xs ρ1 vs F1 H1 ⟨hl, hX⟩ S1 fs1 ko1 g1 r1 => ⟨by rw [r1.length, hl]; omega, fun a ha => ?_⟩⟩
  rw [List.append_nil]
  have hvl : vs.length = ns.length := by rw [r1.length, hl]
  refine hsp a vs _ _ hvl upd_same fun d hd nd => ⟨rfl, d, (List.zip ns vs).reverse, upd_same, by rw [upd_ne nd, upd_same], by rw [upd_ne nd] at hd; exact hd, ?_⟩
  have hd1 : H1 d = none := by rw [upd_ne nd] at hd; exact hd
  have e1 : upd (L2.del (upd (upd (upd H1 a (exo a C none)) d (exd d (List.zip ns vs).reverse)) a (exo a C (some d))) a) d (.xd (List.zip ns vs).reverse) = upd H1 d (.xd (List.zip ns vs).reverse) := by
    funext b
    by_cases z : b = d
    · rw [z, upd_same, upd_same]
    · rw [upd_ne z, upd_ne z]
      by_cases y : b = a
      · rw [y, L2.del_same, ha]
      · rw [L2.del_ne y, upd_ne y, upd_ne z, upd_ne y]
  rw [e1]
  have hF : F1 d = none := by
    cases q : F1 d with
    | none => rfl
    | some u => rw [S1.sub _ _ q] at hd1; cases hd1
  have gr : Grow F1 H1 F1 (upd H1 d (.xd (List.zip ns vs).reverse)) := ⟨Same.refl _, fun b u q => by rw [upd_ne (fun z => by rw [z, hF] at q; cases q)]; exact S1.sub _ _ q, fun b u q => by rw [upd_ne (fun z => by rw [z, hd1] at q; cases q)]; exact q, fun b h => .inl h⟩
  refine fit C _ _ ρ1.g F1 _ d hX (S1.grow gr).fin ⟨hF, S1.dead hd1, _, upd_same, ?_, ?_⟩
  · rw [List.map_reverse, zip_fst hvl]
  · rw [List.map_reverse, zip_snd hvl]
    exact r1.reverse
end
/-! ### a def's body -/
abbrev bodyXX (P : Program) (w : World) (K : PySem.W.Frag) (mg : Str → Option Value) (base : Heap) (N : List Str) (q : Str) (st : Stmt) (f : Addr) (cdv : Value) (A : Around) (outer : List Env) (s : Shared) (H : Hp) (E : XK) : Cx := cxOf (L2.CX P w) P w K mg base N q (defScope st) f cdv A outer s H E
section
variable {P : Program} {w : World} {K : PySem.W.Frag} {mg : Str → Option Value} {base : Heap} {x q : Str} {st : Stmt} {f : Addr} {fd : FuncData} {N ps : List Str} {k : Nat}
theorem takes_body {cdv : Value} {A : Around} {outer : List Env} {s : Shared} {H : Hp} {E : XK} : Takes (bodyXX P w K mg base N q st f cdv A outer s H E) (fun cls d _ H => E cls d H) := takes_of rfl rfl rfl rfl
theorem pass_body {cdv : Value} {A : Around} {outer : List Env} {s : Shared} {H : Hp} {E : XK} : Passes (L2.CX P w) (bodyXX P w K mg base N q st f cdv A outer s H E) E := passes_call takes_body fun _ _ _ _ h => h
theorem own_body {cdv : Value} {A : Around} {outer : List Env} {s : Shared} {H : Hp} {E : XK} : PassesOwn (model P w) (bodyXX P w K mg base N q st f cdv A outer s H E).A (bodyXX P w K mg base N q st f cdv A outer s H E).env (bodyXX P w K mg base N q st f cdv A outer s H E).xe := passes_of rfl
theorem FnX {m : WMX} (F : FnP K x q st f fd) (S : FnScope N ps (defScope st)) (hm : ∀ ds Kk Xk, m ds Kk Xk → ds.length = ps.length)
    (hbody : ∀ (cdv : Value) (A : Around) (outer : List Env) (s : Shared) (H Fz : Hp) (E : XK) (Xk : XW), Room k (A.deeper (envOfC q (defScope st) s.heap.objs.size f cdv)) → XFit ⟨K, noR, H, Fz, fun _ => False⟩ E Xk →
      ∃ w' : WS noR, DSs (bodyXX P w K mg base N q st f cdv A outer s H E) ⟨K, noR, H, Fz, fun _ => False⟩ false (defBody st) w' ∧
        ∀ ds Kk, m ds Kk Xk → w' { nx := fun _ => Kk .non, rt := fun d _ => Kk d } ⟨noG, startD N ds⟩) : FnOk P w K mg base (L2.CX P w) (k + 1) f fd ps (spX K m) := by
  refine F.ok S (fun vs H Q E h => ?_) (fun cdv A outer s H vs Q E hr h => ?_)
  · obtain ⟨ds, F, Kk, Xk, _, r, hw, _⟩ := h
    rw [r.length]
    exact hm ds Kk Xk hw
  · obtain ⟨ds, Fz, Kk, Xk, sub, r, hw, k, kx⟩ := h
    have gr : ∀ {F' H' : Hp} {g : noR.G}, Fin ⟨K, noR, H, Fz, fun _ => False⟩ F' H' g → Grow Fz H F' H' := fun fin => ⟨fin.old, fin.sub, fun b o e => fin.keep b o e id, fin_grow fin⟩
    obtain ⟨w', hb, hw'⟩ := hbody cdv A outer s H Fz E Xk hr fun C ns xs g F' H' dx hX fin xd => kx C ns xs F' H' dx hX (gr fin) xd
    exact ⟨_, hb.ps, _, Fz, _, St.start sub r (fun a h => h) (fun b h => h.elim), hw' ds Kk hw, fun ρ' σ' F' H' h S' _ => k .non .non F' H' h (gr S'.fin) .non, (fun _ _ _ _ h => h.elim), (fun _ _ _ _ h => h.elim),
      fun d g h v F' H' fin rp => k d v F' H' h (gr fin) rp⟩
end
end Q

set_option Elab.async false
set_option linter.all false
set_option maxRecDepth 100000
set_option maxHeartbeats 4000000
/-! loops by an invariant of what is left -/
namespace Q
open PySem PySem.Spec PyProof.Rows L2
section
variable {R : Rgn} {g : WG R} {wb : WS R} {Dk : DEnds R}
theorem forGo_ind (I : List D → DS R → Prop) (st : ∀ (d : D) (rest : List D) (N : DS R → Prop) (ρ : DS R), (∀ ρ', I rest ρ' → N ρ') → I (d :: rest) ρ → g d ρ fun ρ2 => wb { Dk with nx := N, ct := N, bk := Dk.nx } ρ2)
    (e : ∀ ρ, I [] ρ → Dk.nx ρ) : ∀ (ds : List D) (ρ : DS R), I ds ρ → forGo g wb Dk ds ρ
  | [], ρ, h => by
    unfold forGo
    exact e ρ h
  | d :: ds, ρ, h => by
    unfold forGo
    exact st d ds _ ρ (fun ρ' h' => forGo_ind I st e ds ρ' h') h
end
/-- a key told as data, put to keys told as data -/
theorem putKs_str (ks : List Str) (z : Str) : putKs (ks.map Sum.inr) (.inr z : Key) = (if z ∈ ks then ks else ks ++ [z]).map Sum.inr := by
  unfold putKs
  by_cases h : z ∈ ks
  · rw [if_pos h, if_pos (List.mem_map.mpr ⟨z, h, rfl⟩)]
  · rw [if_neg h, if_neg (fun q => by obtain ⟨y, hy, e⟩ := List.mem_map.mp q; cases e; exact h hy), List.map_append]
    rfl
end Q

set_option Elab.async false
set_option linter.all false
set_option maxRecDepth 100000
set_option maxHeartbeats 4000000
/-! enumerate over a tuple -/
namespace Q
open PySem PySem.Spec PyProof.Rows L2
theorem meets_enumerate_new1B {v : Value} {ob : Obj} {H : Heap → Prop} (B : Begins v ob H) :
    Meets (Builtin.«enumerate.__new__» ⟨[.type "enumerate", v], []⟩) (fun _ R s => H s.heap ∧
      R (.ok (.ret (.ref (s.heap.push ob).objs.size))) { s with heap := (s.heap.push ob).push { cls := .type "enumerate", data := .fields #[.none, .bool false, .ref s.heap.objs.size, rawInt 0, .none, .none] } }) :=
  .of_wp fun prog w A R s h => by
    obtain ⟨hp, g, d, tk2, os⟩ := s; obtain ⟨hV, h⟩ := h
    have subE := sub_enumerate
    have iterV : ∀ {A' : Around} {E : Value → Shared → Prop} {Q : Value → Shared → Prop}, Q (.ref hp.objs.size) ⟨hp.push ob, g, d, tk2, os⟩ → wpAny (model prog w) A' (pyIter v) Q E ⟨hp, g, d, tk2, os⟩ :=
      fun q => B.iter prog w _ _ ⟨hp, g, d, tk2, os⟩ _ hV q
    wp_walk using iterV
    refine wpAny_stack_any fun now => wpAny_pure ?_
    split
    · rename_i c _ _ _ _ _
      cases (c == Value.type "enumerate")
      · wp_walk using iterV
        exact ⟨_, rfl, h⟩
      · wp_walk using iterV
        exact ⟨_, rfl, h⟩
    · wp_walk using iterV
      exact ⟨_, rfl, h⟩
theorem enum_begins1 {prog : Program} {w : World} {A : Around} {E : Value → Shared → Prop} {s : Shared} {v : Value} {ob : Obj} {H : Heap → Prop} {Q : Value → Shared → Prop} (B : Begins v ob H) (hV : H s.heap)
    (h : ∀ hp2, IsEnum hp2 (s.heap.objs.size + 1) s.heap.objs.size 0 .none → hp2.get? s.heap.objs.size = some ob → hp2.objs.size = s.heap.objs.size + 2 →
      (∀ b ob, s.heap.get? b = some ob → hp2.get? b = some ob) → Q (.ref (s.heap.objs.size + 1)) { s with heap := hp2 }) :
    wpAny (model prog w) A (call (.type "enumerate") [v]) Q E s := by
  refine callType_new F.called_enumerate (by decide) (F.typeCall_enumerate_1 _) (F.newCall_enumerate_1 _) (fun obj => F.args_object_init_2 obj _) F.entry_enumerate_new
    (meets_enumerate_new1B B) ⟨hV, ?_⟩
  have zlen : (s.heap.push ob).objs.size = s.heap.objs.size + 1 := Heap.size_push ..
  show _ ∧ _
  rw [zlen]
  have enAt : IsEnum ((s.heap.push ob).push { cls := .type "enumerate", data := .fields #[.none, .bool false, .ref s.heap.objs.size, rawInt 0, .none, .none] }) (s.heap.objs.size + 1) s.heap.objs.size 0 .none := by
    have := Heap.get?_push_size (s.heap.push ob) (o := { cls := .type "enumerate", data := .fields #[.none, .bool false, .ref s.heap.objs.size, rawInt 0, .none, .none] }) rfl
    rw [zlen] at this; exact this
  refine ⟨⟨_, enAt, rfl⟩, h _ enAt (Heap.get?_push_of_some _ (Heap.get?_push_size _ B.free)) (by rw [Heap.size_push, zlen]) fun b ob x => Heap.get?_push_of_some _ (Heap.get?_push_of_some _ x)⟩
/-- the tuple at a, each item in a fresh1 pair -/
def IteT (K : PySem.W.Frag) (a : Addr) : It :=
  ⟨fun i H => ∃ (xs : List V) (x : V), SqT K H a xs ∧ xs[i]? = some x, fun i H v H' => ∃ T x, v = .ref T ∧ H T = none ∧ H' = upd H T (.tup [.int (i : Nat), x]) ∧ ∀ xs, SqT K H a xs → xs[i]? = some x, fun i H => ∃ xs : List V, SqT K H a xs ∧ xs.length ≤ i⟩
theorem turn_enumT {P : Program} {w : World} {K : PySem.W.Frag} {elts : List Expr} {kk : Nat} {tpos : Pos} (a e it : Addr) (hai : a ≠ it) (hae : a ≠ e) :
    Turn P w K (.Tuple elts kk tpos) (IteT K a) [e, it] e (fun i h => (∃ was, IsEnum h e it ((i : Nat) : Int) was) ∧ h.IsTupleIter it a i ∧ e ≠ it) where
  mem := by simp
  obj := fun i h now b inB => by
    obtain ⟨⟨was, enAt⟩, ⟨ob, oAt, cAt, dAt⟩, _⟩ := now
    have be : b = e ∨ b = it := by simpa using inB
    rcases be with z | z
    · rw [z]; exact ⟨_, enAt, fun v q => nomatch q⟩
    · rw [z]; exact ⟨ob, oAt, fun v q => by rw [dAt] at q; cases q⟩
  keep := fun i h hp2 now k => let ⟨⟨was, enAt⟩, hi, eNe⟩ := now; ⟨⟨was, k e (by simp) _ enAt⟩, hi.at fun ob q => k it (by simp) ob q, eNe⟩
  item := by
    intro X eP eW eK cAt i pn s σ H E J fpOk0 now goes
    subst eP eW eK
    obtain ⟨⟨was, enAt⟩, itAt, eNe⟩ := now
    obtain ⟨xs, x, sq, xAt⟩ := goes
    obtain ⟨vals, rvals, p, zlen⟩ := J.tuple sq
    obtain ⟨u, uAt, rel1⟩ := rvals.get xAt
    have tup0 : s.heap.IsTuple a vals.toArray := p
    have ltE : e < s.heap.objs.size := Heap.lt_size enAt
    have ltI : it < s.heap.objs.size := by obtain ⟨_, q, _⟩ := itAt; exact Heap.lt_size q
    have noEx : X.A.in1.handled = none := J.ok.hd cAt
    have uAt2 : vals.toArray[i]? = some u := by simpa using uAt
    have iLt : i < vals.toArray.size := (Array.getElem?_eq_some_iff.mp uAt2).1
    refine wpAny_pyNext_enum_itemD (Draws.tuple noEx it a hai vals.toArray) enAt ⟨itAt, tup0⟩ iLt eNe (fun z => by
      rcases List.mem_cons.mp z with q | q
      · exact eNe q
      · exact hae (List.mem_singleton.mp q).symm) fun y hp2 tk2 eP oAt stN tAt sz2 kp2 => ?_
    have ey : y = u := by rw [uAt2] at eP; exact (Option.some.inj eP).symm
    subst ey
    refine ⟨_, rfl, wpAny_letOwnedTupleGo_enum (s := { s with heap := hp2, toks := tk2 + 1 }) oAt fun hp3 he' same1 => ?_⟩
    have tAt2 : hp3.get? s.heap.objs.size = some { cls := .type "tuple", data := .seq #[.int i tk2, y] } := (same1.2 _ (Nat.ne_of_gt ltE)).trans tAt
    have fresh1 : ObjOk X.prog X.w (upd H s.heap.objs.size (.tup [.int (i : Nat), x])) hp3 s.heap.objs.size (.tup [.int (i : Nat), x]) :=
      ⟨by show 2 ≤ sizeLine; decide, [.int i tk2, y], .cons ⟨_, rfl⟩ (.cons rel1 .nil), ⟨_, tAt2, rfl, _, rfl⟩⟩
    have J1 : Inv X pn σ (upd H s.heap.objs.size (.tup [.int (i : Nat), x])) { s with heap := hp3, toks := tk2 + 1 } :=
      J.turnedNew (ch := [e, it]) (fun b ob inB q => (same1.2 b (fun z => inB (by simp [z]))).trans (kp2 b ob (fun z => inB (by simp [z])) (fun z => inB (by simp [z])) q)) fpOk0 (Nat.le_refl _) fresh1
    refine ⟨.ref s.heap.objs.size, _, J1, rfl, ⟨_, x, rfl, J.hok.fresh (Nat.le_refl _), rfl, fun ys hy => by rw [J.tuple_inj hy sq]; exact xAt⟩, ⟨⟨y, ?_⟩, stN.1.at fun ob q => (same1.2 it (Ne.symm eNe)).trans q, eNe⟩, fun b inB => ?_⟩
    · have e1 : ((i + 1 : Nat) : Int) = (i : Int) + 1 := by omega
      rw [e1]; exact he'
    · have ltB : b < s.heap.objs.size := by
        have be : b = e ∨ b = it := by simpa using inB
        rcases be with z | z
        · rw [z]; exact ltE
        · rw [z]; exact ltI
      rw [upd_ne (Nat.ne_of_lt ltB)]
      exact (fpOk0 b inB).1
  done := by
    intro X eP eW eK cAt i pn s σ H E J fpOk0 now goes
    subst eP eW eK
    obtain ⟨⟨was, enAt⟩, itAt, eNe⟩ := now
    obtain ⟨xs, sq, xAt⟩ := goes
    obtain ⟨vals, rvals, p, zlen⟩ := J.tuple sq
    have tup0 : s.heap.IsTuple a vals.toArray := p
    obtain ⟨f0, f1, f2, f3, f4, f5⟩ := fpOk0 it (by simp)
    have noEx : X.A.in1.handled = none := J.ok.hd cAt
    have rlen := rvals.length
    have noX : vals.toArray[i]? = none := by
      rw [Array.getElem?_eq_none_iff]
      simp
      omega
    have enT : s.TypeIs (.ref e) "enumerate" := ⟨_, enAt, rfl⟩
    unfold pyNext
    refine wpAny_bind (wpAny_attempt (wpAny_callSpecial?_slot (name := Str.ofString "__next__") enT F.slot_enumerate_next
      (wpAny_call_entry F.slot_enumerate_next enT F.entry_enumerate_next ?_ (F.args_enumerate_next_1 _))))
    show wpAny _ _ (field (.ref e) 2 >>= _) _ _ _
    refine wpAny_bind (wpAny_field enAt rfl (x := .ref it) rfl ?_)
    refine wpAny_bind (wpAny_nextOf_tuple_end noEx itAt tup0 noX fun hp2 x he' xEx => ?_)
    obtain ⟨ob, oAt, hc'⟩ := xEx
    refine wpAny_bind (wpAny_isInstance (T := "StopIteration") (b := true) ⟨ob, oAt, hc'⟩ isSubtype_stop ?_)
    exact wpAny_pure ⟨rfl, J.turned (t' := s.toks) (fun b ob inB e => he' b ob inB e) f0 f1 f3 f4 f5⟩
  self := fun A i s Q E now h => let ⟨⟨_, enAt⟩, _⟩ := now; wpAny_pyIter_enum enAt h
theorem walks_enumT {K : PySem.W.Frag} {F0 : Hp} {a : Addr} {vs : List V} {ds : List D} (h : SqT K F0 a vs) (r : Reps K F0 vs ds) : Walks K F0 (IteT K a) (enumD 0 ds) where
  go := fun F H i s1 s2 hi => by
    rw [enumD_length] at hi
    have hs : SqT K H a vs := SqT.same s2 (SqT.same s1 h)
    obtain ⟨v, hv, rvals⟩ := r.get' (List.getElem?_eq_getElem hi)
    refine ⟨⟨vs, v, hs, hv⟩, fun x H' ⟨q, y, e1, e2, e3, e4⟩ => ?_⟩
    have := e4 vs hs
    rw [hv] at this
    cases this
    obtain ⟨al, rp⟩ := al_tup (K := K) (us := [.int ((i : Nat) : Int), v]) (es := [.int ((i : Nat) : Int), ds[i]]) s2 e2 (.cons (.int _) (.cons (rvals.same s1) .nil))
    refine ⟨_, _, enumD_get 0 ds i _ (List.getElem?_eq_getElem hi), by rw [e3]; exact al, by rw [e1, Nat.zero_add]; exact rp⟩
  stop := fun F H s1 s2 => ⟨vs, SqT.same s2 (SqT.same s1 h), by rw [enumD_length, r.length]; exact Nat.le_refl _⟩
/-- enumerate over a list or a tuple -/
def wEnA {R : Rgn} (we : WE R) : WI R := fun ρ K => we ρ fun d ρ1 => ∃ ds, (d = .lst ds ∨ d = .tup ds) ∧ K (enumD 0 ds) ρ1
section
variable {X : Cx} {c : Ctx} {e : Expr} {p pos : Pos} {pa : Bool} {we : WE c.R}
theorem pi_enumA {ta : TA} {tpos : Pos} {elts : List Expr} {kk : Nat} (goes : Gl X "enumerate") (hm : X.mg "enumerate" = none) (ha : PA X [e] ta) (hs : starEach [e] X.env = [(false, eval e X.env)] := by rfl) :
    PI X (.Tuple elts kk tpos) (.Call (.Name "enumerate" p) [e] [] pos) (fun σ H R => ta σ H fun vs H1 => ∃ a xs, vs = [.ref a] ∧ ((SqL X.K H1 a xs ∧ R (Ite X.K a) H1) ∨ (SqT X.K H1 a xs ∧ R (IteT X.K a) H1))) := by
  refine ⟨fun pn s σ H R J h => ?_⟩
  refine Call_ (ld_blt J goes hm boot_enumerate (PyProof.Rows.callWith_type1 (thn (ha.run pos pn s σ H _ J h) fun us s1 ⟨vs, H1, J1, r1, iterV⟩ => ?_) hs rfl))
  obtain ⟨a, xs, ex, q⟩ := iterV
  subst ex
  cases r1 with
  | cons r rs2 =>
    cases rs2
    cases r
    rcases q with ⟨sq, q⟩ | ⟨sq, q⟩
    · obtain ⟨vals, rvals, pl, zlen⟩ := J1.list sq
      refine call_enumerate_list pl.isList fun hp2 enAt itAt sz2 kp2 => wpAny_pyIter_enum enAt ?_
      have J2 : Inv X pn σ H1 { s1 with heap := hp2 } := J1.kept (t' := s1.toks) kp2
      refine ⟨s1.heap.objs.size + 1, [s1.heap.objs.size + 1, s1.heap.objs.size], _, _, H1, rfl, J2, turn_enum a (s1.heap.objs.size + 1) s1.heap.objs.size, ⟨⟨.none, enAt⟩, itAt, Nat.succ_ne_self _⟩, fun b inB => ?_, q⟩
      have be : b = s1.heap.objs.size + 1 ∨ b = s1.heap.objs.size := by simpa using inB
      have leB : s1.heap.objs.size ≤ b := by
        rcases be with z | z
        · rw [z]; exact Nat.le_add_right _ _
        · rw [z]; exact Nat.le_refl _
      exact J1.fpOk leB (J1.hok.fresh leB)
    · obtain ⟨vals, rvals, pl, zlen⟩ := J1.tuple sq
      have tup0 : s1.heap.IsTuple a vals.toArray := pl
      have ltA : a < s1.heap.objs.size := by obtain ⟨_, q, _⟩ := tup0; exact Heap.lt_size q
      refine enum_begins1 (begins_tuple a vals.toArray) tup0 fun hp2 enAt itAt sz2 kp2 => wpAny_pyIter_enum enAt ?_
      have J2 : Inv X pn σ H1 { s1 with heap := hp2 } := J1.kept (t' := s1.toks) kp2
      refine ⟨s1.heap.objs.size + 1, [s1.heap.objs.size + 1, s1.heap.objs.size], _, _, H1, rfl, J2, turn_enumT a (s1.heap.objs.size + 1) s1.heap.objs.size (Nat.ne_of_lt ltA) (Nat.ne_of_lt (Nat.lt_succ_of_lt ltA)), ⟨⟨.none, enAt⟩, ⟨_, itAt, rfl, rfl⟩, Nat.succ_ne_self _⟩, fun b inB => ?_, q⟩
      have be : b = s1.heap.objs.size + 1 ∨ b = s1.heap.objs.size := by simpa using inB
      have leB : s1.heap.objs.size ≤ b := by
        rcases be with z | z
        · rw [z]; exact Nat.le_add_right _ _
        · rw [z]; exact Nat.le_refl _
      exact J1.fpOk leB (J1.hok.fresh leB)
theorem di_enumA {elts : List Expr} {kk : Nat} {tpos : Pos} (hm : X.mg "enumerate" = none) (enAt : DE X c pa false e we) (goes : Gl X "enumerate" := by rfl) (hV : starEach [e] X.env = (false, eval e X.env) :: starEach [] X.env := by rfl) (hs : starEach [e] X.env = [(false, eval e X.env)] := by rfl) : DI X c (.Tuple elts kk tpos) (.Call (.Name "enumerate" p) [e] [] pos) (wEnA we) :=
  ⟨(pi_enumA goes hm (pa_cons enAt.pe pa_nil hV) hs).imp fun σ H R ⟨ρ, F, O, Kk, S, w, k⟩ => ⟨ρ, F, O, _, S, w, fun d ρ1 v F1 H1 ⟨ds, dAt, kp2⟩ S1 fs1 ko1 g1 r1 => by
    rw [enAt.kk]
    rcases dAt with rfl | rfl
    · cases r1 with
      | lst h r => exact ⟨_, _, rfl, .inl ⟨SqL.of (S1.sub _ _ h), k _ ρ1 F1 H1 _ kp2 S1 fs1 ko1 (walks_enum h r)⟩⟩
    · cases r1 with
      | tup h r => exact ⟨_, _, rfl, .inr ⟨SqT.same S1.sub h, k _ ρ1 F1 H1 _ kp2 S1 fs1 ko1 (walks_enumT h r)⟩⟩⟩⟩
end
end Q

set_option Elab.async false
set_option linter.all false
set_option maxRecDepth 100000
set_option maxHeartbeats 4000000
/-! dict comprehensions over texts -/
namespace Q
open PySem PySem.Spec PyProof.Rows L2
def addS (acc : List Str) (z : Str) : List Str := if z ∈ acc then acc else acc ++ [z]
/-- each once, as they come -/
def onceS (zs : List Str) : List Str := zs.foldl addS []
section
variable {R : Rgn} {ρ : DS R} {wk wv : WE R} {wi : WI R} {i : Nat}
theorem dcGo_strs {K : List Key → List D → DS R → Prop} {v : D} : ∀ (zs acc : List Str) (vs : List D), (∀ z ∈ zs, Ev wk (ρ.put i (some (.fz (.str z)))) (.str z)) → (∀ z ∈ zs, Ev wv (ρ.put i (some (.fz (.str z)))) v) →
    (∀ vs', K ((zs.foldl addS acc).map Sum.inr) vs' (ρ.put i none)) → dcGo (gNm i) wYes wk wv [i] K (zs.map D.str) (acc.map Sum.inr) vs (ρ.put i none)
  | [], acc, vs, _, _, k => k vs
  | z :: zs, acc, vs, h1, h2, k => by
    rw [List.map_cons]
    unfold dcGo
    simp only [gNm, wYes]
    rw [put_put, if_pos trivial]
    refine h1 z List.mem_cons_self _ (h2 z List.mem_cons_self _ ⟨.inr z, rfl, ?_⟩)
    have e : (⟨(ρ.put i (some (DV.fz (.str z)))).g, wipeL (ρ.put i (some (DV.fz (.str z)))).sl [i]⟩ : DS R) = ρ.put i none := put_put
    rw [e, putKs_str]
    exact dcGo_strs zs (addS acc z) _ (fun y m => h1 y (List.mem_cons_of_mem _ m)) (fun y m => h2 y (List.mem_cons_of_mem _ m)) k
theorem wDc_strs {zs : List Str} {v : D} {x : Option DV} (hi : EvI wi ρ (zs.map D.str)) (hz : zs.length ≤ 100000) (hx : ρ.sl[i]? = some x) (no : ∀ d, x ≠ some (.own d)) (h1 : ∀ z ∈ zs, Ev wk (ρ.put i (some (.fz (.str z)))) (.str z))
    (h2 : ∀ z ∈ zs, Ev wv (ρ.put i (some (.fz (.str z)))) v) (K : D → DS R → Prop) (k : ∀ vs, K (.dct (((onceS zs).map Sum.inr : List Key).map kD) vs) ρ) : wDc wi (gNm i) wYes wk wv [i] ρ K := by
  refine hi _ ⟨by rw [List.length_map]; exact hz, fun j m d q => ?_, ?_⟩
  · have e : j = i := by simpa using m
    subst e
    rw [hx] at q
    exact no d (Option.some.inj q)
  · refine dcGo_strs zs [] [] h1 h2 fun vs => ?_
    have : (⟨(ρ.put i none).g, backL ρ.sl (ρ.put i none).sl [i]⟩ : DS R) = ρ := by
      show (⟨ρ.g, (ρ.sl.set i none).set i (ρ.sl.getD i none)⟩ : DS R) = ρ
      rw [List.set_set, List.getD_eq_getElem?_getD, hx]
      exact put_back hx
    rw [this]
    exact k vs
end
end Q

set_option Elab.async false
set_option linter.all false
set_option maxRecDepth 100000
set_option maxHeartbeats 4000000
/-! readings that tell errors, too; objects made -/
namespace Q
open PySem PySem.Spec PyProof.Rows L2
abbrev XR (R : Rgn) := Addr → List Str → List D → DS R → Prop
abbrev WEX (R : Rgn) := DS R → (D → DS R → Prop) → XR R → Prop
/-- an error's fields, as they lie in the heap -/
structure XdL (K : PySem.W.Frag) (F' H' : Hp) (dx : Addr) (ns : List Str) (xs : List D) : Prop where
  f0 : F' dx = none
  at_ : ∃ fs : List (Str × V), H' dx = some (.xd fs) ∧ ns = fs.map (·.1) ∧ Reps K F' (fs.map (·.2)) xs
theorem XdAt.l {K : PySem.W.Frag} {F' H H' : Hp} {dx : Addr} {ns : List Str} {xs : List D} (h : XdAt K F' H H' dx ns xs) : XdL K F' H' dx ns xs := ⟨h.f0, h.at_⟩
def liftX (c : Ctx) (w : WEX c.R) (E : XK) : TE := fun σ H Q => ∃ (ρ : DS c.R) (F : Hp) (O : List Addr) (Kk : D → DS c.R → Prop) (Xk : XR c.R), St c F O σ ρ H ∧ w ρ Kk Xk ∧
  (∀ d ρ' v F' H', Kk d ρ' → St c F' O σ ρ' H' → Same F F' → (∀ a ∈ O, H' a = H a) → Rep c.K F' v d → Q v H') ∧
  ∀ C ns xs ρ' F' H' dx, Xk C ns xs ρ' → St c F' O σ ρ' H' → Same F F' → (∀ a ∈ O, H' a = H a) → XdL c.K F' H' dx ns xs → E (.ref C) (some dx) H'
structure DX (X : Cx) (c : Ctx) (e : Expr) (w : WEX c.R) (E : XK) : Prop where
  pe : PE X e (liftX c w E)
  kk : X.K = c.K
/-- no error: an ordinary reading -/
def noX {R : Rgn} (w : WEX R) : WE R := fun ρ K => w ρ K fun _ _ _ _ => False
section
variable {X : Cx} {c : Ctx} {e : Expr} {es : List Expr} {pos p : Pos} {pa : Bool} {we : WE c.R} {wa : WA c.R} {w : WEX c.R} {E : XK} {x : Str} {j k : Nat} {ps : List Str}
theorem DX.de (h : DX X c e w E) : DE X c false false e (noX w) :=
  ⟨h.pe.imp fun σ H Q ⟨ρ, F, O, Kk, S, hw, kk⟩ => ⟨ρ, F, O, Kk, _, S, hw, fun d ρ' v F' H' hk S' fs ko rp => kk d ρ' v F' H' hk S' fs ko (fun z => by cases z) rp, fun _ _ _ _ _ _ _ h => h.elim⟩, h.kk⟩
theorem DX.of (h : DE X c pa false e we) : DX X c e (fun ρ K _ => we ρ K) E :=
  ⟨h.pe.imp fun σ H Q ⟨ρ, F, O, Kk, Xk, S, hw, kk, _⟩ => ⟨ρ, F, O, Kk, S, hw, fun d ρ' v F' H' hk S' fs ko _ rp => kk d ρ' v F' H' hk S' fs ko rp⟩, h.kk⟩
/-- a def of the text that may let errors out, called -/
def wCallXR {R : Rgn} (m : WMX) (wa : WA R) : WEX R := fun ρ K Xk => wa ρ fun ds ρ1 => m ds (fun d => K d ρ1) fun C ns xs => Xk C ns xs ρ1
/-- what a class's init promises: one that sets the fields of the object anew made -/
def spI (K : PySem.W.Frag) (C : Addr) (m : WMX) : Sp := fun vs H Q E => ∃ (x dx : Addr) (us : List V) (ds : List D) (F : Hp) (Kk : D → Prop) (Xk : XW), vs = .ref x :: us ∧ H x = some (.ins C dx []) ∧ F x = none ∧ Same F H ∧ Reps K F us ds ∧ m ds Kk Xk ∧
  (∀ ns xs fs F' H', Kk (.ins C ns xs) → Grow F H F' H' → F' x = none → ns = fs.map (·.1) → Reps K F' (fs.map (·.2)) xs → Q .non (upd H' x (.ins C dx fs))) ∧
  ∀ C' ns xs F' H' d, Xk C' ns xs → Grow F H F' H' → XdAt K F' H H' d ns xs → E (.ref C') (some d) H'
/-- a class of the text, called -/
structure CalK (P : Program) (w : World) (K : PySem.W.Frag) (mg : Str → Option Value) (base : Heap) (x : Str) (C : Addr) (k : Nat) (ps : List Str) (m : WMX) : Prop where
  ex : ∃ (f : Addr) (fd : FuncData), Mk K C f ∧ FnOk P w K mg base (L2.CX P w) k f fd ps (spI K C m) ∧ Binds K fd ps []
  at_ : mg x = some (.ref C)
theorem dx_make {C : Addr} {m : WMX} (M : CalK X.prog X.w X.K X.mg X.base x C k ps m) (hx : Passes (L2.CX X.prog X.w) X E) (hr : Room j X.A) (ha : DA X c pa (e :: es) wa) (hj : k + 1 ≤ j := by decide) (hk : X.K = c.K := by rfl) (hg : Gl X x := by rfl) (hdb : (x == ("__debug__" : Str)) = false := by decide)
    (he : starEach (e :: es) X.env = (false, eval e X.env) :: starEach es X.env := by rfl) (hpl : (backTo pos (starEach es X.env)).any (·.1) = false := by rfl) : DX X c (.Call (.Name x p) (e :: es) [] pos) (wCallXR m wa) E := by
  obtain ⟨f, fd, mk, G, hb⟩ := M.ex
  refine ⟨(pe_make mk G (hr.mono hj) hg M.at_ hb .nil hx ha.pa hdb he hpl).imp fun σ H Q ⟨ρ, F, O, Kk, Xk, S, hw, k1, k2⟩ => ⟨ρ, F, O, _, S, hw, fun ds ρ1 vs F1 H1 hm S1 fs1 ko1 g1 r1 a dx ha hd nd => ?_⟩, hk⟩
  have na : F1 a = none := by
    cases q : F1 a with
    | none => rfl
    | some o => rw [S1.sub _ _ q] at ha; cases ha
  have nd1 : F1 dx = none := by
    cases q : F1 dx with
    | none => rfl
    | some o => rw [S1.sub _ _ q] at hd; cases hd
  have hs2 : Same H1 (upd (upd H1 dx (.own a)) a (.ins C dx [])) := fun b o q => by
    rw [upd_ne (fun z => by rw [z, ha] at q; cases q), upd_ne (fun z => by rw [z, hd] at q; cases q)]
    exact q
  have gr0 : Grow F1 H1 F1 (upd (upd H1 dx (.own a)) a (.ins C dx [])) := ⟨Same.refl _, S1.sub.trans hs2, hs2, fun b h => .inl h⟩
  have ko : ∀ {F' H' : Hp}, Grow F1 H1 F' H' → ∀ q ∈ O, H' q = H q := fun g q hq => by rw [g.at (S1.out q hq).2.2, ko1 q hq]
  rw [app_nil]
  refine ⟨a, dx, vs, ds, F1, _, _, rfl, upd_same, na, gr0.sub, by rw [hk]; exact r1, hm, fun ns xs fs F' H' hk' gr nx en rf => ⟨rfl, ?_⟩, fun C' ns xs F' H' d hX gr xd => ?_⟩
  · have gr1 := gr0.trans gr
    have hH1a : H' a = some (.ins C dx []) := gr.hs _ _ upd_same
    have g2 : Grow F1 H1 (upd F' a (.ins C dx fs)) (upd H' a (.ins C dx fs)) :=
      ⟨fun b o q => by rw [upd_ne (fun z => by rw [z, na] at q; cases q)]; exact gr1.fs _ _ q, Same.upd2 gr1.sub, fun b o q => by rw [upd_ne (fun z => by rw [z, ha] at q; cases q)]; exact gr1.hs _ _ q, fun b n => by
        by_cases z : b = a
        · rw [z]; exact .inr ha
        · rw [upd_ne z] at n; exact gr1.old b n⟩
    have fs2 : Same F' (upd F' a (.ins C dx fs)) := fun b o q => by rw [upd_ne (fun z => by rw [z, nx] at q; cases q)]; exact q
    rw [hk] at rf
    exact k1 _ ρ1 _ _ _ hk' (S1.grow g2) (fs1.trans g2.fs) (ko g2) (.ins upd_same en (rf.same fs2))
  · have gr1 := gr0.trans gr
    rw [hk] at xd
    exact k2 C' ns xs ρ1 F' H' d hX (S1.grow gr1) (fs1.trans gr1.fs) (ko gr1) xd.l
theorem dx_call {m : WMX} (C : CalX X.prog X.w X.K X.mg X.base x k ps (spX c.K m)) (hx : Passes (L2.CX X.prog X.w) X E) (hr : Room j X.A) (ha : DA X c pa (e :: es) wa) (hj : k ≤ j := by decide) (hk : X.K = c.K := by rfl) (hg : Gl X x := by rfl) (hdb : (x == ("__debug__" : Str)) = false := by decide)
    (he : starEach (e :: es) X.env = (false, eval e X.env) :: starEach es X.env := by rfl) (hpl : (backTo pos (starEach es X.env)).any (·.1) = false := by rfl) : DX X c (.Call (.Name x p) (e :: es) [] pos) (wCallXR m wa) E := by
  obtain ⟨f, fd, hm, hkp, G, hb⟩ := C.ex
  exact ⟨(pe_call G (hr.mono hj) hg hm hkp hb .nil hx ha.pa hdb he hpl).imp fun σ H Q ⟨ρ, F, O, Kk, Xk, S, hw, k1, k2⟩ => ⟨ρ, F, O, _, S, hw, fun ds ρ1 vs F1 H1 hm S1 fs1 ko1 g1 r1 => ⟨ds, F1, _, _, S1.sub, by rw [app_nil]; exact r1, hm, fun d v F' H' hd gr rp =>
    k1 d ρ1 v F' H' hd (S1.grow gr) (fs1.trans gr.fs) (fun q hq => by rw [gr.at (S1.out q hq).2.2]; exact ko1 q hq) rp,
    fun C ns xs F' H' dx hX gr xd => k2 C ns xs ρ1 F' H' dx hX (S1.grow gr) (fs1.trans gr.fs) (fun q hq => by rw [gr.at (S1.out q hq).2.2]; exact ko1 q hq) xd.l⟩⟩, hk⟩
end
end Q

set_option Elab.async false
set_option linter.all false
set_option maxRecDepth 100000
set_option maxHeartbeats 4000000
/-! a lambda, made: what of the heap changes -/
namespace Q
open PySem PySem.Spec PyProof.Rows L2 LamX
/-- from H to H1 a lambda was made: only tables of T may have changed, what they tell anew is new -/
structure LamStep (T : List (Addr × Str)) (H H1 : Hp) : Prop where
  keep : ∀ b o, H b = some o → (∀ p ∈ T, p.1 ≠ b) → H1 b = some o
  tabs : Tabs T H1
  codes : ∀ p ∈ T, ∀ ps pos c, H1 p.1 = some (.tbl ps) → codeAmong pos ps.toList = some (.ref c) → (∃ ps0, H p.1 = some (.tbl ps0) ∧ codeAmong pos ps0.toList = some (.ref c)) ∨ H c = none
theorem lam_made {X : Cx} {pins : List (Addr × Obj)} {σ : L2.St} {H : Hp} {s : Shared} {T : List (Addr × Str)} {c P : Addr} {params : Arguments} {body : Expr} {scope : Scope} {pos : Pos} {E Q : Value → Shared → Prop}
    (J : Inv X pins σ H s) (TB : TabB X.base X.mg c P) (code : X.env.code = .ref c) (mem : (P, X.env.qual ++ "<lambda>") ∈ T) (uni : ∀ p ∈ T, p.1 = P → p.2 = X.env.qual ++ "<lambda>") (tabs : Tabs T H)
    (nodef : defaultsOf params X.env = ([], [])) (caps : ∀ y ∈ scope.names, y.2 = .free → ∃ c, X.env.cells.lookup y.1 = some c)
    (next : ∀ (f c' : Addr) (pm ctv : Value) (H1 : Hp) (s' : Shared), Inv X pins σ H1 s' → LamStep T H H1 → s'.heap.get? f = some (PySem.W.kla_obj "<lambda>" (X.env.qual ++ "<lambda>") params body scope (cloFrom X.env.cells scope.names []) pm c' ctv) →
      H1 f = none → f ∉ frs X.stack → H1 c' = some (CodeO c' (X.env.qual ++ "<lambda>")) → Q (.ref f) s') : wpAny (model X.prog X.w) X.A (eval (.Lambda params body scope pos) X.env) Q E s := by
  obtain ⟨tb, tbAt, tbOk, tbCodes⟩ := tabs _ mem
  refine PySem.W.kla_eval nodef ?_
  have bm : s.heap.BuiltinsAt X.mg P := TB.bm.keeps J.bk
  have tbObj : s.heap.get? P = some { cls := .none, data := .fields tb } := J.hok P _ tbAt
  have noFrame : ∀ f, s.heap.objs.size ≤ f → f ∉ frs X.stack := fun f big m => by
    rcases List.mem_cons.mp (J.stkSub _ m) with same | there
    · exact absurd J.lt (by rw [← same]; exact Nat.not_lt.mpr big)
    · exact J.nofs big there
  cases found : codeAmong pos tb.toList with
  | some cv =>
    obtain ⟨c', rfl, c'At⟩ := tbCodes pos cv found
    refine PySem.W.kla_makeFunctionHit (mg := X.mg) (c := c) (P := P) (ps := tb) (closure_ok caps) J.ok.glob (J.mod.glob.keeps J.bk) code (TB.code.keeps J.bk) tbObj tbOk found bm fun ctv hp tk ext size => ?_
    exact next hp.objs.size c' ((X.mg "__name__").getD .none) ctv H _ (J.kept fun b o at0 => Heap.get?_push_of_some _ (ext b o at0)) ⟨fun _ _ at0 _ => at0, tabs, fun p _ ps pos c at0 am => .inl ⟨ps, at0, am⟩⟩ (Heap.get?_push_size _ rfl) (J.hok.fresh size) (noFrame _ size) c'At
  | none =>
    refine PySem.W.kla_makeFunction (mg := X.mg) (c := c) (P := P) (ps := tb) (closure_ok caps) J.ok.glob (J.mod.glob.keeps J.bk) code (TB.code.keeps J.bk) tbObj tbOk found TB.gP bm fun c' ctv hp tk ext big small rec tbNow => ?_
    obtain ⟨d0, oc, vs, t, ec, ocAt, ocData, ocName⟩ := rec
    cases ec
    have size : s.heap.objs.size ≤ hp.objs.size := Nat.le_trans big (Nat.le_of_lt small)
    have c'New : H c' = none := J.hok.fresh big
    have J1 := inv_table (t' := tk) (more := #[rawInt pos.line, rawInt pos.col, .ref c']) (h' := hp.push (PySem.W.kla_obj "<lambda>" (X.env.qual ++ "<lambda>") params body scope (cloFrom X.env.cells scope.names []) ((X.mg "__name__").getD .none) c' ctv)) J tbAt
      (fun b o ne at0 => Heap.get?_push_of_some _ (ext b o ne at0)) (Heap.get?_push_of_some _ tbNow) big ⟨oc, vs, t, Heap.get?_push_of_some _ ocAt, ocData, ocName⟩
    have P_ne : P ≠ c' := ne_of_none tbAt c'New
    have more_list : (tb ++ #[rawInt pos.line, rawInt pos.col, Value.ref c']).toList = tb.toList ++ [rawInt pos.line, rawInt pos.col, .ref c'] := by simp
    have at_P : upd (upd H P (.tbl (tb ++ #[rawInt pos.line, rawInt pos.col, .ref c']))) c' (CodeO c' (X.env.qual ++ "<lambda>")) P = some (.tbl (tb ++ #[rawInt pos.line, rawInt pos.col, .ref c'])) := by rw [upd_ne P_ne, upd_same]
    have at_other : ∀ b, b ≠ P → b ≠ c' → upd (upd H P (.tbl (tb ++ #[rawInt pos.line, rawInt pos.col, .ref c']))) c' (CodeO c' (X.env.qual ++ "<lambda>")) b = H b := fun b n1 n2 => by rw [upd_ne n2, upd_ne n1]
    have stay : ∀ b o, H b = some o → b ≠ P → upd (upd H P (.tbl (tb ++ #[rawInt pos.line, rawInt pos.col, .ref c']))) c' (CodeO c' (X.env.qual ++ "<lambda>")) b = some o := fun b o at0 n => by rw [at_other b n (ne_of_none at0 c'New)]; exact at0
    have code_stays : ∀ d q, H d = some (CodeO d q) → upd (upd H P (.tbl (tb ++ #[rawInt pos.line, rawInt pos.col, .ref c']))) c' (CodeO c' (X.env.qual ++ "<lambda>")) d = some (CodeO d q) := fun d q at0 => stay d _ at0 fun e => by
      rw [e, tbAt] at at0
      exact codeO_ne tb (Option.some.inj at0).symm
    refine next hp.objs.size c' ((X.mg "__name__").getD .none) ctv _ _ J1 ⟨fun b o at0 n => stay b o at0 fun e => n _ mem e.symm, fun p inT => ?_, fun p inT ps pos1 d at0 am => ?_⟩ (Heap.get?_push_size _ rfl) ?_ (noFrame _ size) upd_same
    · by_cases isP : p.1 = P
      · rw [uni p inT isP, isP]
        refine ⟨_, at_P, by rw [more_list]; exact PySem.TriplesOk_snoc _ _ _ _ tbOk, fun pos1 cv am => ?_⟩
        rw [more_list] at am
        rcases among_app _ tbOk am with before | now
        · obtain ⟨d, e1, e2⟩ := tbCodes pos1 cv before
          exact ⟨d, e1, code_stays _ _ e2⟩
        · exact ⟨c', now, upd_same⟩
      · obtain ⟨ps, a1, a2, a3⟩ := tabs p inT
        refine ⟨ps, stay _ _ a1 isP, a2, fun pos1 cv am => ?_⟩
        obtain ⟨d, e1, e2⟩ := a3 pos1 cv am
        exact ⟨d, e1, code_stays _ _ e2⟩
    · by_cases isP : p.1 = P
      · rw [isP, at_P] at at0
        have e := HO.tbl.inj (Option.some.inj at0)
        rw [← e, more_list] at am
        rcases among_app _ tbOk am with before | now
        · exact .inl ⟨tb, by rw [isP]; exact tbAt, before⟩
        · exact .inr (by rw [Value.ref.inj now]; exact c'New)
      · refine .inl ⟨ps, ?_, am⟩
        obtain ⟨ps0, a1, _⟩ := tabs p inT
        have := stay _ _ a1 isP
        rw [this] at at0
        rw [a1]
        exact at0
    · have n1 : hp.objs.size ≠ c' := Nat.ne_of_gt small
      have n2 : hp.objs.size ≠ P := Nat.ne_of_gt (Nat.lt_of_lt_of_le (Heap.lt_size tbObj) size)
      rw [at_other _ n2 n1]
      exact J.hok.fresh size
end Q

set_option Elab.async false
set_option linter.all false
set_option maxRecDepth 100000
set_option maxHeartbeats 4000000
/-! try, with several clauses that name what they catch -/
namespace Q
open PySem PySem.Spec PyProof.Rows L2
abbrev Suite := Addr → Value → Option Addr → TS
/-- what becomes of an error that meets the clauses: (class, slot of the name, suite) -/
def wNamed (K : PySem.W.Frag) (Wout : L2.WX) (D : Ends) : List (Value × Nat × Suite) → L2.WX
  | [] => Wout
  | (c, i, ts) :: r => fun cls d σ H => ∃ b, PySem.W.exmOne K cls c = some b ∧
      (b = true → ∀ a, H a = none → ts a cls d { nx := fun σ' H' => D.nx (σ'.set i none) H', rt := D.rt, bk := fun σ' H' => D.bk (σ'.set i none) H', ct := fun σ' H' => D.ct (σ'.set i none) H' } (σ.set i (some (.ref a))) H) ∧
      (b = false → wNamed K Wout D r cls d σ H)
inductive Clauses (X : Cx) : List ExceptHandler → List (Value × Nat × Suite) → Prop
  | nil : Clauses X [] []
  | cons {x n : Str} {i : Nat} {c : Value} {ts : Suite} {b0 : Stmt} {suite : List Stmt} {np hp : Pos} {more : List ExceptHandler} {l : List (Value × Nat × Suite)} (isC : Names X x c) (slot : X.N[i]? = some n) (loc : X.env.kindOf n = some .local)
      (reads : ∀ (a : Addr) (oe : Obj) (cls : Value) (d : Option Addr) (pn : List (Addr × Obj)), Zc cls d oe → (∃ vs, oe.data = .fields vs) → PSs (X.suite a ((a, oe) :: pn)) (b0 :: suite) (ts a cls d)) (rest : Clauses X more l) :
      Clauses X (.ExceptHandler (some (.Name x np)) (some n) (b0 :: suite) hp :: more) ((c, i, ts) :: l)
theorem ps_try_named {X : Cx} {body : List Stmt} {h0 : ExceptHandler} {more : List ExceptHandler} {l : List (Value × Nat × Suite)} {pos : Pos} {tb : L2.WX → TS} {Wout : L2.WX} (stack : X.stack = X.env :: X.outer) (frame : X.env.frame = some X.env.locals) (nd : X.N.Nodup) (takes : Takes X Wout)
    (reads : ∀ (W : L2.WX) (pn : List (Addr × Obj)) (xe : Value → Shared → Prop), Takes (X.tr pn xe) W → PassesOwn (model X.prog X.w) X.A X.env xe → PSs (X.tr pn xe) body (tb W)) (clauses : Clauses X (h0 :: more) l) :
    PS X (.Try body (h0 :: more) [] [] pos) (fun D σ H => tb (wNamed X.K Wout D l) D σ H) := by
  refine ⟨fun pins s σ H D J wish => ?_⟩
  have ok := J.ok
  have frames : X.A.frames = some (X.env :: X.outer) := by rw [ok.frames, stack]
  have inner := (reads (wNamed X.K Wout D l) (X.pn ++ pins) (fun e t1 => wpAny (model X.prog X.w) X.A (noteFrame e X.env) (fun _ t2 => wpAny (model X.prog X.w) X.A (setFlight e none) (fun _ t3 => wpAny (model X.prog X.w) X.A (handleBy e X.env (h0 :: more)) (SP X pins D) X.xe t3) X.xe t2) X.xe t1)
    (fun u s2 caught => by
      obtain ⟨a, B, sI, pins2, τ, G, cls, d, rfl, J0, noB, way, sky, aNew, sameOs, gens, meets⟩ := caught
      have J1 : Inv X pins τ G sI := J0.ofTry ok
      have sky1 : Sky B (X.env :: X.outer) a (Zc cls d) X.env.locals s2.heap := by rw [← stack]; exact sky
      show wpAny (model X.prog X.w) X.A (noteFrame (.ref a) X.env) _ _ _
      refine Sky.land Zc.steady frames frame sky1 fun h3 flies way3 => ?_
      have J3 : Inv X pins τ G { s2 with heap := h3 } := J1.landed noB flies.1 (way.trans way3) sameOs gens
      obtain ⟨o3, fs3, o3At, o3Cls, o3Data⟩ := flies.there
      have aFrame : a ∉ frs (X.env :: X.outer) := fun m => by
        obtain ⟨_, o4, at4, notFields⟩ := flies.2.2.1.mem m
        rw [o3At] at at4
        cases at4
        exact notFields _ o3Data
      have aLocals : a ≠ X.env.locals := fun e => aFrame (List.mem_filterMap.mpr ⟨X.env, List.mem_cons_self, by rw [frame, e]⟩)
      have aFs : a ∉ X.fs := fun m => by
        obtain ⟨env1, m1, f1⟩ := List.mem_filterMap.mp m
        exact aFrame (List.mem_filterMap.mpr ⟨env1, List.mem_cons_of_mem _ m1, f1⟩)
      have inSuite := J3.suite o3At o3Data aNew aLocals aFs
      have through : ∀ {hs : List ExceptHandler} {ls : List (Value × Nat × Suite)}, Clauses X hs ls → wNamed X.K Wout D ls cls d τ G → wpAny (model X.prog X.w) X.A (handleBy (.ref a) X.env hs) (SP X pins D) X.xe { s2 with heap := h3 } := by
        intro hs ls cl
        induction cl with
        | nil =>
          intro out
          refine wpAny_handleBy_nil ?_
          obtain ⟨_, _, _, oe, vs, T, _, _, oeAt, _, oeData, tr, _⟩ := id flies
          unfold PySem.passOn
          refine wpAny_bind (wpAny_field oeAt oeData tr ?_)
          rw [if_neg (by simp : ¬ ((Value.ref T == Value.none) = true))]
          have onward : wpAny (model X.prog X.w) X.A (setFlight (.ref a) X.env.frame) (fun _ t4 => wpAny (model X.prog X.w) X.A (throw (.ref a) : Sem Flow) (SP X pins D) X.xe t4) X.xe { s2 with heap := h3 } := by
            rw [frame]
            exact HandSPX.setFlight_upZ flies fun h4 held way4 => wpAny_throw (takes _ _ ⟨a, B, sI, pins, τ, G, cls, d, rfl, J1, noB, (way.trans way3).trans way4, .inr (.inr (by rw [stack]; exact held)), aNew, sameOs, gens, out⟩)
          first
            | exact wpAny_bind (wpAny_pure (wpAny_bind onward))
            | exact wpAny_bind onward
        | @cons x n i c ts b0 suite np hp more2 l2 isC slot loc suiteReads rest ih =>
          rintro ⟨b, fits, yes, no⟩
          refine wpAny_handleBy_cons (codeAny_handlers_test ?_) (by intro z; cases z)
          have tells : PySem.W.Looks (model X.prog X.w) h3 (typeOf (.ref a)) cls := fun A Q E t keep q => wpAny_typeOf_ref (keep _ _ o3At) (by rw [o3Cls.1]; exact q)
          have verdict := PySem.W.exm_one (M := model X.prog X.w) (J3.kIn) tells fits
          have named : ∀ {Q : Value → Shared → Prop} {E : Value → Shared → Prop}, Q c { s2 with heap := h3 } → wpAny (model X.prog X.w) (X.A.mark (some (.ref a))) (eval (.Name x np) X.env) Q E { s2 with heap := h3 } := fun {Q E} q => by
            obtain ⟨glob, noDebug, inMod | ⟨notMod, blt, notName⟩⟩ := isC
            · exact ld_glob (X := X.suite a ((a, o3) :: (X.pn ++ pins))) inSuite glob inMod q noDebug
            · exact ld_blt (X := X.suite a ((a, o3) :: (X.pn ++ pins))) inSuite glob notMod blt q notName noDebug
          refine named (verdict.here ?_)
          cases b with
          | false => exact ih (no rfl)
          | true =>
            refine codeAny_handlers_suite_as ?_
            refine HandSPX.lands_againZ flies fun h4 flies4 way4 => ?_
            have J4 : Inv X pins τ G { s2 with heap := h4 } := J1.landed noB flies4.1 ((way.trans way3).trans way4) sameOs gens
            obtain ⟨o4, fs4, o4At, o4Cls, o4Data⟩ := flies4.there
            refine store_ok (X := X.suite a ((a, o4) :: (X.pn ++ pins))) (v := .ref a) (J4.suite o4At o4Data aNew aLocals aFs) nd slot (.inl loc) rfl (fun t5 J5 => ?_) (.inr loc)
            refine wpAny_mono ((suiteReads a o4 cls d (X.pn ++ pins) o4Cls ⟨_, o4Data⟩).run [] t5 _ G _ J5 (yes rfl a aNew)) (fun flow t6 ends => ?_) (fun _ _ z => z.elim)
            have goes : ∀ {τ6 : L2.St} {G6 : Hp} {Q : Shared → Prop}, Inv (X.suite a ((a, o4) :: (X.pn ++ pins))) [] τ6 G6 t6 → (∀ t7, Inv X pins (τ6.set i none) G6 t7 → Q t7) →
                wpAny (model X.prog X.w) X.A (do bindName X.env n .none; unbindBehindTheSuite X.env n hp) (fun _ t7 => Q t7) X.xe t6 := fun J6 q => gone_ok (J6.unsuite ok) nd slot loc q
            cases flow with
            | ret u =>
              obtain ⟨v6, τ6, G6, J6, rel, q⟩ := ends
              exact goes J6 fun t7 J7 => ⟨_, _, _, J7, rel, q⟩
            | next =>
              obtain ⟨τ6, G6, J6, q⟩ := ends
              exact goes J6 fun t7 J7 => ⟨_, _, J7, q⟩
            | brk =>
              obtain ⟨τ6, G6, J6, q⟩ := ends
              exact goes J6 fun t7 J7 => ⟨_, _, J7, q⟩
            | cont =>
              obtain ⟨τ6, G6, J6, q⟩ := ends
              exact goes J6 fun t7 J7 => ⟨_, _, J7, q⟩
      exact through clauses meets) PassesOwn.looking).run [] s σ H D (J.toTry _) wish
  refine wpAny_Try_except (wpAny_mono inner (fun flow s1 ends => ?_) (fun e s1 he => he))
  cases flow with
  | ret u =>
    obtain ⟨v, τ, G, J0, rel, q⟩ := ends
    exact ⟨v, τ, G, J0.ofTry ok, rel, q⟩
  | next =>
    obtain ⟨τ, G, J0, q⟩ := ends
    exact wpAny_execs_nil ⟨τ, G, J0.ofTry ok, q⟩
  | brk =>
    obtain ⟨τ, G, J0, q⟩ := ends
    exact ⟨τ, G, J0.ofTry ok, q⟩
  | cont =>
    obtain ⟨τ, G, J0, q⟩ := ends
    exact ⟨τ, G, J0.ofTry ok, q⟩
end Q

set_option Elab.async false
set_option linter.all false
set_option maxRecDepth 100000
set_option maxHeartbeats 4000000
/-! tried(lambda: ..) -/
namespace Q
open PySem PySem.Spec PyProof.Rows L2 LamX
/-- a region that holds the tables of T -/
structure LamR (R : Rgn) (T : List (Addr × Str)) : Prop where
  tabs : ∀ {g : R.G} {Z : Addr → Prop} {H : Hp}, R.ok g Z H → Tabs T H ∧ ∀ p ∈ T, Z p.1
  step : ∀ {g : R.G} {Z : Addr → Prop} {H H1 : Hp}, R.ok g Z H → LamStep T H H1 → ∃ Z1 : Addr → Prop, R.ok g Z1 H1 ∧ (∀ b, Z b → Z1 b) ∧ ∀ b, Z1 b → Z b ∨ H b = none
theorem St.lam {c : Ctx} {F H H1 : Hp} {O : List Addr} {σ : L2.St} {ρ : DS c.R} {T : List (Addr × Str)} (S : St c F O σ ρ H) (L : LamR c.R T) (s : LamStep T H H1) : St c F O σ ρ H1 ∧ ∀ a ∈ O, H1 a = H a := by
  obtain ⟨Z, r, z1, z2, z3, z4⟩ := S.reg
  obtain ⟨tabs, inZ⟩ := L.tabs r
  obtain ⟨Z1, r1, up, dn⟩ := L.step r s
  have keep : ∀ b o, H b = some o → ¬ Z b → H1 b = some o := fun b o e n => s.keep b o e fun p hp q => n (by rw [← q]; exact inZ p hp)
  have sub1 : Same F H1 := fun b o e => keep b o (S.sub _ _ e) fun z => by
    rw [z1 b z] at e
    cases e
  have live1 : ∀ b, H b ≠ none → H1 b ≠ none := fun b n => by
    by_cases z : ∃ p ∈ T, p.1 = b
    · obtain ⟨p, hp, rfl⟩ := z
      obtain ⟨ps, e, _⟩ := s.tabs p hp
      rw [e]
      exact fun q => by cases q
    · cases q : H b with
      | none => exact absurd q n
      | some o =>
        rw [s.keep b o q fun p hp e => z ⟨p, hp, e⟩]
        exact fun q => by cases q
  have zf1 : ∀ b, Z1 b → F b = none := fun b h => by
    rcases dn b h with q | q
    · exact z1 b q
    · cases e : F b with
      | none => rfl
      | some o =>
        rw [S.sub _ _ e] at q
        cases q
  have gr : GrowR c.R ρ.g F H Z ρ.g F H1 Z1 := ⟨Same.refl _, sub1, fun b n => .inl n, keep, live1, r1, zf1, dn⟩
  refine ⟨S.growR z2 z3 z4 gr, fun a ha => ?_⟩
  cases q : H a with
  | none => exact absurd q (S.out a ha).2.2
  | some o => exact keep a o q (z3 a ha)
/-- the def g, of one parameter a, called with a lambda: TT is what it makes of the lambda's reading -/
def tLam1 (T : List (Addr × Str)) (TT : (XK → Hp → VK → Prop) → Hp → VK → Prop) (t : XK → TE) : TE := fun σ H Q => Tabs T H ∧ ∀ H1, LamStep T H H1 → TT (fun E H' Q' => t E σ H' Q') H1 Q
theorem pe_lam1 {X : Cx} {T : List (Addr × Str)} {TT : (XK → Hp → VK → Prop) → Hp → VK → Prop} {x a : Str} {g c P : Addr} {k : Nat} {st : Stmt} {gd : FuncData} {Ng : List Str} {params : Arguments} {body : Expr} {scope : Scope} {t : XK → TE} {p lpos pos : Pos}
    (hm : X.mg x = some (.ref g)) (fg : FnP X.K x x st g gd) (hb : L2.Binds X.K gd [a] []) (Sg : FnScope Ng [a] (defScope st)) (hNg : Ng[0]? = some a) (hva : Vis (defScope st) a)
    (hG : ∀ cdg, GivesTo X Ng x (defScope st) g cdg (defBody st) a (X.env.qual ++ "<lambda>") TT) (TB : TabB X.base X.mg c P) (code : X.env.code = .ref c) (mem : (P, X.env.qual ++ "<lambda>") ∈ T) (uni : ∀ p ∈ T, p.1 = P → p.2 = X.env.qual ++ "<lambda>")
    (hr : Room (k + 2) X.A) (L : LamS X.env.scope scope) (nodef : defaultsOf params X.env = ([], [])) (hbind : ∀ (q : Str) (cl : List (Str × Addr)) (pm cv ctv : Value), bindArgs (PySem.W.kla_fn "<lambda>" q params body scope cl pm cv ctv) ⟨[], []⟩ = pure [])
    (hbody : ∀ (A : Around) (outer : List Env) (s : Shared) (H : Hp) (E : XK) (f c' : Addr), Room k (A.deeper (lamEnv X scope s.heap.objs.size f c')) → PE (lamCx X A outer s H E scope f c') body (t E))
    (hg : Gl X x := by rfl) (hdb : (x == ("__debug__" : Str)) = false := by decide) (hd : (a == ("__debug__" : Str)) = false := by decide) (hcd : (a == ("__classdict__" : Str)) = false := by decide) :
    PE X (.Call (.Name x p) [.Lambda params body scope lpos] [] pos) (tLam1 T TT t) := by
  obtain ⟨oc, od, dV, kV, doc, pm, an, cdv, ct, osl, rfl, lk, codeG, _, _⟩ := fg.ex
  refine ⟨fun pins s σ H Q J ⟨tabs, wish⟩ => ?_⟩
  refine wpAny_Call_Name_kw (ld_glob J hg hm ?_ hdb)
  refine PySem.W.callWith_K (h₀ := X.base) J.ok.mod.kin fg.kp ?_ (by rfl) (by rfl)
  show wpAny _ _ (spliced ((false, eval (.Lambda params body scope lpos) X.env) :: backTo pos (starEach [] X.env))) _ _ s
  refine Calls.spliced_cons (lam_made J TB code mem uni tabs nodef (L.has J.ok) fun f c' pm' ctv H1 s1 J1 step fAt fNew fFrame c'At => ?_)
  refine Calls.spliced_nil ⟨J1.kIn, ?_⟩
  have ran : codeAny (model X.prog X.w) X.A (.call (.ref g) ⟨[.ref f], []⟩) (CR C8.CX0 X.stack X.prog X.w H1 s1 Q C8.E0) s1 := by
    refine run_ofS (N := Ng) (ps := [a]) (us := [.ref f]) (vs := [.ref f]) lk codeG Sg hr J1.env0 (hb s1 [.ref f] J1.kIn rfl) (.cons rfl .nil) rfl fun room => ?_
    obtain ⟨tg, bodyG, wishG⟩ := hG cdv f c' s1 H1 Q (fun E H' Q' => t E σ H' Q') (fun W pn xe E p1 p2 tk hW => pe_act (i := 0) J1 L fAt fNew fFrame (hbind _ _ _ _ _) tk hW room (fun A outer s H room2 => hbody A outer s H E f c' room2) hNg hva hd hcd) c'At (wish H1 step)
    exact ⟨tg, bodyG.nox, wishG⟩
  refine wpAny_call (codeAny_mono ran fun r s2 ends => ?_)
  cases r with
  | error e => exact (show False from ends).elim
  | ok flow =>
    cases flow with
    | ret u => exact J1.after ends
    | next => exact ends.elim
    | brk => exact ends.elim
    | cont => exact ends.elim
end Q

set_option Elab.async false
set_option linter.all false
set_option maxRecDepth 100000
set_option maxHeartbeats 4000000
/-! try: ask() / except C as e: return (tag, e.f, ..) -/
namespace Q
open PySem PySem.Spec PyProof.Rows L2 LamX
/-- an errors' reading may count on the number of slots -/
theorem takes_len {X : Cx} {W : L2.WX} (tk : Takes X W) : Takes X (fun cls d σ H => σ.length = X.N.length → W cls d σ H) := fun u s' ⟨a, B, sI, pins, σ, H, cls, d, e, I, nb, up, sky, na, os, ag, w⟩ =>
  tk u s' ⟨a, B, sI, pins, σ, H, cls, d, e, I, nb, up, sky, na, os, ag, w I.len⟩
def TTried (K : PySem.W.Frag) (n : Nat) (l : List (Value × Nat × Suite)) : (XK → Hp → VK → Prop) → Hp → VK → Prop := fun tl H Q =>
  tl (fun cls d H' => ∀ τ : L2.St, τ.length = n → wNamed K (fun _ _ _ _ => False) { nx := fun _ H' => Q .non H', rt := Q } l cls d τ H') H fun _ H' => Q .non H'
theorem tried_gives {X : Cx} {Ng : List Str} {x a q : Str} {sg : Scope} {g : Addr} {cdg : Value} {h0 : ExceptHandler} {more : List ExceptHandler} {l : List (Value × Nat × Suite)} {j : Nat} {p1 p2 p3 p4 p5 p6 : Pos} (nd : Ng.Nodup)
    (clauses : ∀ (s : Shared) (H : Hp), Clauses (cxOf C8.CX0 X.prog X.w X.K X.mg X.base Ng x sg g cdg X.A X.stack s H C8.E0).nox (h0 :: more) l) (s0 : ∀ f : Addr, (L2.start Ng [V.ref f])[0]? = some (some (V.ref f)))
    (sw : ∀ env : Env, swapsWith (.Call (.Name a p1) [] [] p2) none p3.line env = pure false) :
    GivesTo X Ng x sg g cdg [.Try [.Expr (.Call (.Name a p1) [] [] p2) p3] (h0 :: more) [] [] p4, .Return (some (.Constant .none j p5)) p6] a q (TTried X.K Ng.length l) := by
  intro f c' s H Q tl act hc wish
  refine ⟨_, pss_cons (ps_try_named (X := (cxOf C8.CX0 X.prog X.w X.K X.mg X.base Ng x sg g cdg X.A X.stack s H C8.E0).nox) (l := l)
      (tb := fun W D σ H => ∃ Ech : XK, (∀ cls d τ H', τ.length = Ng.length → Ech cls d H' → W cls d τ H') ∧ σ[0]? = some (some (.ref f)) ∧ H c' = some (CodeO c' q) ∧ tl Ech H (fun _ H' => D.nx σ H'))
      rfl rfl nd L2.takes0 (fun W pn xe tk _ => ?_) (clauses s H)) (pss_one (ps_ret pe_non)), ?_⟩
  · refine ⟨fun pins s' σ H' D I ⟨Ech, hW, h1, h2, h3⟩ => ?_⟩
    have called := act (fun cls d τ H' => τ.length = Ng.length → W cls d τ H') pn xe Ech p1 p2 (takes_len tk) fun cls d τ H' e n => hW cls d τ H' n e
    exact (pss_one (ps_expr (pos := p3) called (sw _))).run pins s' σ H' D I ⟨h1, h2, h3⟩
  · exact ⟨_, fun cls d τ H' n e => e τ n, s0 f, hc, wish⟩
/-- a clause: its class, the slot of its name, the tag, the fields told -/
structure Cl where
  C : Addr
  i : Nat
  tag : Str
  fs : List Str
def tFlds (a : Addr) (cls : Value) (d : Option Addr) (C : Addr) (i : Nat) : List Str → TA
  | [] => tNil
  | f :: fs => tCons (tXf a cls d C f (tVar i)) (tFlds a cls d C i fs)
def Cl.suite (k : Cl) : Suite := fun a cls d => tRet (tTup (tCons (tC (.str k.tag)) (tFlds a cls d k.C k.i k.fs)))
def Cl.told (k : Cl) : Value × Nat × Suite := (.ref k.C, k.i, k.suite)
def getFs (ns : List Str) (xs : List D) : List Str → Option (List D)
  | [] => some []
  | f :: fs => match lookD ns xs f, getFs ns xs fs with
    | some d, some ds => some (d :: ds)
    | _, _ => none
def wClauses {R : Rgn} (K : D → DS R → Prop) : List Cl → XR R
  | [] => fun _ _ _ _ => False
  | k :: r => fun C ns xs ρ => if C = k.C then ∃ ds, getFs ns xs k.fs = some ds ∧ ds.length ≤ 100 ∧ K (.tup (.str k.tag :: ds)) ρ else wClauses K r C ns xs ρ
theorem flds_run {K : PySem.W.Frag} {F H : Hp} {a C dx : Addr} {fs0 : List (Str × V)} {xs : List D} {σ : L2.St} {i : Nat} (hi : σ[i]? = some (some (.ref a))) (at_ : H dx = some (.xd fs0)) (r : Reps K F (fs0.map (·.2)) xs) :
    ∀ (fs : List Str) (ds : List D) (Q : List V → Hp → Prop), getFs (fs0.map (·.1)) xs fs = some ds → (∀ vs, Reps K F vs ds → Q vs H) → tFlds a (.ref C) (some dx) C i fs σ H Q
  | [], ds, Q, h, q => by
    cases h
    exact q [] .nil
  | f :: fs, ds, Q, h, q => by
    unfold getFs at h
    split at h
    · rename_i d ds' h1 h2
      cases h
      obtain ⟨v, hv, rv⟩ := lookD_of f r d h1
      refine ⟨.ref a, hi, rfl, rfl, dx, fs0, v, rfl, at_, hv, flds_run hi at_ r fs ds' _ h2 fun vs rs => q (v :: vs) (.cons rv rs)⟩
    · cases h
theorem clauses_run {c : Ctx} {F H : Hp} {O : List Addr} {σ : L2.St} {ρ : DS c.R} {Kk : D → DS c.R → Prop} {Q : VK} {C dx : Addr} {ns : List Str} {xs : List D} {n : Nat} (S : St c F O σ ρ H) (xd : XdL c.K F H dx ns xs)
    (next : ∀ d v F' H', Kk d ρ → St c F' O σ ρ H' → Same F F' → (∀ a ∈ O, H' a = H a) → Rep c.K F' v d → Q v H') {D0 : Ends} (rt : D0.rt = Q) : ∀ (cs : List Cl), (∀ k ∈ cs, k.i < n) → (∀ k ∈ cs, PySem.W.exmOne c.K (.ref C) (.ref k.C) = some (decide (C = k.C))) → wClauses Kk cs C ns xs ρ →
      ∀ τ : L2.St, τ.length = n → wNamed c.K (fun _ _ _ _ => False) D0 (cs.map Cl.told) (.ref C) (some dx) τ H
  | [], _, _, w, _, _ => w.elim
  | k :: r, hn, hx, w, τ, len => by
    refine ⟨decide (C = k.C), hx k List.mem_cons_self, fun yes a na => ?_, fun no => ?_⟩
    · have e := of_decide_eq_true yes
      subst e
      unfold wClauses at w
      rw [if_pos rfl] at w
      obtain ⟨ds, hd, l100, wk⟩ := w
      obtain ⟨fs0, at_, en, rf⟩ := xd.at_
      subst en
      have hi : (τ.set k.i (some (.ref a)))[k.i]? = some (some (.ref a)) := List.getElem?_set_self (by rw [len]; exact hn k List.mem_cons_self)
      show tFlds a (.ref k.C) (some dx) k.C k.i k.fs (τ.set k.i (some (.ref a))) H _
      refine flds_run hi at_ rf k.fs ds _ hd fun vs rs => ⟨by rw [List.length_cons, rs.length]; exact Nat.le_trans (by omega : ds.length + 1 ≤ 100000) big_line, fun p hp => ?_⟩
      have gr := (Al.one (F := F) (o := HO.tup (V.str k.tag :: vs)) hp).grow S.sub
      show D0.rt _ _
      rw [rt]
      exact next _ _ _ _ wk (S.grow gr) gr.fs (fun q hq => by rw [upd_ne (fun z => (S.out q hq).2.2 (by rw [z]; exact hp))]) (.tup (SqT.of upd_same) (.cons (.str _) (rs.same gr.fs)))
    · have ne := of_decide_eq_false no
      unfold wClauses at w
      rw [if_neg ne] at w
      exact clauses_run S xd next rt r (fun q m => hn q (List.mem_cons_of_mem _ m)) (fun q m => hx q (List.mem_cons_of_mem _ m)) w τ len
theorem in_clauses {R : Rgn} {K : D → DS R → Prop} {C : Addr} {ns : List Str} {xs : List D} {ρ : DS R} : ∀ {cs : List Cl}, wClauses K cs C ns xs ρ → ∃ k ∈ cs, C = k.C
  | [], h => h.elim
  | k :: r, h => by
    by_cases e : C = k.C
    · exact ⟨k, List.mem_cons_self, e⟩
    · unfold wClauses at h
      rw [if_neg e] at h
      obtain ⟨k', m, e'⟩ := in_clauses h
      exact ⟨k', List.mem_cons_of_mem _ m, e'⟩
/-- tried(lambda: e) -/
def wTried {R : Rgn} (cs : List Cl) (w : WEX R) : WE R := fun ρ K => w ρ (fun _ ρ' => K .non ρ') (wClauses K cs)
section
variable {X : Cx} {c : Ctx}
theorem de_tried {T : List (Addr × Str)} {cs : List Cl} {n k : Nat} {x a : Str} {g co P : Addr} {st : Stmt} {gd : FuncData} {Ng : List Str} {params : Arguments} {body : Expr} {scope : Scope} {w : WEX c.R} {p lpos pos p1 p2 p3 p4 p5 p6 : Pos} {h0 : ExceptHandler} {more : List ExceptHandler} {j : Nat}
    (hm : X.mg x = some (.ref g)) (fg : FnP X.K x x st g gd) (hb : L2.Binds X.K gd [a] []) (Sg : FnScope Ng [a] (defScope st)) (hNg : Ng[0]? = some a) (hva : Vis (defScope st) a) (hbd : defBody st = [.Try [.Expr (.Call (.Name a p1) [] [] p2) p3] (h0 :: more) [] [] p4, .Return (some (.Constant .none j p5)) p6])
    (clauses : ∀ (cdg : Value) (s : Shared) (H : Hp), Clauses (cxOf C8.CX0 X.prog X.w X.K X.mg X.base Ng x (defScope st) g cdg X.A X.stack s H C8.E0).nox (h0 :: more) (cs.map Cl.told)) (s0 : ∀ f : Addr, (L2.start Ng [V.ref f])[0]? = some (some (V.ref f)))
    (slots : ∀ k ∈ cs, k.i < Ng.length) (kinds : ∀ k ∈ cs, ∀ k' ∈ cs, PySem.W.exmOne c.K (.ref k.C) (.ref k'.C) = some (decide (k.C = k'.C)))
    (TB : LamX.TabB X.base X.mg co P) (code : X.env.code = .ref co) (mem : (P, X.env.qual ++ "<lambda>") ∈ T) (uni : ∀ p ∈ T, p.1 = P → p.2 = X.env.qual ++ "<lambda>") (LR : LamR c.R T)
    (hr : Room (k + 2) X.A) (L : LamX.LamS X.env.scope scope) (nodef : defaultsOf params X.env = ([], [])) (hbind : ∀ (q : Str) (cl : List (Str × Addr)) (pm cv ctv : Value), bindArgs (PySem.W.kla_fn "<lambda>" q params body scope cl pm cv ctv) ⟨[], []⟩ = pure [])
    (hbody : ∀ (A : Around) (outer : List Env) (s : Shared) (H : Hp) (E : XK) (f c' : Addr), Room k (A.deeper (LamX.lamEnv X scope s.heap.objs.size f c')) → DX (LamX.lamCx X A outer s H E scope f c') c body w E) (hk : X.K = c.K := by rfl)
    (hg : Gl X x := by rfl) (hdb : (x == ("__debug__" : Str)) = false := by decide) (hd : (a == ("__debug__" : Str)) = false := by decide) (hcd : (a == ("__classdict__" : Str)) = false := by decide) :
    DE X c false false (.Call (.Name x p) [.Lambda params body scope lpos] [] pos) (wTried cs w) := by
  refine ⟨(pe_lam1 (T := T) (t := fun E => liftX c w E) hm fg hb Sg hNg hva (fun cdg => by rw [hbd]; exact tried_gives Sg.nd (clauses cdg) s0 fun env => rfl) TB code mem uni hr L nodef hbind (fun A outer s H E f c' room => (hbody A outer s H E f c' room).pe) hg hdb hd hcd).imp fun σ H Q ⟨ρ, F, O, Kk, S, hw, next⟩ => ?_, hk⟩
  obtain ⟨Z, r, _⟩ := S.reg
  refine ⟨(LR.tabs r).1, fun H1 step => ?_⟩
  obtain ⟨S1, ko1⟩ := S.lam LR step
  refine ⟨ρ, F, O, _, _, S1, hw, fun d ρ' v F' H' hk' S' fs ko rp => next .non ρ' .non F' H' hk' S' fs (fun q hq => by rw [ko q hq, ko1 q hq]) (fun z => by cases z) .non, fun C ns xs ρ' F' H' dx hX S' fs ko xd τ len => ?_⟩
  obtain ⟨k0, m0, e0⟩ := in_clauses hX
  rw [hk]
  exact clauses_run S' xd (fun d v F2 H2 hk2 S2 fs2 ko2 rp => next d ρ' v F2 H2 hk2 S2 (fs.trans fs2) (fun q hq => by rw [ko2 q hq, ko q hq, ko1 q hq]) (fun z => by cases z) rp) rfl cs slots (fun k' m => by rw [e0]; exact kinds k0 m0 k' m) hX τ len
end
end Q

set_option Elab.async false
set_option linter.all false
set_option maxRecDepth 100000
set_option maxHeartbeats 4000000
/-! the law's stream, a region -/
namespace Q
open PySem PySem.Spec PyProof.Rows L2
/-- the stream at st, its cells at L; at most c draws so far -/
def Sm (st L : Addr) (c : Nat) (H : Hp) : Prop := st ≠ L ∧ ∃ (cell n seed : Int) (cs : List Int), H st = some (.lst [.ref L, .int cell, .int n, .int seed]) ∧ H L = some (.lst (cs.map V.int)) ∧
  cs.length ≤ 63 ∧ 0 ≤ cell ∧ 0 ≤ n ∧ n ≤ (c : Int) ∧ 0 ≤ seed ∧ seed < 2147483647
/-- all but the stream -/
def dat (st L : Addr) (H : Hp) : Hp := fun b => if b = st ∨ b = L then none else H b
theorem dat_sub {st L : Addr} {H : Hp} {b : Addr} {o : HO} (h : dat st L H b = some o) : H b = some o ∧ b ≠ st ∧ b ≠ L := by
  unfold dat at h
  split at h
  · cases h
  · rename_i n
    exact ⟨h, fun e => n (.inl e), fun e => n (.inr e)⟩
theorem dat_of {st L : Addr} {H : Hp} {b : Addr} {o : HO} (h : H b = some o) (h1 : b ≠ st) (h2 : b ≠ L) : dat st L H b = some o := by
  unfold dat
  rw [if_neg (by rintro (e | e); exact h1 e; exact h2 e)]
  exact h
def spStart (K : PySem.W.Frag) : Sp := fun vs H Q _ => ∃ (a : Addr) (ns : List Int), vs = [.ref a] ∧ SqL K H a (ns.map V.int) ∧ ns.length ≤ 63 ∧
  ∀ (H' : Hp) (st L : Addr), Same H (dat st L H') → Sm st L 0 H' → H st = none → H L = none → Q (.ref st) H'
def spDraw : Sp := fun vs H Q _ => ∃ (st L : Addr) (c : Nat) (m : Int), vs = [.ref st, .int m] ∧ Sm st L c H ∧ c ≤ 1000000 ∧ 0 < m ∧ m ≤ 100000 ∧
  ∀ (H' : Hp) (i : Int), Same (dat st L H) (dat st L H') → Sm st L (c + 1) H' → 0 ≤ i → i < m → Q (.int i) H'
/-- the stream, and the tables T with the code objects that they tell -/
structure SG where
  st : Addr
  L : Addr
  c : Nat
structure SmOk (T : List (Addr × Str)) (g : SG) (Z : Addr → Prop) (H : Hp) : Prop where
  sm : Sm g.st g.L g.c H
  zs : Z g.st
  zL : Z g.L
  tabs : LamX.Tabs T H
  zT : ∀ p ∈ T, Z p.1
  zc : ∀ p ∈ T, ∀ ps pos d, H p.1 = some (.tbl ps) → codeAmong pos ps.toList = some (.ref d) → Z d
  live : ∀ a, Z a → H a ≠ none
theorem Sm.at {st L : Addr} {c : Nat} {H H' : Hp} (h : Sm st L c H) (h1 : H' st = H st) (h2 : H' L = H L) : Sm st L c H' := by
  obtain ⟨ne, cell, n, seed, cs, a, b, r⟩ := h
  exact ⟨ne, cell, n, seed, cs, by rw [h1]; exact a, by rw [h2]; exact b, r⟩
def Strm (T : List (Addr × Str)) : Rgn where
  G := SG
  ok := SmOk T
  fr := fun {g Z H H'} h s => by
    have et : ∀ p ∈ T, H' p.1 = H p.1 := fun p hp => s _ (h.zT p hp)
    refine ⟨h.sm.at (s _ h.zs) (s _ h.zL), h.zs, h.zL, fun p hp => ?_, h.zT, fun p hp ps pos d e am => h.zc p hp ps pos d (by rw [← et p hp]; exact e) am, fun a z => by rw [s a z]; exact h.live a z⟩
    obtain ⟨ps, a1, a2, a3⟩ := h.tabs p hp
    refine ⟨ps, by rw [et p hp]; exact a1, a2, fun pos cv am => ?_⟩
    obtain ⟨d, e1, e2⟩ := a3 pos cv am
    subst e1
    exact ⟨d, rfl, by rw [s d (h.zc p hp ps pos d a1 am)]; exact e2⟩
  al := fun h a z => h.live a z
theorem lam_strm (T : List (Addr × Str)) : LamR (Strm T) T where
  tabs := fun h => ⟨SmOk.tabs h, SmOk.zT h⟩
  step := fun {g Z H H1} h s => by
    have h : SmOk T g Z H := h
    have notT : ∀ b xs, H b = some (.lst xs) → ∀ p ∈ T, p.1 ≠ b := fun b xs e p hp q => by
      obtain ⟨ps, a1, _⟩ := h.tabs p hp
      rw [q, e] at a1
      cases a1
    obtain ⟨ne, cell, n, seed, cs, hst, hL, _⟩ := id h.sm
    refine ⟨fun b => Z b ∨ (H b = none ∧ ∃ p ∈ T, ∃ ps pos, H1 p.1 = some (.tbl ps) ∧ codeAmong pos ps.toList = some (.ref b)), ⟨h.sm.at (by rw [hst]; exact s.keep _ _ hst (notT _ _ hst)) (by rw [hL]; exact s.keep _ _ hL (notT _ _ hL)), .inl h.zs, .inl h.zL, s.tabs, fun p hp => .inl (h.zT p hp), fun p hp ps pos d e am => ?_, fun a z => ?_⟩, fun b z => .inl z, fun b z => z.imp id And.left⟩
    · rcases s.codes p hp ps pos d e am with ⟨ps0, e0, am0⟩ | q
      · exact .inl (h.zc p hp ps0 pos d e0 am0)
      · exact .inr ⟨q, p, hp, ps, pos, e, am⟩
    · rcases z with z | ⟨q, p, hp, ps, pos, e, am⟩
      · by_cases m : ∃ p ∈ T, p.1 = a
        · obtain ⟨p, hp, rfl⟩ := m
          obtain ⟨ps, e, _⟩ := s.tabs p hp
          rw [e]
          exact fun q => by cases q
        · cases q : H a with
          | none => exact absurd q (h.live a z)
          | some o =>
            rw [s.keep a o q fun p hp e => m ⟨p, hp, e⟩]
            exact fun q => by cases q
      · obtain ⟨ps1, e1, _, a3⟩ := s.tabs p hp
        rw [e] at e1
        cases e1
        obtain ⟨d, ed, hd⟩ := a3 pos _ am
        cases ed
        rw [hd]
        exact fun q => by cases q
/-- a number drawn: any below m -/
def mDraw (T : List (Addr × Str)) : WMR (Strm T) := fun ds g Kk => ∃ m : Int, ds = [.raw (.ref g.st), .int m] ∧ g.c ≤ 1000000 ∧ 0 < m ∧ m ≤ 100000 ∧ ∀ i : Int, 0 ≤ i → i < m → Kk (.int i) (⟨g.st, g.L, g.c + 1⟩ : SG)
/-- from the stream's own promise to the region's -/
theorem draw_R {K : PySem.W.Frag} {T : List (Addr × Str)} : ∀ vs H Q E, spR (Strm T) K (mDraw T) vs H Q E → spDraw vs H Q E := by
  rintro vs H Q E ⟨ds, F, Z, g, Kk, sub, r, ok, zF, ⟨m, rfl, hc, m0, m1, kk⟩, next⟩
  have ok : SmOk T g Z H := ok
  cases r with
  | cons r1 r =>
    cases r1
    cases r with
    | cons r2 r =>
      cases r2
      cases r
      refine ⟨g.st, g.L, g.c, m, rfl, ok.sm, hc, m0, m1, fun H' i e sm i0 i1 => ?_⟩
      have keep : ∀ b o, H b = some o → b ≠ g.st → b ≠ g.L → H' b = some o := fun b o q n1 n2 => (dat_sub (e _ _ (dat_of q n1 n2))).1
      obtain ⟨ne, cell, n, seed, cs, hst, hL, _⟩ := id ok.sm
      have notL : ∀ {b o}, H b = some o → (∀ xs, o ≠ .lst xs) → b ≠ g.st ∧ b ≠ g.L := fun {b o} q n => ⟨fun z => by
        rw [z, hst] at q
        exact n _ (Option.some.inj q).symm, fun z => by
        rw [z, hL] at q
        exact n _ (Option.some.inj q).symm⟩
      have tab : ∀ p ∈ T, ∀ ps, H p.1 = some (.tbl ps) → H' p.1 = some (.tbl ps) := fun p hp ps q => by
        obtain ⟨n1, n2⟩ := notL q (fun xs z => by cases z)
        exact keep _ _ q n1 n2
      have code : ∀ d q, H d = some (LamX.CodeO d q) → H' d = some (LamX.CodeO d q) := fun d q h => by
        obtain ⟨n1, n2⟩ := notL h (fun xs z => by unfold LamX.CodeO at z; cases z)
        exact keep _ _ h n1 n2
      have live : ∀ b, H b ≠ none → H' b ≠ none := fun b n => by
        by_cases z1 : b = g.st
        · obtain ⟨_, cell', n', seed', cs', a, _⟩ := sm
          rw [z1, a]
          exact fun z => by cases z
        · by_cases z2 : b = g.L
          · obtain ⟨_, cell', n', seed', cs', _, a, _⟩ := sm
            rw [z2, a]
            exact fun z => by cases z
          · cases q : H b with
            | none => exact absurd q n
            | some o =>
              rw [keep b o q z1 z2]
              exact fun z => by cases z
      have tabs' : ∀ p ∈ T, ∀ ps, H' p.1 = some (.tbl ps) → H p.1 = some (.tbl ps) := fun p hp ps q => by
        obtain ⟨ps0, a1, _⟩ := ok.tabs p hp
        have := tab p hp ps0 a1
        rw [this] at q
        cases q
        exact a1
      refine next (.int i) (⟨g.st, g.L, g.c + 1⟩ : SG) (.int i) F Z H' (kk i i0 i1) ⟨Same.refl _, fun b o q => ?_, fun b n => .inl n, fun b o q z => ?_, live, (⟨sm, ok.zs, ok.zL, fun p hp => ?_, ok.zT, fun p hp ps pos d q am => ok.zc p hp ps pos d (tabs' p hp ps q) am, fun a z => live a (ok.live a z)⟩ : SmOk T ⟨g.st, g.L, g.c + 1⟩ Z H'), zF, fun b z => .inl z⟩ (.int i)
      · refine keep b o (sub _ _ q) (fun z => ?_) fun z => ?_
        · rw [z, zF _ ok.zs] at q; cases q
        · rw [z, zF _ ok.zL] at q; cases q
      · exact keep b o q (fun e => z (by rw [e]; exact ok.zs)) fun e => z (by rw [e]; exact ok.zL)
      · obtain ⟨ps, a1, a2, a3⟩ := ok.tabs p hp
        refine ⟨ps, tab p hp ps a1, a2, fun pos cv am => ?_⟩
        obtain ⟨d, e1, e2⟩ := a3 pos cv am
        exact ⟨d, e1, code d _ e2⟩
section
variable {R : Rgn} {g : WG R} {wt : WB R} {we : WE R} {vs : List Nat} {K : List D → DS R → Prop}
/-- a comprehension by an invariant of what is left, what is told -/
theorem lcGo_ind (I : List D → List D → DS R → Prop) (st : ∀ (d : D) (rest acc : List D) (N : List D → DS R → Prop) (ρ : DS R), (∀ acc' ρ', I rest acc' ρ' → N acc' ρ') → I (d :: rest) acc ρ →
      g d ρ fun ρ2 => wt ρ2 fun b ρ3 => if b = true then we ρ3 fun y ρ4 => N (acc ++ [y]) ⟨ρ4.g, wipeL ρ4.sl vs⟩ else N acc ⟨ρ3.g, wipeL ρ3.sl vs⟩)
    (e : ∀ acc ρ, I [] acc ρ → K acc ρ) : ∀ (ds acc : List D) (ρ : DS R), I ds acc ρ → lcGo g wt we vs K ds acc ρ
  | [], acc, ρ, h => by
    unfold lcGo
    exact e acc ρ h
  | d :: ds, acc, ρ, h => by
    unfold lcGo
    exact st d ds acc (fun acc' ρ' => lcGo g wt we vs K ds acc' ρ') ρ (fun acc' ρ' h' => lcGo_ind I st e ds acc' ρ' h') h
end
end Q

set_option Elab.async false
set_option linter.all false
set_option maxRecDepth 100000
set_option maxHeartbeats 4000000
/-! x, y = a, b: the first one an object of the def's own -/
namespace Q
open PySem PySem.Spec PyProof.Rows L2
section
variable {X : Cx} {c : Ctx} {fr : Bool} {a b : Expr} {pos : Pos} {pa pb : Bool} {wa wb : WE c.R}
def sParO {R : Rgn} (i k : Nat) (wa wb : WE R) : WS R := fun Dk ρ => wa ρ fun x ρ1 => wb ρ1 fun y ρ2 => Dk.nx ((ρ2.put i (some (.own x))).put k (some (.fz y)))
theorem ObjD.same {K : PySem.W.Frag} {F F' : Hp} (e : Same F F') : ∀ {o : HO} {d : D}, ObjD K F o d → ObjD K F' o d := fun {o d} h => by
  cases o <;> cases d <;> simp only [ObjD] at h ⊢
  · exact h.same e
  · exact ⟨h.1, h.2.same e⟩
  · exact ⟨h.1, h.2.same e⟩
theorem ds_parO {i k : Nat} {x y : Str} {px py pt : Pos} {kt k2 pt2} (hN : X.N.Nodup) (hij : i ≠ k) (ha : FE X c pa a wa) (hb : DE X c pb false b wb) (hi : X.N[i]? = some x := by rfl) (hj : X.N[k]? = some y := by rfl)
    (hx : X.env.scope.names.lookup x = some .local := by rfl) (hy : X.env.scope.names.lookup y = some .local := by rfl) (hc : X.calm = true := by rfl)
    (hw : swappedStores [.Tuple [.Name x px, .Name y py] kt pt] (.Tuple [a, b] k2 pt2) X.env = pure (some [x, y]) := by rfl)
    (hs : swapsWithSole [.Tuple [.Name x px, .Name y py] kt pt] (.Tuple [a, b] k2 pt2) pos.line X.env = pure false := by rfl)
    (h1 : starEach [a, b] X.env = (false, eval a X.env) :: starEach [b] X.env := by rfl) (h2 : starEach [b] X.env = (false, eval b X.env) :: starEach [] X.env := by rfl) :
    DS1 X c fr (.Assign [.Tuple [.Name x px, .Name y py] kt pt] (.Tuple [a, b] k2 pt2) pos) (sParO i k wa wb) :=
  ⟨(ps_par hc hN hi hj hij hx hy (pa_cons ha.pe (pa_cons hb.pe pa_nil h2) h1) hw hs).imp fun E σ H ⟨ρ, F, Dk, S, w, k1, k2, k3, k4⟩ => ⟨ρ, F, [], _, S, w, fun d ρ1 p o F1 H1 hw2 S1 fs1 _ _ hp ob => by
    refine ⟨ρ1, F1, [p], _, S1.protect hp, hw2, fun d2 ρ2 v2 F2 H2 hk S2 fs2 ko2 _ r2 => ?_⟩
    have at_ : H2 p = some o := by rw [ko2 p (by simp)]; exact upd_same
    have S3 := (S2.release (by simp : p ∉ ([] : List Addr))).setO (q := p) (o := o) gone_at (ob.same fs2) i
    rw [gone_upd at_] at S3
    have r2 : Rep c.K F2 v2 d2 := r2
    exact ⟨_, _, rfl, k1 _ _ F2 H2 hk (S3.setF r2 k) (fs1.trans fs2)⟩⟩⟩
end
end Q

set_option Elab.async false
set_option linter.all false
set_option maxRecDepth 100000
set_option maxHeartbeats 4000000
/-! x.extend(e), e a list or a tuple -/
namespace Q
open PySem PySem.Spec PyProof.Rows L2
open PySem.AutoSeq1 in
theorem extend_tuple (l : Addr) (xs : Array Value) (n : Nat) (t : Addr) (ys : Array Value) (m : Nat) (td : Option Addr) (tsl : Array (Option Value)) (short : ¬ (!xs.isEmpty && Builtin.List.listTooLong (xs.size + ys.size)) = true) (fit1 : xs.size ≤ sizeLine) (fit2 : xs.size + ys.size ≤ sizeLine + 1) :
    Meets (Builtin.«list.extend» ⟨[.ref l, .ref t], []⟩) (fun _ R s => s.heap.get? l = some { cls := .type "list", dict := none, data := .seq xs n, slots := #[] } ∧ s.heap.get? t = some { cls := .type "tuple", dict := td, data := .seq ys m, slots := tsl } ∧
      R (.ok (.ret Value.none)) { s with heap := s.heap.update l (Obj.mapSeq fun x => x ++ ys), toks := s.toks }) :=
  .of_wp fun prog w A R s ⟨lAt, tAt, next⟩ => by
    obtain ⟨hp, g, d, tk, os⟩ := s
    have i1 := idx_int
    have i2 := PySem.AutoSeq1.sub_tuple_tuple
    have i3 := PySem.AutoSeq1.sub_list_list
    have i4 := PySem.AutoSeq1.sub_tuple_list
    have i5 := PySem.AutoSeq1.sub_list_tuple
    have both : (xs ++ ys).size ≤ sizeLine + 1 := by rw [Array.size_append]; exact fit2
    wp_walk using (wpAny_updateSeq lAt rfl (hz := fit1) (_hz' := both)), PySem.AutoSeq1.wpAny_loadPart' lAt, PySem.AutoSeq1.wpAny_loadPart' tAt
    exact ⟨_, rfl, next⟩
def rExtT (K : PySem.W.Frag) : V → List V → Hp → VK → Prop := fun x vs H Q => ∃ l b xs zs, x = .ref l ∧ vs = [.ref b] ∧ H l = some (.lst xs) ∧ SqT K H b zs ∧ xs.length + zs.length ≤ sizeLine ∧ Q .non (upd H l (.lst (xs ++ zs)))
theorem mt_extT {X : Cx} : MtM X "list.extend" (rExtT X.K) := by
  rintro pins s σ H x vs v us Q J rx rv ⟨l, b, xs, zs, rfl, rfl, at_l, at_b, size, wish⟩
  cases rx
  obtain ⟨u, rfl, ru⟩ := rv.one
  cases ru
  obtain ⟨_, its, n, rels, len, lObj⟩ := J.lstM at_l
  obtain ⟨tts, trels, ⟨⟨tcls, tdict, tdata, tsl⟩, tObj, tCls, tn, tData⟩, _⟩ := J.tuple at_b
  have tlen := trels.length
  cases tCls
  cases tData
  have fits : its.toArray.size + tts.toArray.size ≤ sizeLine := by rw [List.size_toArray, List.size_toArray]; omega
  have noLong : ¬ (!its.toArray.isEmpty && Builtin.List.listTooLong (its.toArray.size + tts.toArray.size)) = true := by
    rw [notLongL fits, Bool.and_false]
    exact Bool.false_ne_true
  refine call_meets F.slot_list_extend ⟨_, lObj, rfl⟩ F.entry_list_extend (F.args_list_extend_2 _ _) (extend_tuple l its.toArray n b tts.toArray tn tdict tsl noLong (by rw [List.size_toArray]; omega) (by omega)) ⟨lObj, tObj, ?_⟩
  refine ⟨.non, _, J.lset (its' := its ++ tts) at_l lObj (by simp) (rels.append trels) ?_, rfl, wish⟩
  rw [List.length_append]
  omega
section
variable {X : Cx} {c : Ctx} {fr : Bool} {e : Expr} {pos : Pos} {pa ba : Bool} {we : WE c.R}
def sExtA {R : Rgn} (i : Nat) (we : WE R) : WS R := fun D ρ => (∃ ds, ρ.sl[i]? = some (some (.own (.lst ds)))) ∧ we ρ fun d ρ1 => ∃ ds es, d = .tup es ∧ ρ1.sl[i]? = some (some (.own (.lst ds))) ∧ ds.length + es.length ≤ 100000 ∧ D.nx (ρ1.put i (some (.own (.lst (ds ++ es)))))
theorem ds_extT {i : Nat} {x : Str} {ep pp qp : Pos} (he : DE X c pa ba e we) (hk : X.K = c.K := by rfl) (hN : X.N[i]? = some x := by rfl) (hv : Vis X.env.scope x := by first | exact .inl rfl | exact .inr (.inl rfl) | exact .inr (.inr rfl))
    (hd : (x == ("__debug__" : Str)) = false := by decide) (hcd : (x == ("__classdict__" : Str)) = false := by decide)
    (hbase : attributeBase (.Name x pp) "extend" X.env (eval (.Name x pp) X.env) = eval (.Name x pp) X.env := by rfl)
    (hfew : ((backTo ep (starEach [e] X.env)).all (fun x => !x.1) && (backToKw ep (keywordEach [] X.env)).all (fun x => x.1.isSome) && decide (([e] : List Expr).length + ([] : List Keyword).length + (if ([] : List Keyword).isEmpty then 0 else 1) < 30)) = true := by rfl)
    (hline : (qp.endLine == ep.line) = true := by rfl) (hst : starEach [e] X.env = (false, eval e X.env) :: starEach [] X.env := by rfl) (hplain : (backTo ep (starEach [] X.env)).any (·.1) = false := by rfl)
    (hs : swapsWith (.Call (.Attribute (.Name x pp) "extend" qp) [e] [] ep) none pos.line X.env = pure false := by rfl) :
    DS1 X c fr (.Expr (.Call (.Attribute (.Name x pp) "extend" qp) [e] [] ep) pos) (sExtA i we) :=
  ⟨(ps_expr (pe_bm PySem.F.plainAttrs_list PySem.F.slot_list_extend PySem.F.type_list_extend mt_extT (pe_var hN hv hd hcd) (pa_cons he.pe pa_nil hst) hbase hfew hline hst hplain) hs).imp fun E σ H ⟨ρ, F, Dk, S, ⟨⟨ds0, h0⟩, w⟩, k1, k2, k3, k4⟩ => by
    obtain ⟨q, hq, vs0, hvs0, _⟩ := own_at S h0
    refine ⟨.ref q, hq, .inl ⟨rfl, vs0, SqL.of hvs0⟩, ρ, F, [], _, S, w, fun d ρ1 v F1 H1 ⟨ds, es, e1, h2, hz, hk2⟩ S1 fs1 ko1 g1 r1 => ?_⟩
    subst e1
    obtain ⟨q', hq', vs, hvs, rv⟩ := own_at S1 h2
    rw [hq] at hq'
    cases hq'
    obtain ⟨b, us, rfl, hb, ru⟩ := (r1.bv S1).tup S1.sub
    refine ⟨q, b, vs, us, rfl, rfl, hvs, by rw [hk]; exact hb, by rw [rv.length, ru.length]; exact Nat.le_trans hz big_line, ?_⟩
    exact k1 _ σ F1 _ hk2 (S1.write hq h2 (o := .lst (vs ++ us)) (rv.append ru)) fs1⟩
end
end Q
namespace Q
open PySem PySem.Spec PyProof.Rows L2
/-- -e -/
def negD : D → Option D
  | .int i => some (.int (-i))
  | _ => none
theorem de_neg {X : Cx} {c : Ctx} {e : Expr} {pos : Pos} {pa ba : Bool} {we : WE c.R} (he : DE X c pa ba e we) : DE X c pa false (.UnaryOp .USub e pos) (wUn negD we) :=
  ⟨(pe_un un_neg he.pe).imp fun σ H Q ⟨ρ, F, O, Kk, S, w, k⟩ => ⟨ρ, F, O, _, S, w, fun x ρ1 v F1 H1 ⟨z, hz, hk⟩ S1 fs1 ko1 g1 r1 => by
    cases x <;> simp only [negD, reduceCtorEq, Option.some.injEq] at hz
    subst hz
    exact ⟨_, (r1.bv S1).int, k _ ρ1 _ F1 H1 hk S1 fs1 ko1 g1 (.int _)⟩⟩, he.kk⟩
end Q

set_option Elab.async false
set_option linter.all false
set_option maxRecDepth 100000
set_option maxHeartbeats 4000000
/-! e[:n], n anything that tells a number -/
namespace Q
open PySem PySem.Spec PyProof.Rows L2
def wSlH {R : Rgn} (we wh : WE R) : WE R := fun ρ K => we ρ fun x ρ1 => wh ρ1 fun y ρ2 => ∃ (i : Int) (z : D), y = .int i ∧ slD none (some i) x = some z ∧ K z ρ2
theorem de_slH {X : Cx} {c : Ctx} {e h : Expr} {pa pb bb : Bool} {we wh : WE c.R} {pos p2 : Pos} (he : DE X c pa false e we) (hh : DE X c pb bb h wh) : DE X c false false (.Subscript e (.Slice none (some h) none p2) pos) (wSlH we wh) :=
  ⟨(pe_slice ((sl_list (X := X)).or sl_tupA |>.or sl_str) he.pe po_none (po_some hh.pe)).imp fun σ H Q ⟨ρ, F, O, Kk, S, w, k⟩ => ⟨ρ, F, O, _, S, w, fun x ρ1 v F1 H1 hk S1 fs1 ko1 g1 r1 => ⟨ρ1, F1, O, _, S1, hk, fun y ρ2 u F2 H2 ⟨i, z, ey, hz, hk2⟩ S2 fs2 ko2 g2 r2 => by
    subst ey
    have r1' : Rep c.K F2 v x := Rep.same fs2 r1
    rw [he.kk]
    exact ⟨i, (r2.bv S2).int, rst S2.sub (.rep r1') hz fun v' F' H' al rp => k z ρ2 v' F' H' hk2 (S2.grow (al.grow S2.sub)) (fs1.trans (fs2.trans (al.fs S2.sub))) (fun q hq => by rw [ko_al S2 al q hq, ko2 q hq, ko1 q hq]) (fun e => by cases e) rp⟩⟩⟩, he.kk⟩
end Q

set_option Elab.async false
set_option linter.all false
set_option maxRecDepth 100000
set_option maxHeartbeats 4000000
/-! zip of two lists or of two tuples; what is never reached -/
namespace Q
open PySem PySem.Spec PyProof.Rows L2
section
variable {X : Cx} {c : Ctx} {e e2 : Expr} {p pos : Pos} {pa pb : Bool} {we wb : WE c.R}
theorem walks_zipT {K : PySem.W.Frag} {F0 : Hp} {a b : Addr} {vs us : List V} {ds es : List D} (q1 : SqT K F0 a vs) (m1 : Reps K F0 vs ds) (q2 : SqT K F0 b us) (m2 : Reps K F0 us es) : Walks K F0 (RZ.ItzT K a b) (zipD ds es) where
  go := fun F H i s1 s2 lt => by
    have lt1 : i < ds.length := by simp [zipD] at lt; omega
    have lt2 : i < es.length := by simp [zipD] at lt; omega
    have at1 : SqT K H a vs := SqT.same (s1.trans s2) q1
    have at2 : SqT K H b us := SqT.same (s1.trans s2) q2
    obtain ⟨v, hv, rv⟩ := m1.get' (List.getElem?_eq_getElem lt1)
    obtain ⟨u, hu, ru⟩ := m2.get' (List.getElem?_eq_getElem lt2)
    refine ⟨⟨vs, us, v, u, at1, at2, hv, hu⟩, ?_⟩
    rintro x H' ⟨new, y, y', rfl, free, rfl, f1, f2⟩
    obtain rfl : v = y := Option.some.inj (hv.symm.trans (f1 vs at1))
    obtain rfl : u = y' := Option.some.inj (hu.symm.trans (f2 us at2))
    obtain ⟨al, rp⟩ := al_tup (K := K) (us := [v, u]) (es := [ds[i], es[i]]) s2 free (.cons (rv.same s1) (.cons (ru.same s1) .nil))
    exact ⟨_, _, zipD_get (List.getElem?_eq_getElem lt1) (List.getElem?_eq_getElem lt2), al, rp⟩
  stop := fun F H s1 s2 => by
    refine ⟨vs, us, SqT.same (s1.trans s2) q1, SqT.same (s1.trans s2) q2, ?_⟩
    have l1 := m1.length
    have l2 := m2.length
    simp only [zipD, List.length_zipWith]
    omega
def wZpA {R : Rgn} (we wb : WE R) : WI R := fun ρ K => we ρ fun d ρ1 => wb ρ1 fun d' ρ2 => ∃ ds es, ((d = .lst ds ∧ d' = .lst es) ∨ (d = .tup ds ∧ d' = .tup es)) ∧ K (zipD ds es) ρ2
theorem di_zipA {elts : List Expr} {kk : Nat} {tpos : Pos} (hm : X.mg "zip" = none) (he : DE X c pa false e we) (he2 : DE X c pb false e2 wb) (hg : Gl X "zip" := by rfl) (h1 : starEach [e, e2] X.env = (false, eval e X.env) :: starEach [e2] X.env := by rfl) (h2 : starEach [e2] X.env = (false, eval e2 X.env) :: starEach [] X.env := by rfl)
    (h4 : (backTo pos (starEach [e2] X.env)).any (·.1) = false := by rfl) : DI X c (.Tuple elts kk tpos) (.Call (.Name "zip" p) [e, e2] [] pos) (wZpA we wb) :=
  ⟨(RZ.pi_zipA hg hm (pa_cons he.pe (pa_cons he2.pe pa_nil h2) h1) h1 h4).imp fun σ H R ⟨ρ, F, O, Kk, S, w, k⟩ => ⟨ρ, F, O, _, S, w, fun d ρ1 v F1 H1 hk1 S1 fs1 ko1 g1 r1 => ⟨ρ1, F1, O, _, S1, hk1, fun d' ρ2 u F2 H2 ⟨ds, es, cs, hk⟩ S2 fs2 ko2 g2 r2 => by
    have r1 := Rep.same fs2 r1
    have keep : ∀ q ∈ O, H2 q = H q := fun q hq => by rw [ko2 q hq, ko1 q hq]
    rcases cs with ⟨rfl, rfl⟩ | ⟨rfl, rfl⟩
    · cases r1 with
      | lst h r =>
        cases r2 with
        | lst h' r' =>
          rw [he.kk]
          exact ⟨_, _, _, _, rfl, .inl ⟨SqL.of (S2.sub _ _ h), SqL.of (S2.sub _ _ h'), k _ ρ2 F2 H2 _ hk S2 (fs1.trans fs2) keep (walks_zip h r h' r')⟩⟩
    · cases r1 with
      | tup h r =>
        cases r2 with
        | tup h' r' =>
          rw [he.kk]
          exact ⟨_, _, _, _, rfl, .inr ⟨SqT.same S2.sub h, SqT.same S2.sub h', k _ ρ2 F2 H2 _ hk S2 (fs1.trans fs2) keep (walks_zipT h r h' r')⟩⟩⟩⟩⟩
/-- never reached -/
def wNev {R : Rgn} : WE R := fun _ _ => False
theorem de_nev (hk : X.K = c.K := by rfl) : DE X c pa false e (wNev (R := c.R)) := ⟨⟨fun _ _ _ _ _ _ h => by obtain ⟨_, _, _, _, _, w, _⟩ := h; exact w.elim⟩, hk⟩
end
end Q

set_option Elab.async false
set_option linter.all false
set_option maxRecDepth 100000
set_option maxHeartbeats 4000000
/-! a method without arguments; .append to what is fresh; C(x), x a list of one's own that stays so -/
namespace Q
open PySem PySem.Spec PyProof.Rows L2
/-- a method of the class at C -/
structure CalM (P : Program) (w : World) (K : PySem.W.Frag) (mg : Str → Option Value) (base : Heap) (C : Addr) (x : Str) (k : Nat) (ps : List Str) (sp : Sp) : Prop where
  there : ∃ (g : Addr) (gd : FuncData), Meth K C x g ∧ FnOk P w K mg base CX0 k g gd ps sp ∧ Binds K gd ps []
  cls : Cls K C
section
variable {X : Cx} {c : Ctx} {fr : Bool} {e o : Expr} {pos p apos : Pos} {pa pb : Bool} {we wo : WE c.R} {j k : Nat} {x : Str} {ps : List Str}
theorem lookup_no {f : Str} : ∀ {fs : List (Str × V)}, f ∉ fs.map (·.1) → fs.lookup f = none
  | [], _ => rfl
  | (n, v) :: fs, h => by
    rw [List.map_cons, List.mem_cons, not_or] at h
    rw [List.lookup_cons, beq_eq_false_iff_ne.mpr h.1]
    exact lookup_no h.2
def wMeth {R : Rgn} (C : Addr) (f : Str) (m : WM) (we : WE R) : WE R := fun ρ K => we ρ fun d ρ1 => ∃ ns xs, d = .ins C ns xs ∧ f ∉ ns ∧ m [d] fun z => K z ρ1
theorem fe_meth {C : Addr} {m : WM} {pl : Sem Bool} (M : CalM X.prog X.w X.K X.mg X.base C x k ps (spF c.K m)) (hr : Room j X.A) (he : DE X c pa false o we) (hj : k ≤ j := by decide)
    (ht : eval (.Call (.Attribute o x apos) [] [] pos) X.env = (do
      let ov ← eval o X.env
      standAt apos.atName
      let (f, first) ← holding [ov] (getMethod ov x pl)
      callWith pos f first (backTo pos (starEach [] X.env)) (backToKw pos (keywordEach [] X.env))) := by rfl) : FE X c pa (.Call (.Attribute o x apos) [] [] pos) (wMeth C x m we) := by
  obtain ⟨g, gd, isM, G, hb⟩ := M.there
  refine ⟨(pe_meth0 he.pe M.cls isM G (hr.mono hj) hb .nil pass0 ht).imp fun σ H Q ⟨ρ, F, O, Kk, S, w, k⟩ => ⟨ρ, F, O, _, S, w, fun d ρ1 v F1 H1 ⟨ns, xs, ed, nf, told⟩ S1 fs1 ko1 g1 r1 => ?_⟩, he.kk⟩
  subst ed
  have r1' : Rep c.K F1 v (.ins C ns xs) := r1
  obtain ⟨a, dx, fs, rfl, at_, en, _⟩ := (BV.rep r1' : BV c.K F1 H1 v _).ins S1.sub
  subst en
  exact ⟨a, dx, fs, rfl, at_, lookup_no nf, [_], F1, _, S1.sub, .cons r1' .nil, told, fun d q ob F' H' hd gr hq od =>
    k d ρ1 q ob F' H' hd (S1.grow gr) (fs1.trans gr.fs) (fun b hb => by rw [gr.at (S1.out b hb).2.2]; exact ko1 b hb) (fun t => ⟨(g1 t).1, (g1 t).2.trans gr⟩) hq od⟩
/-- .append(e) to a fresh list that nobody keeps -/
def sAppF {R : Rgn} (wo we : WE R) : WS R := fun Dk ρ => wo ρ fun d ρ1 => we ρ1 fun _ ρ2 => ∃ ds, d = .lst ds ∧ ds.length < 100000 ∧ Dk.nx ρ2
theorem ds_appF (ho : FE X c pa o wo) (he : DE X c pb false e we) (hk : X.K = c.K := by rfl)
    (hbase : attributeBase o "append" X.env (eval o X.env) = eval o X.env := by rfl)
    (hfew : ((backTo p (starEach [e] X.env)).all (fun x => !x.1) && (backToKw p (keywordEach [] X.env)).all (fun x => x.1.isSome) && decide (([e] : List Expr).length + ([] : List Keyword).length + (if ([] : List Keyword).isEmpty then 0 else 1) < 30)) = true := by rfl)
    (hline : (apos.endLine == p.line) = true := by rfl) (hst : starEach [e] X.env = (false, eval e X.env) :: starEach [] X.env := by rfl) (hplain : (backTo p (starEach [] X.env)).any (·.1) = false := by rfl)
    (hs : swapsWith (.Call (.Attribute o "append" apos) [e] [] p) none pos.line X.env = pure false := by rfl)
    (lst : ∀ (ρ : DS c.R) (Kk : D → DS c.R → Prop), wo ρ Kk → wo ρ fun d ρ1 => Kk d ρ1 ∧ ∃ ds, d = .lst ds) : DS1 X c fr (.Expr (.Call (.Attribute o "append" apos) [e] [] p) pos) (sAppF wo we) := by
  refine ⟨(ps_expr (pe_bm PySem.F.plainAttrs_list PySem.F.slot_list_append PySem.F.type_list_append mt_append ho.pe (pa_cons he.pe pa_nil hst) hbase hfew hline hst hplain) hs).imp fun E σ H ⟨ρ, F, Dk, S, w, k1, _⟩ => ?_⟩
  refine ⟨ρ, F, [], _, S, lst _ _ w, fun d ρ1 q ob F1 H1 ⟨w2, ds0, ed⟩ S1 fs1 _ _ free od => ?_⟩
  subst ed
  obtain ⟨vs, rfl, rv⟩ : ∃ vs, ob = .lst vs ∧ Reps c.K F1 vs ds0 := by
    cases ob <;> simp only [ObjD] at od
    exact ⟨_, rfl, od⟩
  refine ⟨.inl ⟨rfl, vs, SqL.of upd_same⟩, ρ1, F1, [q], _, S1.protect free, w2, fun d2 ρ2 v2 F2 H2 ⟨ds, e1, small, nx⟩ S2 fs2 ko2 _ _ => ?_⟩
  cases e1
  have still : H2 q = some (.lst vs) := by rw [ko2 q (by simp)]; exact upd_same
  refine ⟨q, vs, v2, rfl, rfl, still, by rw [rv.length]; exact Nat.lt_of_lt_of_le small big_line, ?_⟩
  have S3 := (S2.release (by simp : q ∉ ([] : List Addr))).protect (p := q) (o := HO.lst (vs ++ [v2])) gone_at
  have same : upd (gone H2 q) q (HO.lst (vs ++ [v2])) = upd H2 q (.lst (vs ++ [v2])) := by
    funext b
    by_cases z : b = q
    · rw [z, upd_same, upd_same]
    · rw [upd_ne z, upd_ne z, gone_ne z]
  rw [same] at S3
  exact k1 ρ2 σ F2 _ nx ⟨S3.len, S3.sub, S3.old, S3.new, S3.keep, S3.live, S3.slots, fun i a h => ⟨(S3.mine i a h).1, (S3.mine i a h).2.1, by simp⟩, S3.inj, (fun a h => by cases h), S3.reg.imp fun Z ⟨r, z1, z2, _, z4⟩ => ⟨r, z1, z2, (fun a h => by cases h), z4⟩⟩ (fs1.trans fs2)
end
end Q

set_option Elab.async false
set_option linter.all false
set_option maxRecDepth 100000
set_option maxHeartbeats 4000000
namespace Q
open PySem PySem.Spec PyProof.Rows L2
/-! no list, no dict in it, at any depth -/
mutual
def noL : D → Bool
  | .tup xs => noLs xs
  | .ins _ _ xs => noLs xs
  | .non => true
  | .bl _ => true
  | .int _ => true
  | .str _ => true
  | _ => false
def noLs : List D → Bool
  | [] => true
  | x :: xs => noL x && noLs xs
end
section
variable {K : PySem.W.Frag} {F : Hp} {q : Addr} {us : List V}
theorem SqT.gone {a : Addr} {vs : List V} (hq : F q = some (.lst us)) (h : SqT K F a vs) : SqT K (gone F q) a vs := by
  rcases h with (h | ⟨o, h⟩) | h
  · exact .inl (.inl (by rw [gone_ne (fun e => by rw [e, hq] at h; cases h)]; exact h))
  · exact .inl (.inr ⟨o, by rw [gone_ne (fun e => by rw [e, hq] at h; cases h)]; exact h⟩)
  · exact .inr h
mutual
theorem Rep.gone (hq : F q = some (.lst us)) : ∀ {v : V} {d : D}, Rep K F v d → noL d = true → Rep K (Q.gone F q) v d
  | _, _, .non, _ => .non
  | _, _, .bl b, _ => .bl b
  | _, _, .int i, _ => .int i
  | _, _, .str x, _ => .str x
  | _, _, .lst _ _, n => by simp [noL] at n
  | _, _, .tup h r, n => .tup (SqT.gone hq h) (Reps.gone hq r (by simpa [noL] using n))
  | _, _, .dK _ _ _, n => by simp [noL] at n
  | _, _, .dT _ _ _, n => by simp [noL] at n
  | _, _, .ins h e r, n => .ins (by rw [gone_ne (fun z => by rw [z, hq] at h; cases h)]; exact h) e (Reps.gone hq r (by simpa [noL] using n))
  | _, _, .raw _, n => by simp [noL] at n
theorem Reps.gone (hq : F q = some (.lst us)) : ∀ {vs : List V} {ds : List D}, Reps K F vs ds → noLs ds = true → Reps K (Q.gone F q) vs ds
  | _, _, .nil, _ => .nil
  | _, _, .cons r rs, n => by
    rw [noLs, Bool.and_eq_true] at n
    exact .cons (Rep.gone hq r n.1) (Reps.gone hq rs n.2)
end
end
section
variable {X : Cx} {c : Ctx} {pos p yp : Pos} {j k : Nat} {x : Str} {ps : List Str}
/-- C(y), y a list of one's own; what is made holds no list -/
def wMakeB {R : Rgn} (i : Nat) (m : WMX) : WE R := fun ρ K => ∃ ds, ρ.sl[i]? = some (some (.own (.lst ds))) ∧ m [.lst ds] (fun d => noL d = true ∧ K d ρ) fun _ _ _ => False
theorem de_makeB {C : Addr} {m : WMX} {i : Nat} {y : Str} (M : CalK X.prog X.w X.K X.mg X.base x C k ps m) (hr : Room j X.A) (hN : X.N[i]? = some y := by rfl) (hv : Vis X.env.scope y := by first | exact .inl rfl | exact .inr (.inl rfl) | exact .inr (.inr rfl))
    (hj : k + 1 ≤ j := by decide) (hk : X.K = c.K := by rfl) (hg : Gl X x := by rfl) (hdb : (x == ("__debug__" : Str)) = false := by decide) (hd : (y == ("__debug__" : Str)) = false := by decide) (hcd : (y == ("__classdict__" : Str)) = false := by decide)
    (he : starEach [.Name y yp] X.env = (false, eval (.Name y yp) X.env) :: starEach [] X.env := by rfl) (hpl : (backTo pos (starEach [] X.env)).any (·.1) = false := by rfl) : DE X c false false (.Call (.Name x p) [.Name y yp] [] pos) (wMakeB i m) := by
  obtain ⟨f, fd, mk, G, hb⟩ := M.ex
  refine ⟨(pe_make mk G (hr.mono hj) hg M.at_ hb .nil passF (pa_cons (pe_var hN hv hd hcd) pa_nil he) hdb he hpl).imp fun σ H Q ⟨ρ, F, O, Kk, S, ⟨ds, hi, told⟩, next⟩ => ?_, hk⟩
  obtain ⟨q, hq, vs, hvs, rv⟩ := own_at S hi
  obtain ⟨q1, q2, q3⟩ := S.mine i q ⟨hq, _, hi⟩
  refine ⟨.ref q, hq, fun a dx freeA freeD neq => ?_⟩
  have qa : q ≠ a := ne_of_none hvs freeA
  have inH : ∀ {b o}, F b = some o → H b = some o := fun {b o} e => S.sub b o e
  have Fa : F a = none := by
    cases z : F a with
    | none => rfl
    | some o => rw [inH z] at freeA; cases freeA
  have up : Same H (upd (upd H dx (.own a)) a (.ins C dx [])) := fun b o e => by
    rw [upd_ne (ne_of_none e freeA), upd_ne (ne_of_none e freeD)]
    exact e
  have sub1 : Same (upd F q (.lst vs)) H := fun b o e => by
    by_cases z : b = q
    · rw [z, upd_same] at e
      rw [z, hvs]
      exact e
    · rw [upd_ne z] at e
      exact inH e
  have F1a : upd F q (.lst vs) a = none := by rw [upd_ne (Ne.symm qa)]; exact Fa
  have FF1 : Same F (upd F q (.lst vs)) := fun b o e => by rw [upd_ne (fun z => by rw [z, q1] at e; cases e)]; exact e
  refine ⟨a, dx, [.ref q], [.lst ds], upd F q (.lst vs), _, _, rfl, upd_same, F1a, sub1.trans up, .cons (.lst upd_same (by rw [hk]; exact rv.same FF1)) .nil, told, fun ns xs fs F' H' ⟨nl, hk'⟩ gr nx en rf => ⟨rfl, ?_⟩, fun _ _ _ _ _ _ bad => bad.elim⟩
  have F'q : F' q = some (.lst vs) := gr.fs _ _ upd_same
  have ga : gone F' q a = none := by rw [gone_ne (Ne.symm qa)]; exact nx
  have g2 : Grow F H (upd (gone F' q) a (.ins C dx fs)) (upd H' a (.ins C dx fs)) := by
    refine ⟨fun b o e => ?_, fun b o e => ?_, fun b o e => ?_, fun b n => ?_⟩
    · have bq : b ≠ q := fun z => by rw [z, q1] at e; cases e
      have ba : b ≠ a := fun z => by rw [z, Fa] at e; cases e
      rw [upd_ne ba, gone_ne bq]
      exact gr.fs _ _ (FF1 _ _ e)
    · by_cases z : b = a
      · rw [z, upd_same] at e ⊢
        exact e
      · rw [upd_ne z] at e ⊢
        have bq : b ≠ q := fun y => by rw [y, gone_at] at e; cases e
        rw [gone_ne bq] at e
        exact gr.sub _ _ e
    · rw [upd_ne (ne_of_none e freeA)]
      exact gr.hs _ _ (up _ _ e)
    · by_cases z : b = a
      · rw [z]; exact .inr freeA
      · rw [upd_ne z] at n
        have bq : b ≠ q := fun y => by rw [y] at n; exact n gone_at
        rw [gone_ne bq] at n
        rcases gr.old b n with h | h
        · rw [upd_ne bq] at h
          exact .inl h
        · refine .inr ?_
          rw [upd_ne z] at h
          by_cases y : b = dx
          · rw [y]; exact freeD
          · rw [upd_ne y] at h; exact h
  have rf' : Reps X.K (gone F' q) (fs.map (·.2)) xs := Reps.gone F'q rf (by simpa [noL] using nl)
  have stay : Same (gone F' q) (upd (gone F' q) a (.ins C dx fs)) := fun b o e => by rw [upd_ne (fun z => by rw [z, ga] at e; cases e)]; exact e
  refine next _ ρ (.ref a) _ _ hk' (S.grow g2) g2.fs (fun b hb => ?_) (fun z => by cases z) (.ins upd_same en ?_)
  · rw [g2.at (S.out b hb).2.2]
  · rw [← hk]; exact rf'.same stay
end
end Q
namespace Q
open PySem PySem.Spec PyProof.Rows L2
section
variable {X : Cx} {c : Ctx} {a b : Expr} {pos : Pos} {pa pb : Bool} {wa wb : WE c.R} {j : Nat}
/-! == and != of a class's own, as tests -/
theorem dt_ownE {C : Addr} {m : WM} {n : Nat} (I : IsC c.K C) (O : OwnEq X C n m) (hr : Room j X.A) (ha : DE X c pa false a wa) (hb : DE X c pb false b wb) (hj : n ≤ j := by decide) (hm : behindInMarks .Eq b = false := by rfl) : DT X c (pa && pb) (.Compare a [.Eq] [b] pos) (wTest (wOwnE C false m wa wb)) := by
  obtain ⟨g, h1, h2, F⟩ := O.ex
  exact ⟨(pt_cmpR (op_ownE h1 h2 F (hr.mono hj)) ha.pe hb.pe hm).imp fun σ H Q h => by rw [ha.kk]; exact ownE_ok I ha hb (test_ok (ba := false) h)⟩
theorem dt_ownN {C : Addr} {m : WM} {n : Nat} (I : IsC c.K C) (O : OwnEq X C n m) (hr : Room j X.A) (ha : DE X c pa false a wa) (hb : DE X c pb false b wb) (hj : n + 1 ≤ j := by decide) (hm : behindInMarks .NotEq b = false := by rfl) : DT X c (pa && pb) (.Compare a [.NotEq] [b] pos) (wTest (wOwnE C true m wa wb)) := by
  obtain ⟨g, h1, h2, F⟩ := O.ex
  exact ⟨(pt_cmpR (op_ownN O.ne h1 h2 (by rw [ha.kk]; exact I.hm) F (hr.mono hj)) ha.pe hb.pe hm).imp fun σ H Q h => by rw [ha.kk]; exact ownE_ok I ha hb (test_ok (ba := false) h)⟩
end
end Q

set_option Elab.async false
set_option linter.all false
set_option maxRecDepth 100000
set_option maxHeartbeats 4000000
namespace L31
open PySem PySem.Spec PyProof.Rows L2 Q
def top (i : Nat) : Stmt := PySem.Challenge.pw_rulehouse_k31_folds_made.main.body.getD i (.Pass ⟨0, 0, 0, 0⟩)
/-- the built-ins' names are no names of the module; its constants -/
structure Tx (K : PySem.W.Frag) (mg : Str → Option Value) : Prop where
  b_len : mg "len" = none
  b_isinstance : mg "isinstance" = none
  b_list : mg "list" = none
  b_tuple : mg "tuple" = none
  b_int : mg "int" = none
  b_str : mg "str" = none
  b_bool : mg "bool" = none
  b_dict : mg "dict" = none
  b_all : mg "all" = none
  b_any : mg "any" = none
  b_range : mg "range" = none
  b_enumerate : mg "enumerate" = none
  b_zip : mg "zip" = none
  g_SMALL : GlD K mg "SMALL" (.str "abcdefghijklmnopqrstuvwxyz")
  g_CAPITALS : GlD K mg "CAPITALS" (.str "ABCDEFGHIJKLMNOPQRSTUVWXYZ")
  g_FIGURES : GlD K mg "FIGURES" (.str "0123456789")
  g_NAME_SIGNS : GlD K mg "NAME_SIGNS" (.str "abcdefghijklmnopqrstuvwxyz0123456789")
  g_BARRED_NAMES : GlD K mg "BARRED_NAMES" (.tup [.str "not", .str "unlike", .str "if"])
  g_LONGEST_NAME : GlD K mg "LONGEST_NAME" (.int 12)
  g_LONGEST_LETTER : GlD K mg "LONGEST_LETTER" (.int 4)
  g_MOST_TERMS : GlD K mg "MOST_TERMS" (.int 6)
  g_MOST_HEAD_TERMS : GlD K mg "MOST_HEAD_TERMS" (.int 5)
  g_WORDS : GlD K mg "WORDS" (.tup [.str "count", .str "sum", .str "least", .str "most"])
section
variable {P : Program} {w : World} {K : PySem.W.Frag} {mg : Str → Option Value} {base : Heap} {f : Addr} {fd : FuncData}
def tame1 : List D → Prop := fun ds => ∃ x, ds = [x] ∧ tame x
@[simp] theorem tame1_one (x : D) : tame1 [x] = tame x := by
  apply propext
  constructor
  · rintro ⟨y, e, h⟩
    cases e
    exact h
  · exact fun h => ⟨x, rfl, h⟩
theorem tame1_len {ds : List D} (h : tame1 ds) : ∃ x, ds = [x] ∧ tame x := h
def isInt : D → Bool
  | .int _ => true
  | _ => false
-- is_integer: slots 0 thing
abbrev s_is_integer : Stmt := (top 12)
abbrev N_sc_is_integer : List Str := ["thing"]
theorem sc_is_integer : FnScope N_sc_is_integer ["thing"] (defScope s_is_integer) := ⟨rfl, rfl, rfl, by decide +kernel, rfl, by decide +kernel, by decide +kernel⟩
theorem ok_is_integer (F : FnP K "is_integer" "is_integer" s_is_integer f fd) (T : Tx K mg) : FnOk P w K mg base CX0 1 f fd ["thing"] (spD K (wF tame1 fun ds => .bl (isInt (ds.headD .non)))) :=
  FnD F sc_is_integer (fun ds Kk h => by obtain ⟨⟨x, rfl, _⟩, _⟩ := h; rfl) fun cdv A outer s H Fz E hr => ⟨_, 
(ds_one (ds_ret (de_and (de_is1 T.b_isinstance (TyN.mk (t := .int) (by rfl) T.b_int (by decide +kernel) (by decide) (by decide)) (de_v (i := 0))) (de_one (de_not (de_is1 T.b_isinstance (TyN.mk (t := .bool) (by rfl) T.b_bool (by decide +kernel) (by decide) (by decide)) (de_v (i := 0))))))))
  , fun ds Kk h => by
    obtain ⟨⟨x, rfl, hx⟩, k⟩ := h
    cases x <;> simp [sRet, wAndV, wOrV, wNotV, wUn, wOp, wV, wB, wO, wC, wIfE, wTest, wTruth, wBand, wBor, wBnot, wChain, wSl, wPart, wTup, wLst, wCons, wNil, wCall, sIf, sSeq, sSet, sNew, sNext, sPass, sApp, sExt, sDrop, sAsg, gNm, gTp, gCs, gNl, startD, DS.put, wF, isaD, eqD, inSq, isInt] at * <;> exact k⟩
def strNm (z : Str) : Bool := decide (1 ≤ z.length) && decide (z.length ≤ 12) && decide (z.cps.toList.headD 0 ∈ ("abcdefghijklmnopqrstuvwxyz" : Str).cps.toList) && !decide (z = "not" ∨ z = "unlike" ∨ z = "if") &&
  z.cps.toList.all fun c => decide (c ∈ ("abcdefghijklmnopqrstuvwxyz0123456789" : Str).cps.toList)
def isNm : D → Bool
  | .str z => strNm z
  | _ => false
-- is_name: slots 0 thing, 1 sign
abbrev s_is_name : Stmt := (top 13)
abbrev N_sc_is_name : List Str := ["thing", "sign"]
theorem sc_is_name : FnScope N_sc_is_name ["thing"] (defScope s_is_name) := ⟨rfl, rfl, rfl, by decide +kernel, rfl, by decide +kernel, by decide +kernel⟩
theorem ok_is_name (F : FnP K "is_name" "is_name" s_is_name f fd) (T : Tx K mg) : FnOk P w K mg base CX0 1 f fd ["thing"] (spD K (wF tame1 fun ds => .bl (isNm (ds.headD .non)))) :=
  FnD F sc_is_name (fun ds Kk h => by obtain ⟨⟨x, rfl, _⟩, _⟩ := h; rfl) fun cdv A outer s H Fz E hr => ⟨_, 
(ds_cons (ds_if (DW.dt (dw_or (dt_not (dt_truth (de_is1 T.b_isinstance (TyN.mk (t := .str) (by rfl) T.b_str (by decide +kernel) (by decide) (by decide)) (de_v (i := 0))))) (dw_or1 (dt_not (dt_chain c_le c_le de_int (de_len T.b_len (de_v (i := 0))) (de_g T.g_LONGEST_NAME)))))) (ds_one (ds_ret de_bl)) ds_nil)
 (ds_cons (ds_if (DW.dt (dw_or (dt_cm (c_ni hr) (de_ixA (de_v (i := 0)) de_int) (de_g T.g_SMALL)) (dw_or1 (dt_cm (c_in hr) (de_v (i := 0)) (de_g T.g_BARRED_NAMES))))) (ds_one (ds_ret de_bl)) ds_nil)
 (ds_one (ds_ret (de_all T.b_all (FE.de (fe_lc (own := [("sign", 1)]) sc_is_name.nd (di_seq (de_v (i := 0))) (blkOk_by (own := [("sign", 1)]) (N := N_sc_is_name) (sc := defScope s_is_name) (by decide +kernel)) (fun _ _ _ _ _ => (dg_name (i := 1) sc_is_name.nd)) (fun _ _ _ _ _ => dts_nil) (fun _ _ _ _ _ => (de_cm (c_in hr) (de_v (i := 1)) (de_g T.g_NAME_SIGNS))))))))))
  , fun ds Kk h => by
    obtain ⟨⟨x, rfl, hx⟩, k⟩ := h
    cases x
    case str z =>
      obtain ⟨⟨l⟩⟩ := z
      have hx : l.length ≤ 100000 := by simpa [tame, Str.length] using hx
      cases l with
      | nil => simp [sRet, wAndV, wOrV, wNotV, wUn, wOp, wV, wB, wO, wC, wIfE, wTest, wTruth, wBand, wBor, wBnot, wChain, wSl, wPart, wTup, wLst, wCons, wNil, wCall, sIf, sSeq, sSet, sNew, sNext, sPass, sApp, sExt, sDrop, sAsg, gNm, gTp, gCs, gNl, startD, DS.put, wF, isaD, eqD, inSq, isNm, strNm, Str.length] at *; exact k
      | cons a r =>
        have hx : r.length ≤ 99999 := by simpa using hx
        by_cases h1 : r.length ≤ 11
        · have hx2 : (r.length : Int) + 1 ≤ 12 := by omega
          have hx3 : (1 : Int) ≤ r.length + 1 := by omega
          by_cases h2 : a ∈ ("abcdefghijklmnopqrstuvwxyz" : Str).cps
          · by_cases h3 : (⟨⟨a :: r⟩⟩ : Str) = "not" ∨ (⟨⟨a :: r⟩⟩ : Str) = "unlike" ∨ (⟨⟨a :: r⟩⟩ : Str) = "if"
            · simp [sRet, wAndV, wOrV, wNotV, wUn, wOp, wV, wB, wO, wC, wIfE, wTest, wTruth, wBand, wBor, wBnot, wChain, wSl, wPart, wTup, wLst, wCons, wNil, wCall, sIf, sSeq, sSet, sNew, sNext, sPass, sApp, sExt, sDrop, sAsg, gNm, gTp, gCs, gNl, startD, DS.put, wF, isaD, eqD, inSq, isNm, strNm, Str.length, ixN, Q.signs, hx, hx2, hx3, h1, h2, h3] at k ⊢
              exact .inr ⟨by rcases h3 with h | h | h <;> simp [h], k⟩
            · simp [sRet, wAndV, wOrV, wNotV, wUn, wOp, wV, wB, wO, wC, wIfE, wTest, wTruth, wBand, wBor, wBnot, wChain, wSl, wPart, wTup, wLst, wCons, wNil, wCall, sIf, sSeq, sSet, sNew, sNext, sPass, sApp, sExt, sDrop, sAsg, gNm, gTp, gCs, gNl, startD, DS.put, wF, isaD, eqD, inSq, isNm, strNm, Str.length, ixN, Q.signs, hx, hx2, hx3, h1, h2] at k ⊢
              refine .inl ⟨⟨fun e => h3 (.inl e.symm), fun e => h3 (.inr (.inl e.symm)), fun e => h3 (.inr (.inr e.symm))⟩, ?_⟩
              refine wLc_m (α := Nat) (h := fun c => .str ⟨#[c]⟩) (xs := a :: r) (f := fun c => .bl (decide (c ∈ ("abcdefghijklmnopqrstuvwxyz0123456789" : Str).cps.toList))) (x := none) (fun K k => ⟨_, rfl, ⟨_, rfl, k⟩⟩) (by simp; omega) rfl (fun _ h => by cases h) (fun c _ K k => ⟨_, rfl, _, rfl, k⟩) _ ?_
              rw [all_map]
              refine ⟨_, rfl, ?_⟩
              rw [not_or, not_or] at h3
              simp [h3.1, h3.2.1, h3.2.2] at k ⊢
              exact k
          · simp [sRet, wAndV, wOrV, wNotV, wUn, wOp, wV, wB, wO, wC, wIfE, wTest, wTruth, wBand, wBor, wBnot, wChain, wSl, wPart, wTup, wLst, wCons, wNil, wCall, sIf, sSeq, sSet, sNew, sNext, sPass, sApp, sExt, sDrop, sAsg, gNm, gTp, gCs, gNl, startD, DS.put, wF, isaD, eqD, inSq, isNm, strNm, Str.length, ixN, Q.signs, hx, hx2, hx3, h1, h2] at k ⊢
            exact k
        · have hx2 : ¬ (r.length : Int) + 1 ≤ 12 := by omega
          have hx3 : (1 : Int) ≤ r.length + 1 := by omega
          simp [sRet, wAndV, wOrV, wNotV, wUn, wOp, wV, wB, wO, wC, wIfE, wTest, wTruth, wBand, wBor, wBnot, wChain, wSl, wPart, wTup, wLst, wCons, wNil, wCall, sIf, sSeq, sSet, sNew, sNext, sPass, sApp, sExt, sDrop, sAsg, gNm, gTp, gCs, gNl, startD, DS.put, wF, isaD, eqD, inSq, isNm, strNm, Str.length, hx, hx2, hx3, h1] at k ⊢
          exact k
    all_goals (simp [sRet, wAndV, wOrV, wNotV, wUn, wOp, wV, wB, wO, wC, wIfE, wTest, wTruth, wBand, wBor, wBnot, wChain, wSl, wPart, wTup, wLst, wCons, wNil, wCall, sIf, sSeq, sSet, sNew, sNext, sPass, sApp, sExt, sDrop, sAsg, gNm, gTp, gCs, gNl, startD, DS.put, wF, isaD, eqD, inSq, isNm] at * <;> exact k)⟩
end
end L31

set_option Elab.async false
set_option linter.all false
set_option maxRecDepth 100000
set_option maxHeartbeats 4000000
namespace L31
open PySem PySem.Spec PyProof.Rows L2 Q
section
variable {P : Program} {w : World} {K : PySem.W.Frag} {mg : Str → Option Value} {base : Heap} {f : Addr} {fd : FuncData}
def isTh (d : D) : Bool := isInt d || isNm d
-- is_thing: slots 0 thing
abbrev s_is_thing : Stmt := (top 14)
abbrev N_sc_is_thing : List Str := ["thing"]
theorem sc_is_thing : FnScope N_sc_is_thing ["thing"] (defScope s_is_thing) := ⟨rfl, rfl, rfl, by decide +kernel, rfl, by decide +kernel, by decide +kernel⟩
theorem ok_is_thing (F : FnP K "is_thing" "is_thing" s_is_thing f fd) (T : Tx K mg) (C_is_integer : Cal P w K mg base "is_integer" 1 ["thing"] (spD K (wF tame1 fun ds => .bl (isInt (ds.headD .non))))) (C_is_name : Cal P w K mg base "is_name" 1 ["thing"] (spD K (wF tame1 fun ds => .bl (isNm (ds.headD .non))))) :
    FnOk P w K mg base CX0 2 f fd ["thing"] (spD K (wF tame1 fun ds => .bl (isTh (ds.headD .non)))) :=
  FnD F sc_is_thing (fun ds Kk h => by obtain ⟨⟨x, rfl, _⟩, _⟩ := h; rfl) fun cdv A outer s H Fz E hr => ⟨_, 
(ds_one (ds_ret (de_or (de_call C_is_integer hr (da_cons (de_v (i := 0)) da_nil)) (de_one (de_call C_is_name hr (da_cons (de_v (i := 0)) da_nil))))))
  , fun ds Kk h => by
    obtain ⟨⟨x, rfl, hx⟩, k⟩ := h
    cases h1 : isInt x <;> simp [sRet, wAndV, wOrV, wNotV, wUn, wOp, wV, wB, wO, wC, wIfE, wTest, wTruth, wBand, wBor, wBnot, wChain, wSl, wPart, wTup, wLst, wCons, wNil, wCall, sIf, sSeq, sSet, sNew, sNext, sPass, sApp, sExt, sDrop, sAsg, gNm, gTp, gCs, gNl, startD, DS.put, wF, isaD, eqD, inSq, isTh, h1, hx] at k ⊢ <;> exact k⟩
def strLt (z : Str) : Bool := decide (1 ≤ z.length) && decide (z.length ≤ 4) && decide (z.cps.toList.headD 0 ∈ ("ABCDEFGHIJKLMNOPQRSTUVWXYZ" : Str).cps.toList) && !decide ((z.cps.toList.drop 1).take 1 = [48]) &&
  (z.cps.toList.drop 1).all fun c => decide (c ∈ ("0123456789" : Str).cps.toList)
def isLt : D → Bool
  | .str z => strLt z
  | _ => false
theorem cut_tail (a : Nat) (r : List Nat) : cutS ⟨⟨a :: r⟩⟩ (some 1) none = ⟨⟨r⟩⟩ := by
  simp [cutS, HT.sIx, Str.length]
theorem cut_one (a : Nat) (r : List Nat) : cutS ⟨⟨a :: r⟩⟩ (some 1) (some 2) = ⟨⟨r.take 1⟩⟩ := by
  cases r <;> simp [cutS, HT.sIx, Str.length]
-- is_letter: slots 0 thing, 1 sign
abbrev s_is_letter : Stmt := (top 15)
abbrev N_sc_is_letter : List Str := ["thing", "sign"]
theorem sc_is_letter : FnScope N_sc_is_letter ["thing"] (defScope s_is_letter) := ⟨rfl, rfl, rfl, by decide +kernel, rfl, by decide +kernel, by decide +kernel⟩
theorem ok_is_letter (F : FnP K "is_letter" "is_letter" s_is_letter f fd) (T : Tx K mg) : FnOk P w K mg base CX0 1 f fd ["thing"] (spD K (wF tame1 fun ds => .bl (isLt (ds.headD .non)))) :=
  FnD F sc_is_letter (fun ds Kk h => by obtain ⟨⟨x, rfl, _⟩, _⟩ := h; rfl) fun cdv A outer s H Fz E hr => ⟨_, 
(ds_cons (ds_if (DW.dt (dw_or (dt_not (dt_truth (de_is1 T.b_isinstance (TyN.mk (t := .str) (by rfl) T.b_str (by decide +kernel) (by decide) (by decide)) (de_v (i := 0))))) (dw_or1 (dt_not (dt_chain c_le c_le de_int (de_len T.b_len (de_v (i := 0))) (de_g T.g_LONGEST_LETTER)))))) (ds_one (ds_ret de_bl)) ds_nil)
 (ds_cons (ds_if (DW.dt (dw_or (dt_cm (c_ni hr) (de_ixA (de_v (i := 0)) de_int) (de_g T.g_CAPITALS)) (dw_or1 (dt_cm (c_eq hr) (de_sl (de_v (i := 0)) (dp_at de_int) (dp_at de_int)) de_str)))) (ds_one (ds_ret de_bl)) ds_nil)
 (ds_one (ds_ret (de_all T.b_all (FE.de (fe_lc (own := [("sign", 1)]) sc_is_letter.nd (di_seq (de_sl (de_v (i := 0)) (dp_at de_int) dp_no)) (blkOk_by (own := [("sign", 1)]) (N := N_sc_is_letter) (sc := defScope s_is_letter) (by decide +kernel)) (fun _ _ _ _ _ => (dg_name (i := 1) sc_is_letter.nd)) (fun _ _ _ _ _ => dts_nil) (fun _ _ _ _ _ => (de_cm (c_in hr) (de_v (i := 1)) (de_g T.g_FIGURES))))))))))
  , fun ds Kk h => by
    obtain ⟨⟨x, rfl, hx⟩, k⟩ := h
    cases x
    case str z =>
      obtain ⟨⟨l⟩⟩ := z
      have hx : l.length ≤ 100000 := by simpa [tame, Str.length] using hx
      cases l with
      | nil => simp [sRet, wAndV, wOrV, wNotV, wUn, wOp, wV, wB, wO, wC, wIfE, wTest, wTruth, wBand, wBor, wBnot, wChain, wSl, wPart, wTup, wLst, wCons, wNil, wCall, sIf, sSeq, sSet, sNew, sNext, sPass, sApp, sExt, sDrop, sAsg, gNm, gTp, gCs, gNl, startD, DS.put, wF, isaD, eqD, inSq, isLt, strLt, Str.length] at *; exact k
      | cons a r =>
        have hx : r.length ≤ 99999 := by simpa using hx
        by_cases h1 : r.length ≤ 3
        · have hx2 : (r.length : Int) + 1 ≤ 4 := by omega
          have hx3 : (1 : Int) ≤ r.length + 1 := by omega
          have hx4 : r.length + 1 ≤ 100000 := by omega
          by_cases h2 : a ∈ ("ABCDEFGHIJKLMNOPQRSTUVWXYZ" : Str).cps
          · have ez : ("0" : Str) = ⟨⟨[48]⟩⟩ := by decide +kernel
            have e0 : (⟨⟨r.take 1⟩⟩ : Str) = "0" ↔ r.take 1 = [48] := by rw [ez]; simp
            by_cases h3 : r.take 1 = [48]
            · have hb : isLt (.str ⟨⟨a :: r⟩⟩) = false := by simp [isLt, strLt, h3]
              have k : Kk (.bl (isLt (.str ⟨⟨a :: r⟩⟩))) := k
              rw [hb] at k
              simp [sRet, wAndV, wOrV, wNotV, wUn, wOp, wV, wB, wO, wC, wIfE, wTest, wTruth, wBand, wBor, wBnot, wChain, wSl, wPart, wTup, wLst, wCons, wNil, wCall, sIf, sSeq, sSet, sNew, sNext, sPass, sApp, sExt, sDrop, sAsg, gNm, gTp, gCs, gNl, startD, DS.put, wF, isaD, eqD, inSq, Str.length, ixN, Q.signs, hx, hx2, hx3, hx4, h1, h2, h3, cut_one, e0, xr]
              exact .inr ⟨ez.symm, k⟩
            · simp [sRet, wAndV, wOrV, wNotV, wUn, wOp, wV, wB, wO, wC, wIfE, wTest, wTruth, wBand, wBor, wBnot, wChain, wSl, wPart, wTup, wLst, wCons, wNil, wCall, sIf, sSeq, sSet, sNew, sNext, sPass, sApp, sExt, sDrop, sAsg, gNm, gTp, gCs, gNl, startD, DS.put, wF, isaD, eqD, inSq, isLt, strLt, Str.length, ixN, Q.signs, hx, hx2, hx3, hx4, h1, h2, h3, cut_one, e0, xr] at k ⊢
              refine wLc_m (α := Nat) (h := fun c => .str ⟨#[c]⟩) (xs := r) (f := fun c => .bl (decide (c ∈ ("0123456789" : Str).cps.toList))) (x := none) (fun K k => ?_) (by omega) rfl (fun _ h => by cases h) (fun c _ K k => ⟨_, rfl, _, rfl, k⟩) _ ?_
              · refine ⟨_, rfl, _, rfl, rfl, .str ⟨⟨r⟩⟩, ?_, Q.signs ⟨⟨r⟩⟩, rfl, k⟩
                rw [sl_txt, cut_tail]
                simp [Str.length, hx4]
              rw [all_map]
              refine ⟨_, rfl, ?_⟩
              simpa using k
          · simp [sRet, wAndV, wOrV, wNotV, wUn, wOp, wV, wB, wO, wC, wIfE, wTest, wTruth, wBand, wBor, wBnot, wChain, wSl, wPart, wTup, wLst, wCons, wNil, wCall, sIf, sSeq, sSet, sNew, sNext, sPass, sApp, sExt, sDrop, sAsg, gNm, gTp, gCs, gNl, startD, DS.put, wF, isaD, eqD, inSq, isLt, strLt, Str.length, ixN, Q.signs, hx, hx2, hx3, h1, h2] at k ⊢
            exact k
        · have hx2 : ¬ (r.length : Int) + 1 ≤ 4 := by omega
          have hx3 : (1 : Int) ≤ r.length + 1 := by omega
          simp [sRet, wAndV, wOrV, wNotV, wUn, wOp, wV, wB, wO, wC, wIfE, wTest, wTruth, wBand, wBor, wBnot, wChain, wSl, wPart, wTup, wLst, wCons, wNil, wCall, sIf, sSeq, sSet, sNew, sNext, sPass, sApp, sExt, sDrop, sAsg, gNm, gTp, gCs, gNl, startD, DS.put, wF, isaD, eqD, inSq, isLt, strLt, Str.length, hx, hx2, hx3, h1] at k ⊢
          exact k
    all_goals (simp [sRet, wAndV, wOrV, wNotV, wUn, wOp, wV, wB, wO, wC, wIfE, wTest, wTruth, wBand, wBor, wBnot, wChain, wSl, wPart, wTup, wLst, wCons, wNil, wCall, sIf, sSeq, sSet, sNew, sNext, sPass, sApp, sExt, sDrop, sAsg, gNm, gTp, gCs, gNl, startD, DS.put, wF, isaD, eqD, inSq, isLt] at * <;> exact k)⟩
end
end L31

set_option Elab.async false
set_option linter.all false
set_option maxRecDepth 100000
set_option maxHeartbeats 4000000
namespace L31
open PySem PySem.Spec PyProof.Rows L2 Q
mutual
/-- of moderate size throughout, no objects in it -/
def tmB : D → Bool
  | .str z => decide (z.length ≤ 100000)
  | .lst xs => decide (xs.length ≤ 100000) && tmBs xs
  | .tup xs => decide (xs.length ≤ 100000) && tmBs xs
  | .ins _ _ _ => false
  | .raw _ => false
  | .non => true
  | .bl _ => true
  | .int _ => true
  | .dct _ _ => true
  | .dtt _ _ => true
def tmBs : List D → Bool
  | [] => true
  | x :: xs => tmB x && tmBs xs
end
@[simp] theorem tmBs_nil : tmBs [] = true := by simp only [tmBs]
@[simp] theorem tmBs_cons (x : D) (xs : List D) : tmBs (x :: xs) = (tmB x && tmBs xs) := by simp only [tmBs]
@[simp] theorem tmB_lst (xs : List D) : tmB (.lst xs) = (decide (xs.length ≤ 100000) && tmBs xs) := by simp only [tmB]
@[simp] theorem tmB_tup (xs : List D) : tmB (.tup xs) = (decide (xs.length ≤ 100000) && tmBs xs) := by simp only [tmB]
@[simp] theorem tmB_str (z : Str) : tmB (.str z) = decide (z.length ≤ 100000) := by simp only [tmB]
@[simp] theorem tmB_non : tmB .non = true := by simp only [tmB]
@[simp] theorem tmB_bl (b : Bool) : tmB (.bl b) = true := by simp only [tmB]
@[simp] theorem tmB_int (i : Int) : tmB (.int i) = true := by simp only [tmB]
@[simp] theorem tmB_dct (k v : List D) : tmB (.dct k v) = true := by simp only [tmB]
@[simp] theorem tmB_dtt (k v : List D) : tmB (.dtt k v) = true := by simp only [tmB]
@[simp] theorem tmB_ins (a : Addr) (k : List Str) (v : List D) : tmB (.ins a k v) = false := by simp only [tmB]
@[simp] theorem tmB_raw (v : V) : tmB (.raw v) = false := by simp only [tmB]
theorem tmBs_iff : ∀ {xs : List D}, tmBs xs = true ↔ ∀ x ∈ xs, tmB x = true
  | [] => by simp
  | x :: xs => by simp [tmBs_iff (xs := xs)]
theorem tmB.tame {d : D} (h : tmB d = true) : tame d := by
  cases d <;> simp at h ⊢ <;> exact h
def tmd1 : List D → Prop := fun ds => ∃ x, ds = [x] ∧ tmB x = true
@[simp] theorem tmd1_one (x : D) : tmd1 [x] = (tmB x = true) := by
  apply propext
  constructor
  · rintro ⟨y, e, h⟩
    cases e
    exact h
  · exact fun h => ⟨x, rfl, h⟩
section
variable {P : Program} {w : World} {K : PySem.W.Frag} {mg : Str → Option Value} {base : Heap} {f : Addr} {fd : FuncData}
def isTm (d : D) : Bool := isTh d || isLt d
-- is_term: slots 0 thing
abbrev s_is_term : Stmt := (top 16)
abbrev N_sc_is_term : List Str := ["thing"]
theorem sc_is_term : FnScope N_sc_is_term ["thing"] (defScope s_is_term) := ⟨rfl, rfl, rfl, by decide +kernel, rfl, by decide +kernel, by decide +kernel⟩
theorem ok_is_term (F : FnP K "is_term" "is_term" s_is_term f fd) (T : Tx K mg) (C_is_thing : Cal P w K mg base "is_thing" 2 ["thing"] (spD K (wF tame1 fun ds => .bl (isTh (ds.headD .non))))) (C_is_letter : Cal P w K mg base "is_letter" 1 ["thing"] (spD K (wF tame1 fun ds => .bl (isLt (ds.headD .non))))) :
    FnOk P w K mg base CX0 3 f fd ["thing"] (spD K (wF tame1 fun ds => .bl (isTm (ds.headD .non)))) :=
  FnD F sc_is_term (fun ds Kk h => by obtain ⟨⟨x, rfl, _⟩, _⟩ := h; rfl) fun cdv A outer s H Fz E hr => ⟨_, 
(ds_one (ds_ret (de_or (de_call C_is_thing hr (da_cons (de_v (i := 0)) da_nil)) (de_one (de_call C_is_letter hr (da_cons (de_v (i := 0)) da_nil))))))
  , fun ds Kk h => by
    obtain ⟨⟨x, rfl, hx⟩, k⟩ := h
    cases h1 : isTh x <;> simp [sRet, wAndV, wOrV, wNotV, wUn, wOp, wV, wB, wO, wC, wIfE, wTest, wTruth, wBand, wBor, wBnot, wChain, wSl, wPart, wTup, wLst, wCons, wNil, wCall, sIf, sSeq, sSet, sNew, sNext, sPass, sApp, sExt, sDrop, sAsg, gNm, gTp, gCs, gNl, startD, DS.put, wF, isaD, eqD, inSq, isTm, h1, hx] at k ⊢ <;> exact k⟩
def rowB (xs : List D) : Bool := decide (1 ≤ xs.length) && decide (xs.length ≤ 7) && isNm (xs.headD .non)
def sqOf : D → Option (List D)
  | .lst xs => some xs
  | .tup xs => some xs
  | _ => none
@[simp] theorem sqOf_lst (xs : List D) : sqOf (.lst xs) = some xs := rfl
@[simp] theorem sqOf_tup (xs : List D) : sqOf (.tup xs) = some xs := rfl
@[simp] theorem sqOf_non : sqOf .non = none := rfl
@[simp] theorem sqOf_bl (b : Bool) : sqOf (.bl b) = none := rfl
@[simp] theorem sqOf_int (i : Int) : sqOf (.int i) = none := rfl
@[simp] theorem sqOf_str (z : Str) : sqOf (.str z) = none := rfl
@[simp] theorem sqOf_dct (k v : List D) : sqOf (.dct k v) = none := rfl
@[simp] theorem sqOf_dtt (k v : List D) : sqOf (.dtt k v) = none := rfl
def isRow (d : D) : Bool := match sqOf d with
  | some xs => rowB xs
  | none => false
-- _is_row: slots 0 thing
abbrev s_is_row : Stmt := (top 19)
abbrev N_sc_is_row : List Str := ["thing"]
theorem sc_is_row : FnScope N_sc_is_row ["thing"] (defScope s_is_row) := ⟨rfl, rfl, rfl, by decide +kernel, rfl, by decide +kernel, by decide +kernel⟩
theorem ok_is_row (F : FnP K "_is_row" "_is_row" s_is_row f fd) (T : Tx K mg) (C_is_name : Cal P w K mg base "is_name" 1 ["thing"] (spD K (wF tame1 fun ds => .bl (isNm (ds.headD .non))))) :
    FnOk P w K mg base CX0 2 f fd ["thing"] (spD K (wF tmd1 fun ds => .bl (isRow (ds.headD .non)))) :=
  FnD F sc_is_row (fun ds Kk h => by obtain ⟨⟨x, rfl, _⟩, _⟩ := h; rfl) fun cdv A outer s H Fz E hr => ⟨_, 
(ds_cons (ds_if (DW.dt (dw_or (dt_not (dt_truth (de_isN T.b_isinstance (tns_cons (TyN.mk (t := .list) (by rfl) T.b_list (by decide +kernel) (by decide) (by decide)) (tns_cons (TyN.mk (t := .tuple) (by rfl) T.b_tuple (by decide +kernel) (by decide) (by decide)) tns_nil)) (de_v (i := 0))))) (dw_or1 (dt_not (dt_chain c_le c_le de_int (de_len T.b_len (de_v (i := 0))) (de_add (de_g T.g_MOST_TERMS) de_int)))))) (ds_one (ds_ret de_bl)) ds_nil)
 (ds_one (ds_ret (de_call C_is_name hr (da_cons (de_ixA (de_v (i := 0)) de_int) da_nil)))))
  , fun ds Kk h => by
    obtain ⟨⟨x, rfl, hx⟩, k⟩ := h
    cases x
    case' lst xs => have hx : tmBs xs = true := by simp at hx; exact hx.2
    case' tup xs => have hx : tmBs xs = true := by simp at hx; exact hx.2
    case lst | tup =>
      cases xs with
      | nil => simp [sRet, wAndV, wOrV, wNotV, wUn, wOp, wV, wB, wO, wC, wIfE, wTest, wTruth, wBand, wBor, wBnot, wChain, wSl, wPart, wTup, wLst, wCons, wNil, wCall, sIf, sSeq, sSet, sNew, sNext, sPass, sApp, sExt, sDrop, sAsg, gNm, gTp, gCs, gNl, startD, DS.put, wF, isaD, eqD, inSq, isRow, rowB] at *; exact k
      | cons a r =>
        have ha : tame a := by simp at hx; exact tmB.tame hx.1
        by_cases h1 : r.length ≤ 6
        · have h2 : (r.length : Int) + 1 ≤ 7 := by omega
          have h3 : (1 : Int) ≤ r.length + 1 := by omega
          simp [sRet, wAndV, wOrV, wNotV, wUn, wOp, wV, wB, wO, wC, wIfE, wTest, wTruth, wBand, wBor, wBnot, wChain, wSl, wPart, wTup, wLst, wCons, wNil, wCall, sIf, sSeq, sSet, sNew, sNext, sPass, sApp, sExt, sDrop, sAsg, gNm, gTp, gCs, gNl, startD, DS.put, wF, isaD, eqD, inSq, isRow, rowB, ixN, h1, h2, h3, ha] at k ⊢
          exact k
        · have h2 : ¬ (r.length : Int) + 1 ≤ 7 := by omega
          have h3 : (1 : Int) ≤ r.length + 1 := by omega
          simp [sRet, wAndV, wOrV, wNotV, wUn, wOp, wV, wB, wO, wC, wIfE, wTest, wTruth, wBand, wBor, wBnot, wChain, wSl, wPart, wTup, wLst, wCons, wNil, wCall, sIf, sSeq, sSet, sNew, sNext, sPass, sApp, sExt, sDrop, sAsg, gNm, gTp, gCs, gNl, startD, DS.put, wF, isaD, eqD, inSq, isRow, rowB, ixN, h1, h2, h3, ha] at k ⊢
          exact k
    all_goals (simp [sRet, wAndV, wOrV, wNotV, wUn, wOp, wV, wB, wO, wC, wIfE, wTest, wTruth, wBand, wBor, wBnot, wChain, wSl, wPart, wTup, wLst, wCons, wNil, wCall, sIf, sSeq, sSet, sNew, sNext, sPass, sApp, sExt, sDrop, sAsg, gNm, gTp, gCs, gNl, startD, DS.put, wF, isaD, eqD, inSq, isRow] at * <;> exact k)⟩
def asAtom (d : D) : D := match sqOf d with
  | some xs => if rowB xs && xs.tail.all isTm then .tup xs else .non
  | none => .non
theorem cut_tl (a : D) (r : List D) : Q.cutD (a :: r) (some 1) none = r := by simp [Q.cutD, HT.sIx]
theorem cut_nil : Q.cutD [] (some 1) none = [] := by simp [Q.cutD, HT.sIx]
-- as_atom: slots 0 thing, 1 term
abbrev s_as_atom : Stmt := (top 20)
abbrev N_sc_as_atom : List Str := ["thing", "term"]
theorem sc_as_atom : FnScope N_sc_as_atom ["thing"] (defScope s_as_atom) := ⟨rfl, rfl, rfl, by decide +kernel, rfl, by decide +kernel, by decide +kernel⟩
theorem ok_as_atom (F : FnP K "as_atom" "as_atom" s_as_atom f fd) (T : Tx K mg) (C__is_row : Cal P w K mg base "_is_row" 2 ["thing"] (spD K (wF tmd1 fun ds => .bl (isRow (ds.headD .non))))) (C_is_term : Cal P w K mg base "is_term" 3 ["thing"] (spD K (wF tame1 fun ds => .bl (isTm (ds.headD .non))))) :
    FnOk P w K mg base CX0 4 f fd ["thing"] (spD K (wF tmd1 fun ds => asAtom (ds.headD .non))) :=
  FnD F sc_as_atom (fun ds Kk h => by obtain ⟨⟨x, rfl, _⟩, _⟩ := h; rfl) fun cdv A outer s H Fz E hr => ⟨_, 
(ds_cons (ds_if (DW.dt (dw_or (dt_not (dt_truth (de_call C__is_row hr (da_cons (de_v (i := 0)) da_nil)))) (dw_or1 (dt_not (dt_truth (de_all T.b_all (FE.de (fe_lc (own := [("term", 1)]) sc_as_atom.nd (di_seq (de_sl (de_v (i := 0)) (dp_at de_int) dp_no)) (blkOk_by (own := [("term", 1)]) (N := N_sc_as_atom) (sc := defScope s_as_atom) (by decide +kernel)) (fun _ _ _ _ _ => (dg_name (i := 1) sc_as_atom.nd)) (fun _ _ _ _ _ => dts_nil) (fun _ _ _ _ _ => (de_call C_is_term hr (da_cons (de_v (i := 1)) da_nil))))))))))) (ds_one (ds_ret de_non)) ds_nil)
 (ds_one (ds_ret (de_tuple T.b_tuple (de_v (i := 0))))))
  , fun ds Kk h => by
    obtain ⟨⟨x, rfl, hx⟩, k⟩ := h
    have hx0 := hx
    cases x
    case' lst xs => have hx : tmBs xs = true := by simp at hx; exact hx.2
    case' tup xs => have hx : tmBs xs = true := by simp at hx; exact hx.2
    case lst | tup =>
      by_cases hb : rowB xs = true
      · have hl : xs ≠ [] := by
          rintro rfl
          simp [rowB] at hb
        obtain ⟨a, r, rfl⟩ := List.exists_cons_of_ne_nil hl
        have hr7 : r.length ≤ 6 := by simp [rowB] at hb; omega
        have hr' : ∀ t ∈ r, tame t := fun t ht => by simp at hx; exact tmB.tame (tmBs_iff.mp hx.2 t ht)
        simp [sRet, wAndV, wOrV, wNotV, wUn, wOp, wV, wB, wO, wC, wIfE, wTest, wTruth, wBand, wBor, wBnot, wChain, wSl, wPart, wTup, wLst, wCons, wNil, wCall, sIf, sSeq, sSet, sNew, sNext, sPass, sApp, sExt, sDrop, sAsg, gNm, gTp, gCs, gNl, startD, DS.put, wF, isaD, eqD, inSq, isRow, hb, hx0, -tmB_lst, -tmB_tup]
        refine wLc_m (α := D) (h := id) (xs := r) (f := fun t => .bl (isTm t)) (x := none) (fun K k => ⟨_, rfl, _, rfl, rfl, _, rfl, r, congrArg some (cut_tl a r), by simpa using k⟩) (by omega) rfl (fun _ h => by cases h) (fun t ht K k => ⟨_, rfl, (by simp; exact hr' t ht), k⟩) _ ?_
        rw [all_map]
        refine ⟨_, rfl, ?_⟩
        cases ht : r.all isTm with
        | true =>
          simp [asAtom, hb, ht] at k ⊢
          exact k
        | false =>
          simp [asAtom, hb, ht] at k ⊢
          exact k
      · simp at hb
        simp [sRet, wAndV, wOrV, wNotV, wUn, wOp, wV, wB, wO, wC, wIfE, wTest, wTruth, wBand, wBor, wBnot, wChain, wSl, wPart, wTup, wLst, wCons, wNil, wCall, sIf, sSeq, sSet, sNew, sNext, sPass, sApp, sExt, sDrop, sAsg, gNm, gTp, gCs, gNl, startD, DS.put, wF, isaD, eqD, inSq, isRow, asAtom, hb, hx0, -tmB_lst, -tmB_tup] at k ⊢
        exact k
    all_goals (simp [sRet, wAndV, wOrV, wNotV, wUn, wOp, wV, wB, wO, wC, wIfE, wTest, wTruth, wBand, wBor, wBnot, wChain, wSl, wPart, wTup, wLst, wCons, wNil, wCall, sIf, sSeq, sSet, sNew, sNext, sPass, sApp, sExt, sDrop, sAsg, gNm, gTp, gCs, gNl, startD, DS.put, wF, isaD, eqD, inSq, isRow, asAtom] at * <;> first | exact k | exact ⟨hx, k⟩)⟩
end
end L31

set_option Elab.async false
set_option linter.all false
set_option maxRecDepth 100000
set_option maxHeartbeats 4000000
namespace L31
open PySem PySem.Spec PyProof.Rows L2 Q
section
variable {P : Program} {w : World} {K : PySem.W.Frag} {mg : Str → Option Value} {base : Heap} {f : Addr} {fd : FuncData}
/-! parts -/
def asNot (xs : List D) : D := if xs.length = 2 then (match asAtom (xs.getD 1 .non) with | .non => .non | a => .tup [.str "not", a]) else .non
def tms2 : List D → Prop := fun ds => ∃ x xs, ds = [x] ∧ sqOf x = some xs ∧ tmB x = true
theorem tms2_one (x : D) {xs : List D} (h : sqOf x = some xs) (t : tmB x = true) : tms2 [x] := ⟨x, xs, rfl, h, t⟩
theorem sq_cases {x : D} {xs : List D} (h : sqOf x = some xs) : x = .lst xs ∨ x = .tup xs := by
  cases x <;> first | (cases h; exact .inl rfl) | (cases h; exact .inr rfl) | cases h
theorem sq_tms {x : D} {xs : List D} (h : sqOf x = some xs) (t : tmB x = true) : tmBs xs = true := by
  rcases sq_cases h with rfl | rfl
  · simp at t; exact t.2
  · simp at t; exact t.2
theorem asAtom_cases (d : D) : asAtom d = .non ∨ ∃ xs, sqOf d = some xs ∧ rowB xs = true ∧ xs.tail.all isTm = true ∧ asAtom d = .tup xs := by
  unfold asAtom
  cases h : sqOf d with
  | none => exact .inl rfl
  | some xs =>
    by_cases q : (rowB xs && xs.tail.all isTm) = true
    · right
      refine ⟨xs, rfl, ?_, ?_, by simp [q]⟩
      · simp at q; exact q.1
      · rw [Bool.and_eq_true] at q; exact q.2
    · left
      simp only [q]
      rfl
-- _as_not: slots 0 thing, 1 atom
abbrev s_as_not : Stmt := (top 21)
abbrev N_sc_as_not : List Str := ["thing", "atom"]
theorem sc_as_not : FnScope N_sc_as_not ["thing"] (defScope s_as_not) := ⟨rfl, rfl, rfl, by decide +kernel, rfl, by decide +kernel, by decide +kernel⟩
theorem ok_as_not (F : FnP K "_as_not" "_as_not" s_as_not f fd) (T : Tx K mg) (C_as_atom : Cal P w K mg base "as_atom" 4 ["thing"] (spD K (wF tmd1 fun ds => asAtom (ds.headD .non)))) :
    FnOk P w K mg base CX0 5 f fd ["thing"] (spD K (wF tms2 fun ds => asNot ((sqOf (ds.headD .non)).getD []))) :=
  FnD F sc_as_not (fun ds Kk h => by obtain ⟨⟨x, xs, rfl, _⟩, _⟩ := h; rfl) fun cdv A outer s H Fz E hr => ⟨_, 
(ds_cons (ds_if (dt_cm (c_ne hr) (de_len T.b_len (de_v (i := 0))) de_int) (ds_one (ds_ret de_non)) ds_nil)
 (ds_cons (ds_set (i := 1) sc_as_not.nd (de_call C_as_atom hr (da_cons (de_ixA (de_v (i := 0)) de_int) da_nil)))
 (ds_cons (ds_if (dt_cm c_is (de_v (i := 1)) de_non) (ds_one (ds_ret de_non)) ds_nil)
 (ds_one (ds_ret (de_tup (da_cons de_str (da_cons (de_v (i := 1)) da_nil))))))))
  , fun ds Kk h => by
    obtain ⟨⟨x, xs, rfl, hs, hx⟩, k⟩ := h
    have hx' : tmBs xs = true := sq_tms hs hx
    by_cases h2 : xs.length = 2
    · match xs, h2 with
      | [a, b], _ =>
        have hb : tmB b = true := by simp at hx'; exact hx'.2
        rcases sq_cases hs with rfl | rfl <;>
        · simp [sRet, wAndV, wOrV, wNotV, wUn, wOp, wV, wB, wO, wC, wIfE, wTest, wTruth, wBand, wBor, wBnot, wChain, wSl, wPart, wTup, wLst, wCons, wNil, wCall, sIf, sSeq, sSet, sNew, sNext, sPass, sApp, sExt, sDrop, sAsg, gNm, gTp, gCs, gNl, startD, DS.put, wF, isaD, eqD, inSq, ixN, hb, asNot] at k ⊢
          rcases asAtom_cases b with h | ⟨xs, _, _, _, h⟩
          · rw [h] at k ⊢
            simp [xr] at k ⊢
            exact k
          · rw [h] at k ⊢
            simp [xr] at k ⊢
            exact k
    · have h3 : ¬ (xs.length : Int) = 2 := by omega
      rcases sq_cases hs with rfl | rfl <;>
      · simp [sRet, wAndV, wOrV, wNotV, wUn, wOp, wV, wB, wO, wC, wIfE, wTest, wTruth, wBand, wBor, wBnot, wChain, wSl, wPart, wTup, wLst, wCons, wNil, wCall, sIf, sSeq, sSet, sNew, sNext, sPass, sApp, sExt, sDrop, sAsg, gNm, gTp, gCs, gNl, startD, DS.put, wF, isaD, eqD, inSq, h2, h3, asNot, xr] at k ⊢
        exact k⟩
def asUnl (xs : List D) : D := if xs.length = 3 ∧ isTm (xs.getD 1 .non) = true ∧ isTm (xs.getD 2 .non) = true then .tup xs else .non
-- _as_unlike: slots 0 thing
abbrev s_as_unlike : Stmt := (top 22)
abbrev N_sc_as_unlike : List Str := ["thing"]
theorem sc_as_unlike : FnScope N_sc_as_unlike ["thing"] (defScope s_as_unlike) := ⟨rfl, rfl, rfl, by decide +kernel, rfl, by decide +kernel, by decide +kernel⟩
theorem ok_as_unlike (F : FnP K "_as_unlike" "_as_unlike" s_as_unlike f fd) (T : Tx K mg) (C_is_term : Cal P w K mg base "is_term" 3 ["thing"] (spD K (wF tame1 fun ds => .bl (isTm (ds.headD .non))))) :
    FnOk P w K mg base CX0 4 f fd ["thing"] (spD K (wF tms2 fun ds => asUnl ((sqOf (ds.headD .non)).getD []))) :=
  FnD F sc_as_unlike (fun ds Kk h => by obtain ⟨⟨x, xs, rfl, _⟩, _⟩ := h; rfl) fun cdv A outer s H Fz E hr => ⟨_, 
(ds_cons (ds_if (DW.dt (dw_or (dt_cm (c_ne hr) (de_len T.b_len (de_v (i := 0))) de_int) (dw_or (dt_not (dt_truth (de_call C_is_term hr (da_cons (de_ixA (de_v (i := 0)) de_int) da_nil)))) (dw_or1 (dt_not (dt_truth (de_call C_is_term hr (da_cons (de_ixA (de_v (i := 0)) de_int) da_nil)))))))) (ds_one (ds_ret de_non)) ds_nil)
 (ds_one (ds_ret (de_tuple T.b_tuple (de_v (i := 0))))))
  , fun ds Kk h => by
    obtain ⟨⟨x, xs, rfl, hs, hx⟩, k⟩ := h
    have hx' : tmBs xs = true := sq_tms hs hx
    by_cases h2 : xs.length = 3
    · match xs, h2 with
      | [a, b, c], _ =>
        have hb : tame b := by simp at hx'; exact tmB.tame hx'.2.1
        have hc : tame c := by simp at hx'; exact tmB.tame hx'.2.2
        rcases sq_cases hs with rfl | rfl <;>
        · cases h1 : isTm b <;> cases h2 : isTm c <;>
          · simp [sRet, wAndV, wOrV, wNotV, wUn, wOp, wV, wB, wO, wC, wIfE, wTest, wTruth, wBand, wBor, wBnot, wChain, wSl, wPart, wTup, wLst, wCons, wNil, wCall, sIf, sSeq, sSet, sNew, sNext, sPass, sApp, sExt, sDrop, sAsg, gNm, gTp, gCs, gNl, startD, DS.put, wF, isaD, eqD, inSq, ixN, hb, hc, asUnl, h1, h2, xr] at k ⊢
            exact k
    · have h3 : ¬ (xs.length : Int) = 3 := by omega
      rcases sq_cases hs with rfl | rfl <;>
      · simp [sRet, wAndV, wOrV, wNotV, wUn, wOp, wV, wB, wO, wC, wIfE, wTest, wTruth, wBand, wBor, wBnot, wChain, wSl, wPart, wTup, wLst, wCons, wNil, wCall, sIf, sSeq, sSet, sNew, sNext, sPass, sApp, sExt, sDrop, sAsg, gNm, gTp, gCs, gNl, startD, DS.put, wF, isaD, eqD, inSq, h2, h3, asUnl, xr] at k ⊢
        exact k⟩
def asPart (d : D) : D := match sqOf d with
  | some (.str z :: r) => if z = "not" then asNot (.str z :: r) else if z = "unlike" then asUnl (.str z :: r) else asAtom d
  | _ => .non
-- as_part: slots 0 thing
abbrev s_as_part : Stmt := (top 23)
abbrev N_sc_as_part : List Str := ["thing"]
theorem sc_as_part : FnScope N_sc_as_part ["thing"] (defScope s_as_part) := ⟨rfl, rfl, rfl, by decide +kernel, rfl, by decide +kernel, by decide +kernel⟩
theorem ok_as_part (F : FnP K "as_part" "as_part" s_as_part f fd) (T : Tx K mg) (C_as_atom : Cal P w K mg base "as_atom" 4 ["thing"] (spD K (wF tmd1 fun ds => asAtom (ds.headD .non))))
    (C__as_not : Cal P w K mg base "_as_not" 5 ["thing"] (spD K (wF tms2 fun ds => asNot ((sqOf (ds.headD .non)).getD [])))) (C__as_unlike : Cal P w K mg base "_as_unlike" 4 ["thing"] (spD K (wF tms2 fun ds => asUnl ((sqOf (ds.headD .non)).getD [])))) :
    FnOk P w K mg base CX0 6 f fd ["thing"] (spD K (wF tmd1 fun ds => asPart (ds.headD .non))) :=
  FnD F sc_as_part (fun ds Kk h => by obtain ⟨⟨x, rfl, _⟩, _⟩ := h; rfl) fun cdv A outer s H Fz E hr => ⟨_, 
(ds_cons (ds_if (DW.dt (dw_or (dt_not (dt_truth (de_isN T.b_isinstance (tns_cons (TyN.mk (t := .list) (by rfl) T.b_list (by decide +kernel) (by decide) (by decide)) (tns_cons (TyN.mk (t := .tuple) (by rfl) T.b_tuple (by decide +kernel) (by decide) (by decide)) tns_nil)) (de_v (i := 0))))) (dw_or (dt_cm (c_eq hr) (de_len T.b_len (de_v (i := 0))) de_int) (dw_or1 (dt_not (dt_truth (de_is1 T.b_isinstance (TyN.mk (t := .str) (by rfl) T.b_str (by decide +kernel) (by decide) (by decide)) (de_ixA (de_v (i := 0)) de_int)))))))) (ds_one (ds_ret de_non)) ds_nil)
 (ds_cons (ds_if (dt_cm (c_eq hr) (de_ixA (de_v (i := 0)) de_int) de_str) (ds_one (ds_ret (de_call C__as_not hr (da_cons (de_v (i := 0)) da_nil)))) ds_nil)
 (ds_cons (ds_if (dt_cm (c_eq hr) (de_ixA (de_v (i := 0)) de_int) de_str) (ds_one (ds_ret (de_call C__as_unlike hr (da_cons (de_v (i := 0)) da_nil)))) ds_nil)
 (ds_one (ds_ret (de_call C_as_atom hr (da_cons (de_v (i := 0)) da_nil)))))))
  , fun ds Kk h => by
    obtain ⟨⟨x, rfl, hx⟩, k⟩ := h
    have hx0 := hx
    cases x
    case' lst xs => have hx : tmBs xs = true := by simp at hx; exact hx.2
    case' tup xs => have hx : tmBs xs = true := by simp at hx; exact hx.2
    case lst | tup =>
      cases xs with
      | nil => simp [sRet, wAndV, wOrV, wNotV, wUn, wOp, wV, wB, wO, wC, wIfE, wTest, wTruth, wBand, wBor, wBnot, wChain, wSl, wPart, wTup, wLst, wCons, wNil, wCall, sIf, sSeq, sSet, sNew, sNext, sPass, sApp, sExt, sDrop, sAsg, gNm, gTp, gCs, gNl, startD, DS.put, wF, isaD, eqD, inSq, asPart] at *; exact k
      | cons a r =>
        have hl : ¬ (r.length : Int) + 1 = 0 := by omega
        cases a with
        | str z =>
          have t2 := fun (y : D) (h : sqOf y = some (.str z :: r)) (t : tmB y = true) => tms2_one y h t
          by_cases h1 : z = "not"
          · subst h1
            simp [sRet, wAndV, wOrV, wNotV, wUn, wOp, wV, wB, wO, wC, wIfE, wTest, wTruth, wBand, wBor, wBnot, wChain, wSl, wPart, wTup, wLst, wCons, wNil, wCall, sIf, sSeq, sSet, sNew, sNext, sPass, sApp, sExt, sDrop, sAsg, gNm, gTp, gCs, gNl, startD, DS.put, wF, isaD, eqD, inSq, ixN, asPart, hl, -tmB_lst, -tmB_tup] at k ⊢
            exact ⟨t2 _ rfl hx0, k⟩
          · by_cases h2 : z = "unlike"
            · subst h2
              have hne : ("unlike" : Str) ≠ "not" := by decide +kernel
              simp [sRet, wAndV, wOrV, wNotV, wUn, wOp, wV, wB, wO, wC, wIfE, wTest, wTruth, wBand, wBor, wBnot, wChain, wSl, wPart, wTup, wLst, wCons, wNil, wCall, sIf, sSeq, sSet, sNew, sNext, sPass, sApp, sExt, sDrop, sAsg, gNm, gTp, gCs, gNl, startD, DS.put, wF, isaD, eqD, inSq, ixN, asPart, hl, hne, -tmB_lst, -tmB_tup] at k ⊢
              exact ⟨t2 _ rfl hx0, k⟩
            · simp [sRet, wAndV, wOrV, wNotV, wUn, wOp, wV, wB, wO, wC, wIfE, wTest, wTruth, wBand, wBor, wBnot, wChain, wSl, wPart, wTup, wLst, wCons, wNil, wCall, sIf, sSeq, sSet, sNew, sNext, sPass, sApp, sExt, sDrop, sAsg, gNm, gTp, gCs, gNl, startD, DS.put, wF, isaD, eqD, inSq, ixN, asPart, hl, h1, h2, hx0, -tmB_lst, -tmB_tup] at k ⊢
              exact k
        | _ => first | (exfalso; simp at hx; done) | (simp [sRet, wAndV, wOrV, wNotV, wUn, wOp, wV, wB, wO, wC, wIfE, wTest, wTruth, wBand, wBor, wBnot, wChain, wSl, wPart, wTup, wLst, wCons, wNil, wCall, sIf, sSeq, sSet, sNew, sNext, sPass, sApp, sExt, sDrop, sAsg, gNm, gTp, gCs, gNl, startD, DS.put, wF, isaD, eqD, inSq, ixN, asPart, hl] at k ⊢; exact k)
    all_goals (simp [sRet, wAndV, wOrV, wNotV, wUn, wOp, wV, wB, wO, wC, wIfE, wTest, wTruth, wBand, wBor, wBnot, wChain, wSl, wPart, wTup, wLst, wCons, wNil, wCall, sIf, sSeq, sSet, sNew, sNext, sPass, sApp, sExt, sDrop, sAsg, gNm, gTp, gCs, gNl, startD, DS.put, wF, isaD, eqD, inSq, asPart] at * <;> exact k)⟩
end
end L31

set_option Elab.async false
set_option linter.all false
set_option maxRecDepth 100000
set_option maxHeartbeats 4000000
namespace L31
open PySem PySem.Spec PyProof.Rows L2 Q
theorem isTm_dat {t : D} (h : isTm t = true) : isDat t = true ∧ dep t = 0 ∧ deq t .non = false := by
  cases t <;> simp [isTm, isTh, isInt, isNm, isLt] at h ⊢
theorem tms_dat : ∀ {ts : List D}, ts.all isTm = true → isDats ts = true ∧ deps ts = 0
  | [], _ => by simp
  | t :: ts, h => by
    rw [List.all_cons, Bool.and_eq_true] at h
    obtain ⟨h1, h2⟩ := h
    obtain ⟨i1, i2⟩ := tms_dat h2
    obtain ⟨j1, j2, _⟩ := isTm_dat h1
    simp [i1, i2, j1, j2]
theorem isTm_tmB {t : D} (h : isTm t = true) : tmB t = true := by
  cases t <;> simp [isTm, isTh, isInt, isNm, isLt, strNm, strLt] at h ⊢ <;> omega
theorem tms_tmB {ts : List D} (h : ts.all isTm = true) : tmBs ts = true := tmBs_iff.mpr fun x hx => isTm_tmB (List.all_eq_true.mp h x hx)
/-- a row that is an atom's -/
def okRow (xs : List D) : Prop := ∃ (z : Str) (ts : List D), xs = .str z :: ts ∧ strNm z = true ∧ ts.length ≤ 6 ∧ ts.all isTm = true
theorem okRow_of {xs : List D} (h1 : rowB xs = true) (h2 : xs.tail.all isTm = true) : okRow xs := by
  cases xs with
  | nil => simp [rowB] at h1
  | cons a r =>
    cases a <;> simp [rowB, isNm] at h1
    exact ⟨_, r, rfl, h1.2, h1.1, h2⟩
theorem okRow.row {xs : List D} (h : okRow xs) : rowB xs = true ∧ xs.tail.all isTm = true := by
  obtain ⟨z, ts, rfl, h1, h2, h3⟩ := h
  exact ⟨by simp [rowB, isNm, h1]; omega, h3⟩
theorem asAtom_ok {d : D} {xs : List D} (h : sqOf d = some xs) (o : okRow xs) : asAtom d = .tup xs := by
  obtain ⟨h1, h2⟩ := o.row
  simp only [asAtom, h, h1, h2]
  rfl
theorem nm_not {z : Str} (h : strNm z = true) : z ≠ "not" ∧ z ≠ "unlike" := by
  simp [strNm] at h
  exact ⟨h.1.2.1, h.1.2.2.1⟩
/-- a part, as it is told -/
def okPart (p : D) : Prop := (∃ xs, p = .tup xs ∧ okRow xs) ∨ (∃ xs, p = .tup [.str "not", .tup xs] ∧ okRow xs) ∨ ∃ a b, p = .tup [.str "unlike", a, b] ∧ isTm a = true ∧ isTm b = true
theorem asNot_cases (xs : List D) : asNot xs = .non ∨ ∃ ys, asNot xs = .tup [.str "not", .tup ys] ∧ okRow ys := by
  unfold asNot
  split
  · rcases asAtom_cases (xs.getD 1 .non) with h | ⟨ys, _, h1, h2, h⟩
    · rw [h]; exact .inl rfl
    · rw [h]; exact .inr ⟨ys, rfl, okRow_of h1 h2⟩
  · exact .inl rfl
theorem asPart_cases (d : D) : asPart d = .non ∨ okPart (asPart d) := by
  unfold asPart
  split
  · rename_i z r h
    split
    · rename_i e
      rcases asNot_cases (.str z :: r) with h | ⟨ys, h, o⟩
      · exact .inl h
      · exact .inr (.inr (.inl ⟨ys, h, o⟩))
    · split
      · rename_i e1 e2
        unfold asUnl
        split
        · rename_i q
          obtain ⟨q1, q2, q3⟩ := q
          subst e2
          match r, q1 with
          | [a, b], _ => exact .inr (.inr (.inr ⟨a, b, rfl, q2, q3⟩))
        · exact .inl rfl
      · rcases asAtom_cases d with h | ⟨ys, _, h1, h2, h⟩
        · exact .inl h
        · exact .inr (.inl ⟨ys, h, okRow_of h1 h2⟩)
  · exact .inl rfl
theorem okRow.dat {xs : List D} (h : okRow xs) : isDats xs = true ∧ deps xs = 0 := by
  obtain ⟨z, ts, rfl, h1, h2, h3⟩ := h
  obtain ⟨a, b⟩ := tms_dat h3
  simp [a, b]
theorem okPart.dat {p : D} (h : okPart p) : isDat p = true ∧ dep p ≤ 2 ∧ deq p .non = false := by
  rcases h with ⟨xs, rfl, o⟩ | ⟨xs, rfl, o⟩ | ⟨a, b, rfl, h1, h2⟩
  · obtain ⟨d1, d2⟩ := o.dat
    simp [d1, d2]
  · obtain ⟨d1, d2⟩ := o.dat
    simp [d1, d2]
  · obtain ⟨d1, d2, _⟩ := isTm_dat h1
    obtain ⟨e1, e2, _⟩ := isTm_dat h2
    simp [d1, d2, e1, e2]
theorem asPart_dat (d : D) : isDat (asPart d) = true := by
  rcases asPart_cases d with h | h
  · rw [h]; simp
  · exact h.dat.1
def isNon : D → Bool
  | .non => true
  | _ => false
theorem asPart_non (d : D) : deq (asPart d) .non = isNon (asPart d) := by
  rcases asPart_cases d with h | h
  · rw [h]; simp [isNon]
  · rw [h.dat.2.2]
    rcases h with ⟨xs, h, _⟩ | ⟨xs, h, _⟩ | ⟨a, b, h, _⟩ <;> rw [h] <;> rfl
def asBody (d : D) : D := match sqOf d with
  | some xs => if xs.any (fun x => isNon (asPart x)) then .non else .tup (xs.map asPart)
  | none => .non
theorem parts_dat : ∀ xs : List D, isDats (xs.map asPart) = true
  | [] => by simp
  | x :: xs => by simp [asPart_dat x, parts_dat xs]
theorem any_parts (xs : List D) : ((xs.map asPart).any fun p => deq p .non) = xs.any fun x => isNon (asPart x) := by
  rw [List.any_map]
  congr 1
  funext x
  exact asPart_non x
section
variable {P : Program} {w : World} {K : PySem.W.Frag} {mg : Str → Option Value} {base : Heap} {f : Addr} {fd : FuncData}
-- as_body: slots 0 thing, 1 parts, 2 part
abbrev s_as_body : Stmt := (top 24)
abbrev N_sc_as_body : List Str := ["thing", "parts", "part"]
theorem sc_as_body : FnScope N_sc_as_body ["thing"] (defScope s_as_body) := ⟨rfl, rfl, rfl, by decide +kernel, rfl, by decide +kernel, by decide +kernel⟩
theorem ok_as_body (F : FnP K "as_body" "as_body" s_as_body f fd) (T : Tx K mg) (C_as_part : Cal P w K mg base "as_part" 6 ["thing"] (spD K (wF tmd1 fun ds => asPart (ds.headD .non)))) :
    FnOk P w K mg base CX0 7 f fd ["thing"] (spD K (wF tmd1 fun ds => asBody (ds.headD .non))) :=
  FnD F sc_as_body (fun ds Kk h => by obtain ⟨⟨x, rfl, _⟩, _⟩ := h; rfl) fun cdv A outer s H Fz E hr => ⟨_, 
(ds_cons (ds_if (dt_not (dt_truth (de_isN T.b_isinstance (tns_cons (TyN.mk (t := .list) (by rfl) T.b_list (by decide +kernel) (by decide) (by decide)) (tns_cons (TyN.mk (t := .tuple) (by rfl) T.b_tuple (by decide +kernel) (by decide) (by decide)) tns_nil)) (de_v (i := 0))))) (ds_one (ds_ret de_non)) ds_nil)
 (ds_cons (ds_set (i := 1) sc_as_body.nd (de_tuple T.b_tuple (FE.de (fe_lc (own := [("part", 2)]) sc_as_body.nd (di_seq (de_v (i := 0))) (blkOk_by (own := [("part", 2)]) (N := N_sc_as_body) (sc := defScope s_as_body) (by decide +kernel)) (fun _ _ _ _ _ => (dg_name (i := 2) sc_as_body.nd)) (fun _ _ _ _ _ => dts_nil) (fun _ _ _ _ _ => (de_call C_as_part hr (da_cons (de_v (i := 2)) da_nil)))))))
 (ds_cons (ds_if (dt_cm (c_in hr) de_non (de_v (i := 1))) (ds_one (ds_ret de_non)) ds_nil)
 (ds_one (ds_ret (de_v (i := 1)))))))
  , fun ds Kk h => by
    obtain ⟨⟨x, rfl, hx⟩, k⟩ := h
    cases hs : sqOf x with
    | some xs =>
      have hz : xs.length ≤ 100000 := by rcases sq_cases hs with rfl | rfl <;> simp at hx <;> exact hx.1
      have hx' := tmBs_iff.mp (sq_tms hs hx)
      have hq : seqD x = some xs := by rcases sq_cases hs with rfl | rfl <;> rfl
      have hi : isaD [.list, .tuple] x = some (.bl true) := by rcases sq_cases hs with rfl | rfl <;> simp [isaD]
      have k : Kk (asBody x) := k
      refine ⟨_, rfl, _, hi, true, rfl, itF ?_⟩
      simp only [sNext, sSeq, sSet, wUn]
      refine wLc_m (α := D) (h := id) (xs := xs) (f := asPart) (x := none) (fun K k => ⟨_, rfl, xs, hq, by simpa using k⟩) hz rfl (fun _ h => by cases h) (fun t ht K k => ⟨_, rfl, (by simp; exact hx' t ht), k⟩) _ ?_
      refine ⟨_, rfl, ?_⟩
      have e : asBody x = if xs.any (fun x => isNon (asPart x)) then .non else .tup (xs.map asPart) := by simp only [asBody, hs]
      rw [e] at k
      have hin : inD false .non (.tup (xs.map asPart)) = some (.bl (xs.any fun x => isNon (asPart x))) := by
        rw [in_tup]
        unfold inSq
        rw [if_pos ⟨da_non, parts_dat xs, by rw [dp_non]; omega⟩, any_parts]
        rfl
      refine ⟨_, rfl, _, hin, _, rfl, ?_⟩
      cases hn : xs.any (fun x => isNon (asPart x)) with
      | true =>
        rw [hn] at k
        exact itT k
      | false =>
        rw [hn] at k
        exact itF ⟨_, rfl, k⟩
    | none =>
      cases x <;> simp at hs hx
      all_goals (simp [sRet, wAndV, wOrV, wNotV, wUn, wOp, wV, wB, wO, wC, wIfE, wTest, wTruth, wBand, wBor, wBnot, wChain, wSl, wPart, wTup, wLst, wCons, wNil, wCall, sIf, sSeq, sSet, sNew, sNext, sPass, sApp, sExt, sDrop, sAsg, gNm, gTp, gCs, gNl, startD, DS.put, wF, isaD, eqD, inSq, asBody] at k ⊢; exact k)⟩
end
end L31

set_option Elab.async false
set_option linter.all false
set_option maxRecDepth 100000
set_option maxHeartbeats 4000000
namespace L31
open PySem PySem.Spec PyProof.Rows L2 Q
def plainP : D → Bool
  | .tup (.str z :: _) => !(decide (z = "not") || decide (z = "unlike"))
  | _ => false
def termsP : D → List D
  | .tup (.str z :: r) => if z = "not" then (match r with | [.tup (_ :: ts)] => ts | _ => []) else r
  | _ => []
def okp1 : List D → Prop := fun ds => ∃ x, ds = [x] ∧ okPart x
@[simp] theorem okp1_one (x : D) : okp1 [x] = okPart x := by
  apply propext
  constructor
  · rintro ⟨y, e, h⟩
    cases e
    exact h
  · exact fun h => ⟨x, rfl, h⟩
theorem okPart.terms {p : D} (h : okPart p) : (termsP p).all isTm = true ∧ (termsP p).length ≤ 6 := by
  rcases h with ⟨xs, rfl, z, ts, rfl, h1, h2, h3⟩ | ⟨xs, rfl, z, ts, rfl, h1, h2, h3⟩ | ⟨a, b, rfl, h1, h2⟩
  · have := (nm_not h1).1
    simp only [termsP, this]
    exact ⟨h3, h2⟩
  · simp only [termsP]
    exact ⟨h3, h2⟩
  · have : (("unlike" : Str) = "not") = False := eq_false (by decide +kernel)
    simp [termsP, this, h1, h2]
/-- letters, each once, as they come -/
def addL (acc : List Str) (t : D) : List Str := match t with
  | .str z => if strLt z then (if z ∈ acc then acc else acc ++ [z]) else acc
  | _ => acc
def lettersP (ps : List D) : List Str := (ps.flatMap termsP).foldl addL []
theorem addL_len (acc : List Str) (t : D) : (addL acc t).length ≤ acc.length + 1 := by
  unfold addL
  split
  · split
    · split
      · omega
      · simp
    · omega
  · omega
section
variable {P : Program} {w : World} {K : PySem.W.Frag} {mg : Str → Option Value} {base : Heap} {f : Addr} {fd : FuncData}
-- is_plain: slots 0 part
abbrev s_is_plain : Stmt := (top 25)
abbrev N_sc_is_plain : List Str := ["part"]
theorem sc_is_plain : FnScope N_sc_is_plain ["part"] (defScope s_is_plain) := ⟨rfl, rfl, rfl, by decide +kernel, rfl, by decide +kernel, by decide +kernel⟩
theorem ok_is_plain (F : FnP K "is_plain" "is_plain" s_is_plain f fd) (T : Tx K mg) :
    FnOk P w K mg base CX0 1 f fd ["part"] (spD K (wF okp1 fun ds => .bl (plainP (ds.headD .non)))) :=
  FnD F sc_is_plain (fun ds Kk h => by obtain ⟨⟨x, rfl, _⟩, _⟩ := h; rfl) fun cdv A outer s H Fz E hr => ⟨_, 
(ds_one (ds_ret (de_cm (c_ni hr) (de_ixA (de_v (i := 0)) de_int) (de_tup (da_cons de_str (da_cons de_str da_nil))))))
  , fun ds Kk h => by
    obtain ⟨⟨x, rfl, hx⟩, k⟩ := h
    rcases hx with ⟨xs, rfl, z, ts, rfl, h1, h2, h3⟩ | ⟨xs, rfl, z, ts, rfl, h1, h2, h3⟩ | ⟨a, b, rfl, h1, h2⟩
    · obtain ⟨e1, e2⟩ := nm_not h1
      have e3 : ¬ (("not" : Str) = z) := fun h => e1 h.symm
      have e4 : ¬ (("unlike" : Str) = z) := fun h => e2 h.symm
      have e5 : (("not" : Str) == z) = false := beq_eq_false_iff_ne.mpr e3
      have e6 : (("unlike" : Str) == z) = false := beq_eq_false_iff_ne.mpr e4
      simp [sRet, wAndV, wOrV, wNotV, wUn, wOp, wV, wB, wO, wC, wIfE, wTest, wTruth, wBand, wBor, wBnot, wChain, wSl, wPart, wTup, wLst, wCons, wNil, wCall, sIf, sSeq, sSet, sNew, sNext, sPass, sApp, sExt, sDrop, sAsg, gNm, gTp, gCs, gNl, startD, DS.put, wF, isaD, eqD, inSq, ixN, plainP, xr, e1, e2, e5, e6] at k ⊢
      exact k
    · simp [sRet, wAndV, wOrV, wNotV, wUn, wOp, wV, wB, wO, wC, wIfE, wTest, wTruth, wBand, wBor, wBnot, wChain, wSl, wPart, wTup, wLst, wCons, wNil, wCall, sIf, sSeq, sSet, sNew, sNext, sPass, sApp, sExt, sDrop, sAsg, gNm, gTp, gCs, gNl, startD, DS.put, wF, isaD, eqD, inSq, ixN, plainP, xr] at k ⊢
      exact k
    · simp [sRet, wAndV, wOrV, wNotV, wUn, wOp, wV, wB, wO, wC, wIfE, wTest, wTruth, wBand, wBor, wBnot, wChain, wSl, wPart, wTup, wLst, wCons, wNil, wCall, sIf, sSeq, sSet, sNew, sNext, sPass, sApp, sExt, sDrop, sAsg, gNm, gTp, gCs, gNl, startD, DS.put, wF, isaD, eqD, inSq, ixN, plainP, xr] at k ⊢
      exact k⟩
-- terms_of: slots 0 part
abbrev s_terms_of : Stmt := (top 26)
abbrev N_sc_terms_of : List Str := ["part"]
theorem sc_terms_of : FnScope N_sc_terms_of ["part"] (defScope s_terms_of) := ⟨rfl, rfl, rfl, by decide +kernel, rfl, by decide +kernel, by decide +kernel⟩
theorem ok_terms_of (F : FnP K "terms_of" "terms_of" s_terms_of f fd) (T : Tx K mg) :
    FnOk P w K mg base CX0 1 f fd ["part"] (spD K (wF okp1 fun ds => .tup (termsP (ds.headD .non)))) :=
  FnD F sc_terms_of (fun ds Kk h => by obtain ⟨⟨x, rfl, _⟩, _⟩ := h; rfl) fun cdv A outer s H Fz E hr => ⟨_, 
(ds_cons (ds_if (dt_cm (c_eq hr) (de_ixA (de_v (i := 0)) de_int) de_str) (ds_one (ds_ret (de_sl (de_ixA (de_v (i := 0)) de_int) (dp_at de_int) dp_no))) ds_nil)
 (ds_one (ds_ret (de_sl (de_v (i := 0)) (dp_at de_int) dp_no))))
  , fun ds Kk h => by
    obtain ⟨⟨x, rfl, hx⟩, k⟩ := h
    rcases hx with ⟨xs, rfl, z, ts, rfl, h1, h2, h3⟩ | ⟨xs, rfl, z, ts, rfl, h1, h2, h3⟩ | ⟨a, b, rfl, h1, h2⟩
    · have := (nm_not h1).1
      simp [sRet, wAndV, wOrV, wNotV, wUn, wOp, wV, wB, wO, wC, wIfE, wTest, wTruth, wBand, wBor, wBnot, wChain, wSl, wPart, wTup, wLst, wCons, wNil, wCall, sIf, sSeq, sSet, sNew, sNext, sPass, sApp, sExt, sDrop, sAsg, gNm, gTp, gCs, gNl, startD, DS.put, wF, isaD, eqD, inSq, ixN, termsP, xr, this, cut_tl] at k ⊢
      exact k
    · simp [sRet, wAndV, wOrV, wNotV, wUn, wOp, wV, wB, wO, wC, wIfE, wTest, wTruth, wBand, wBor, wBnot, wChain, wSl, wPart, wTup, wLst, wCons, wNil, wCall, sIf, sSeq, sSet, sNew, sNext, sPass, sApp, sExt, sDrop, sAsg, gNm, gTp, gCs, gNl, startD, DS.put, wF, isaD, eqD, inSq, ixN, termsP, xr, cut_tl] at k ⊢
      exact k
    · have : (("unlike" : Str) = "not") = False := eq_false (by decide +kernel)
      simp [sRet, wAndV, wOrV, wNotV, wUn, wOp, wV, wB, wO, wC, wIfE, wTest, wTruth, wBand, wBor, wBnot, wChain, wSl, wPart, wTup, wLst, wCons, wNil, wCall, sIf, sSeq, sSet, sNew, sNext, sPass, sApp, sExt, sDrop, sAsg, gNm, gTp, gCs, gNl, startD, DS.put, wF, isaD, eqD, inSq, ixN, termsP, xr, cut_tl, this] at k ⊢
      exact k⟩
def oks : List D → Prop := fun ds => ∃ x ps, ds = [x] ∧ sqOf x = some ps ∧ ps.length ≤ 1000 ∧ ∀ p ∈ ps, okPart p
theorem sq_seq {x : D} {xs : List D} (h : sqOf x = some xs) : seqD x = some xs := by rcases sq_cases h with rfl | rfl <;> rfl
-- letters_in: slots 0 parts, 1 found, 2 part, 3 term
abbrev s_letters_in : Stmt := (top 27)
abbrev N_sc_letters_in : List Str := ["parts", "found", "part", "term"]
theorem sc_letters_in : FnScope N_sc_letters_in ["parts"] (defScope s_letters_in) := ⟨rfl, rfl, rfl, by decide +kernel, rfl, by decide +kernel, by decide +kernel⟩
theorem ok_letters_in (F : FnP K "letters_in" "letters_in" s_letters_in f fd) (T : Tx K mg) (C_terms_of : Cal P w K mg base "terms_of" 1 ["part"] (spD K (wF okp1 fun ds => .tup (termsP (ds.headD .non)))))
    (C_is_letter : Cal P w K mg base "is_letter" 1 ["thing"] (spD K (wF tame1 fun ds => .bl (isLt (ds.headD .non))))) :
    FnOk P w K mg base CX0 2 f fd ["parts"] (spF K (wF oks fun ds => .lst ((lettersP ((sqOf (ds.headD .non)).getD [])).map .str))) :=
  FnF F sc_letters_in (fun ds Kk h => by obtain ⟨⟨x, ps, rfl, _⟩, _⟩ := h; rfl) fun cdv A outer s H Fz E hr => ⟨_, 
(ds_cons (ds_new (i := 1) sc_letters_in.nd fe_d0)
 (ds_cons (ds_for (di_seq (de_v (i := 0))) (dg_name (i := 2) sc_letters_in.nd)
  (ds_one (ds_for (di_seq (de_call C_terms_of hr (da_cons (de_v (i := 2)) da_nil))) (dg_name (i := 3) sc_letters_in.nd)
  (ds_one (ds_if (dt_truth (de_call C_is_letter hr (da_cons (de_v (i := 3)) da_nil))) (ds_one (ds_dput hr (i := 1) de_bl (de_v (i := 3)))) ds_nil)))))
 (ds_one (ds_retF (fe_listK T.b_list (de_b (i := 1)))))))
  , fun ds Kk h => by
    obtain ⟨⟨x, ps, rfl, hs, hl, ho⟩, k⟩ := h
    have k : Kk (.lst ((lettersP ((sqOf x).getD [])).map .str)) := k
    rw [hs] at k
    have k : Kk (.lst ((lettersP ps).map .str)) := k
    simp only [sSeq, sNew, wC, sFor, wSq, wV, startD, DS.put]
    refine ⟨x, rfl, ps, sq_seq hs, ?_⟩
    let mk : List Str → List D → Option DV → Option DV → DS noR := fun acc vs x2 x3 => ⟨noG, [some (.fz x), some (.own (.dct ((acc.map Sum.inr : List Key).map kD) vs)), x2, x3]⟩
    refine forGo_ind (fun rest ρ => ∃ acc vs x2 x3, ρ = mk acc vs x2 x3 ∧ (rest.flatMap termsP).foldl addL acc = lettersP ps ∧ acc.length + 7 * rest.length ≤ 7000 ∧ ∀ p ∈ rest, okPart p) ?_ ?_ ps _ ⟨[], [], none, none, rfl, rfl, by simp; omega, ho⟩
    · rintro p rest N ρ hN ⟨acc, vs, x2, x3, rfl, hf, hlen, hok⟩
      have hp := hok p List.mem_cons_self
      obtain ⟨ht1, ht2⟩ := hp.terms
      rw [List.length_cons] at hlen
      refine ⟨p, rfl, ⟨p, rfl, hp⟩, termsP p, rfl, ?_⟩
      rw [List.flatMap_cons, List.foldl_append] at hf
      refine forGo_ind (fun tr ρ => ∃ acc' vs' x3', ρ = mk acc' vs' (some (.fz p)) x3' ∧ tr.foldl addL acc' = (termsP p).foldl addL acc ∧ acc'.length + tr.length ≤ acc.length + 6 ∧ ∀ t ∈ tr, isTm t = true) ?_ ?_ (termsP p) _ ⟨acc, vs, x3, rfl, rfl, by omega, List.all_eq_true.mp ht1⟩
      · rintro t tr N2 ρ hN2 ⟨acc', vs', x3', rfl, hf', hl', ht'⟩
        have htt := ht' t List.mem_cons_self
        rw [List.length_cons] at hl'
        refine ⟨t, rfl, ⟨t, rfl, tmB.tame (isTm_tmB htt)⟩, isLt t, rfl, ?_⟩
        cases hb : isLt t with
        | true =>
          refine itT ?_
          cases t with
          | str z =>
            refine ⟨⟨_, rfl⟩, .str z, rfl, .inr z, acc'.map Sum.inr, vs', rfl, rfl, by rw [List.length_map]; omega, hN2 _ ⟨if z ∈ acc' then acc' else acc' ++ [z], putVs (acc'.map Sum.inr) vs' (.inr z) (.bl true), some (.fz (.str z)), ?_, ?_, ?_, fun t h => ht' t (List.mem_cons_of_mem _ h)⟩⟩
            · rw [putKs_str]
              rfl
            · rw [List.foldl_cons] at hf'
              rw [← hf']
              have : addL acc' (.str z) = if z ∈ acc' then acc' else acc' ++ [z] := by
                have hb : strLt z = true := hb
                simp only [addL, hb]
                rfl
              rw [this]
            · split
              · omega
              · rw [List.length_append]; simp; omega
          | _ => cases hb
        | false =>
          refine itF (hN2 _ ⟨acc', vs', _, rfl, ?_, by omega, fun t h => ht' t (List.mem_cons_of_mem _ h)⟩)
          rw [List.foldl_cons] at hf'
          rw [← hf']
          have : addL acc' t = acc' := by
            cases t <;> simp only [addL]
            have hb : strLt _ = false := hb
            rw [hb]
            rfl
          rw [this]
      · rintro ρ ⟨acc', vs', x3', rfl, hf', hl', _⟩
        refine hN _ ⟨acc', vs', _, _, rfl, ?_, by simp at hl'; omega, fun q h => hok q (List.mem_cons_of_mem _ h)⟩
        have hf' : acc' = (termsP p).foldl addL acc := hf'
        rw [hf']
        exact hf
    · rintro ρ ⟨acc, vs, x2, x3, rfl, hf, hlen, hok⟩
      have hf : acc = lettersP ps := hf
      subst hf
      refine .inr ⟨_, rfl, _, rfl, ?_⟩
      have e : ((lettersP ps).map Sum.inr : List Key).map kD = (lettersP ps).map .str := by rw [List.map_map]; rfl
      rw [e]
      exact k⟩
end
end L31

set_option Elab.async false
set_option linter.all false
set_option maxRecDepth 100000
set_option maxHeartbeats 4000000
namespace L31
open PySem PySem.Spec PyProof.Rows L2 Q
theorem addL_fold_len : ∀ (ts : List D) (acc : List Str), (ts.foldl addL acc).length ≤ acc.length + ts.length
  | [], acc => by simp
  | t :: ts, acc => by
    have h1 := addL_fold_len ts (addL acc t)
    have h2 := addL_len acc t
    rw [List.foldl_cons, List.length_cons]
    omega
theorem flat_len : ∀ {ps : List D}, (∀ p ∈ ps, okPart p) → (ps.flatMap termsP).length ≤ 6 * ps.length
  | [], _ => by simp
  | p :: ps, h => by
    have h1 := (h p List.mem_cons_self).terms.2
    have h2 := flat_len fun q hq => h q (List.mem_cons_of_mem _ hq)
    rw [List.flatMap_cons, List.length_append, List.length_cons]
    omega
theorem lettersP_len {ps : List D} (h : ∀ p ∈ ps, okPart p) : (lettersP ps).length ≤ 6 * ps.length := by
  have h1 := addL_fold_len (ps.flatMap termsP) []
  have h2 := flat_len h
  unfold lettersP
  rw [List.length_nil] at h1
  omega
theorem strs_dat : ∀ zs : List Str, isDats (zs.map D.str) = true ∧ deps (zs.map D.str) = 0
  | [] => by simp
  | z :: zs => by
    obtain ⟨a, b⟩ := strs_dat zs
    simp [a, b]
theorem any_strs (z : Str) (zs : List Str) : ((zs.map D.str).any fun y => deq y (.str z)) = decide (z ∈ zs) := by
  induction zs with
  | nil => simp
  | cons y ys ih =>
    rw [List.map_cons, List.any_cons, ih]
    by_cases h : z = y
    · subst h; simp
    · have h' : ¬ y = z := fun e => h e.symm
      simp [h, h']
theorem inD_strs (n : Bool) (z : Str) (zs : List Str) : inD n (.str z) (.lst (zs.map .str)) = some (.bl (xr n (decide (z ∈ zs)))) := by
  rw [in_lst]
  unfold inSq
  obtain ⟨a, b⟩ := strs_dat zs
  rw [if_pos ⟨da_str z, a, by rw [b]; simp⟩, any_strs]
/-- letters of these parts that stand in no plain atom of the body -/
def looseP (ps body : List D) : List Str := (lettersP ps).filter fun z => !decide (z ∈ lettersP (body.filter plainP))
def oks2 : List D → Prop := fun ds => ∃ x y ps qs, ds = [x, y] ∧ sqOf x = some ps ∧ sqOf y = some qs ∧ ps.length ≤ 1000 ∧ qs.length ≤ 1000 ∧ (∀ p ∈ ps, okPart p) ∧ ∀ p ∈ qs, okPart p
section
variable {P : Program} {w : World} {K : PySem.W.Frag} {mg : Str → Option Value} {base : Heap} {f : Addr} {fd : FuncData}
-- loose_letters: slots 0 parts, 1 body, 2 held, 3 letter, 4 part
abbrev s_loose_letters : Stmt := (top 28)
abbrev N_sc_loose_letters : List Str := ["parts", "body", "held", "letter", "part"]
theorem sc_loose_letters : FnScope N_sc_loose_letters ["parts", "body"] (defScope s_loose_letters) := ⟨rfl, rfl, rfl, by decide +kernel, rfl, by decide +kernel, by decide +kernel⟩
theorem ok_loose_letters (F : FnP K "loose_letters" "loose_letters" s_loose_letters f fd) (T : Tx K mg) (C_is_plain : Cal P w K mg base "is_plain" 1 ["part"] (spD K (wF okp1 fun ds => .bl (plainP (ds.headD .non)))))
    (C_letters_in : Cal P w K mg base "letters_in" 2 ["parts"] (spF K (wF oks fun ds => .lst ((lettersP ((sqOf (ds.headD .non)).getD [])).map .str)))) :
    FnOk P w K mg base CX0 3 f fd ["parts", "body"] (spF K (wF oks2 fun ds => .lst ((looseP ((sqOf (ds.headD .non)).getD []) ((sqOf (ds.getD 1 .non)).getD [])).map .str))) :=
  FnF F sc_loose_letters (fun ds Kk h => by obtain ⟨⟨x, y, ps, qs, rfl, _⟩, _⟩ := h; rfl) fun cdv A outer s H Fz E hr => ⟨_, 
(ds_cons (ds_set (i := 2) sc_loose_letters.nd (FE.de (fe_call C_letters_in hr (da_cons (FE.de (fe_lc (own := [("part", 4)]) sc_loose_letters.nd (di_seq (de_v (i := 1))) (blkOk_by (own := [("part", 4)]) (N := N_sc_loose_letters) (sc := defScope s_loose_letters) (by decide +kernel)) (fun _ _ _ _ _ => (dg_name (i := 4) sc_loose_letters.nd)) (fun _ _ _ _ _ => (dts_one (dt_truth (de_call C_is_plain hr (da_cons (de_v (i := 4)) da_nil))))) (fun _ _ _ _ _ => (de_v (i := 4))))) da_nil))))
 (ds_one (ds_retF (fe_lc (own := [("letter", 3)]) sc_loose_letters.nd (di_seq (FE.de (fe_call C_letters_in hr (da_cons (de_v (i := 0)) da_nil)))) (blkOk_by (own := [("letter", 3)]) (N := N_sc_loose_letters) (sc := defScope s_loose_letters) (by decide +kernel)) (fun _ _ _ _ _ => (dg_name (i := 3) sc_loose_letters.nd)) (fun _ _ _ _ _ => (dts_one (dt_cm (c_ni hr) (de_v (i := 3)) (de_v (i := 2))))) (fun _ _ _ _ _ => (de_v (i := 3)))))))
  , fun ds Kk h => by
    obtain ⟨⟨x, y, ps, qs, rfl, hx, hy, l1, l2, o1, o2⟩, k⟩ := h
    have k : Kk (.lst ((looseP ((sqOf x).getD []) ((sqOf y).getD [])).map .str)) := k
    rw [hx, hy] at k
    have k : Kk (.lst ((looseP ps qs).map .str)) := k
    have ev : ∀ (zs : List D) (o : ∀ p ∈ zs, okPart p), zs.length ≤ 1000 → ((lettersP zs).length ≤ 6000) := fun zs o l => by
      have := lettersP_len o
      omega
    simp only [sSeq, sSet, wCall, wCons, wNil]
    show wLc (wSq (wV 1)) (gNm 4) (wTruth (wCall (wF okp1 fun ds => D.bl (plainP (ds.headD D.non))) (wCons (wV 4) wNil))) (wV 4) [4] ⟨noG, [some (.fz x), some (.fz y), none, none, none]⟩ _
    refine wLc_filter (ds := qs) (f := fun d => d) (p := plainP) (x := none) (fun K k => ⟨y, rfl, qs, sq_seq hy, k⟩) (by omega) rfl (fun _ h => by cases h) (fun d hd K k => ⟨d, rfl, ⟨d, rfl, o2 d hd⟩, _, rfl, k⟩) (fun d hd _ K k => ⟨d, rfl, k⟩) _ ?_
    rw [List.map_id']
    have of : ∀ p ∈ qs.filter plainP, okPart p := fun p hp => o2 p (List.mem_filter.mp hp).1
    have lf : (qs.filter plainP).length ≤ 1000 := Nat.le_trans (List.length_filter_le _ _) l2
    refine ⟨⟨_, qs.filter plainP, rfl, rfl, lf, of⟩, ?_⟩
    show wLc (wSq (wCall (wF oks fun ds => D.lst (List.map D.str (lettersP ((sqOf (ds.headD D.non)).getD [])))) (wCons (wV 0) wNil))) (gNm 3) (wTest (wOp (inD true) (wV 3) (wV 2))) (wV 3) [3]
      ⟨noG, [some (.fz x), some (.fz y), some (.fz (.lst ((lettersP (qs.filter plainP)).map .str))), none, none]⟩ _
    refine wLc_fm (α := Str) (h := .str) (xs := lettersP ps) (p := fun z => !decide (z ∈ lettersP (qs.filter plainP))) (f := .str) (x := none) (fun K k => ⟨x, rfl, ⟨x, ps, rfl, hx, l1, o1⟩, (lettersP ps).map .str, ?_, k⟩) (by have := ev ps o1 l1; omega) rfl (fun _ h => by cases h)
      (fun z hz K k => ⟨.str z, rfl, _, rfl, _, inD_strs true z (lettersP (qs.filter plainP)), _, rfl, ?_⟩) (fun z hz _ K k => ⟨.str z, rfl, k⟩) _ ?_
    · exact k
    · show seqD (.lst ((lettersP ((sqOf x).getD [])).map .str)) = _
      rw [hx]
      rfl
    · have e : xr true (decide (z ∈ lettersP (qs.filter plainP))) = !decide (z ∈ lettersP (qs.filter plainP)) := by cases decide (z ∈ lettersP (qs.filter plainP)) <;> rfl
      rw [e]
      exact k⟩
end
end L31

set_option Elab.async false
set_option linter.all false
set_option maxRecDepth 100000
set_option maxHeartbeats 4000000
namespace L31
open PySem PySem.Spec PyProof.Rows L2 Q
def strOf : D → Str
  | .str z => z
  | _ => ""
def asBy (d : D) : D := match sqOf d with
  | some xs => if xs.length ≠ 0 ∧ xs.all isLt = true ∧ (onceS (xs.map strOf)).length = xs.length then .tup xs else .non
  | none => .non
theorem lts_strs : ∀ {xs : List D}, xs.all isLt = true → xs = (xs.map strOf).map D.str
  | [], _ => rfl
  | x :: xs, h => by
    rw [List.all_cons, Bool.and_eq_true] at h
    have ih := lts_strs h.2
    cases x <;> simp [isLt] at h
    rw [List.map_cons, List.map_cons, ← ih]
    rfl
section
variable {P : Program} {w : World} {K : PySem.W.Frag} {mg : Str → Option Value} {base : Heap} {f : Addr} {fd : FuncData}
-- _as_by: slots 0 thing, 1 term
abbrev s_as_by : Stmt := (top 32)
abbrev N_sc_as_by : List Str := ["thing", "term"]
theorem sc_as_by : FnScope N_sc_as_by ["thing"] (defScope s_as_by) := ⟨rfl, rfl, rfl, by decide +kernel, rfl, by decide +kernel, by decide +kernel⟩
theorem ok_as_by (F : FnP K "_as_by" "_as_by" s_as_by f fd) (T : Tx K mg) (C_is_letter : Cal P w K mg base "is_letter" 1 ["thing"] (spD K (wF tame1 fun ds => .bl (isLt (ds.headD .non))))) :
    FnOk P w K mg base CX0 2 f fd ["thing"] (spD K (wF tmd1 fun ds => asBy (ds.headD .non))) :=
  FnD F sc_as_by (fun ds Kk h => by obtain ⟨⟨x, rfl, _⟩, _⟩ := h; rfl) fun cdv A outer s H Fz E hr => ⟨_, 
(ds_cons (ds_if (DW.dt (dw_or (dt_not (dt_truth (de_isN T.b_isinstance (tns_cons (TyN.mk (t := .list) (by rfl) T.b_list (by decide +kernel) (by decide) (by decide)) (tns_cons (TyN.mk (t := .tuple) (by rfl) T.b_tuple (by decide +kernel) (by decide) (by decide)) tns_nil)) (de_v (i := 0))))) (dw_or (dt_cm (c_eq hr) (de_len T.b_len (de_v (i := 0))) de_int) (dw_or1 (dt_not (dt_truth (de_all T.b_all (FE.de (fe_lc (own := [("term", 1)]) sc_as_by.nd (di_seq (de_v (i := 0))) (blkOk_by (own := [("term", 1)]) (N := N_sc_as_by) (sc := defScope s_as_by) (by decide +kernel)) (fun _ _ _ _ _ => (dg_name (i := 1) sc_as_by.nd)) (fun _ _ _ _ _ => dts_nil) (fun _ _ _ _ _ => (de_call C_is_letter hr (da_cons (de_v (i := 1)) da_nil)))))))))))) (ds_one (ds_ret de_non)) ds_nil)
 (ds_one (ds_ret (de_if (dt_cm (c_eq hr) (de_len T.b_len (FE.de (fe_dc (own := [("term", 1)]) hr sc_as_by.nd (di_seq (de_v (i := 0))) (blkOk_by (own := [("term", 1)]) (N := N_sc_as_by) (sc := defScope s_as_by) (by decide +kernel)) (fun _ _ _ _ _ => (dg_name (i := 1) sc_as_by.nd)) (fun _ _ _ _ _ => dts_nil) (fun _ _ _ _ _ => (de_v (i := 1))) (fun _ _ _ _ _ => de_bl)))) (de_len T.b_len (de_v (i := 0)))) (de_tuple T.b_tuple (de_v (i := 0))) de_non))))
  , fun ds Kk h => by
    obtain ⟨⟨x, rfl, hx⟩, k⟩ := h
    have k : Kk (asBy x) := k
    cases hs : sqOf x with
    | none =>
      cases x <;> simp at hs hx
      all_goals (simp [sRet, wAndV, wOrV, wNotV, wUn, wOp, wV, wB, wO, wC, wIfE, wTest, wTruth, wBand, wBor, wBnot, wChain, wSl, wPart, wTup, wLst, wCons, wNil, wCall, sIf, sSeq, sSet, sNew, sNext, sPass, sApp, sExt, sDrop, sAsg, gNm, gTp, gCs, gNl, startD, DS.put, wF, isaD, eqD, inSq, asBy] at k ⊢; exact k)
    | some xs =>
      have e : asBy x = if xs.length ≠ 0 ∧ xs.all isLt = true ∧ (onceS (xs.map strOf)).length = xs.length then .tup xs else .non := by simp only [asBy, hs]
      rw [e] at k
      have hz : xs.length ≤ 100000 := by rcases sq_cases hs with rfl | rfl <;> simp at hx <;> exact hx.1
      have hx' := tmBs_iff.mp (sq_tms hs hx)
      have hi : isaD [.list, .tuple] x = some (.bl true) := by rcases sq_cases hs with rfl | rfl <;> simp [isaD]
      have hl : lenD x = some (.int xs.length) := by rcases sq_cases hs with rfl | rfl <;> rfl
      have hq := sq_seq hs
      have htu : tupleD x = some (.tup xs) := by rcases sq_cases hs with rfl | rfl <;> rfl
      have eqI : ∀ a b : Nat, eqD false (.int a) (.int b) = some (.bl (decide (a = b))) := fun a b => by
        have e : (((a : Nat) : Int) == ((b : Nat) : Int)) = decide (a = b) := by
          by_cases h : a = b
          · subst h; simp
          · simp [h]; omega
        simp [eqD, xr, e]
      refine ⟨_, rfl, _, hi, true, rfl, itF ?_⟩
      refine ⟨_, rfl, _, hl, _, eqI xs.length 0, _, rfl, ?_⟩
      by_cases h0 : xs.length = 0
      · rw [if_neg (fun q => q.1 h0)] at k
        rw [decide_eq_true h0]
        exact itT k
      · rw [decide_eq_false h0]
        refine itF ?_
        simp only [sSeq, sSet, sNew, sNext, sPass, sRet, sIf, sApp, sExt, sDrop, sAsg, wIfE, wTest, wTruth, wBand, wBor, wBnot, wOp, wUn, wCall, wCons, wNil, wTup, wLst]
        show wLc (wSq (wV 0)) (gNm 1) wYes (wCall (wF tame1 fun ds => D.bl (isLt (ds.headD D.non))) (wCons (wV 1) wNil)) [1] ⟨noG, [some (.fz x), none]⟩ _
        refine wLc_m (α := D) (h := id) (xs := xs) (f := fun t => .bl (isLt t)) (x := none) (fun K k => ⟨_, rfl, xs, hq, by simpa using k⟩) hz rfl (fun _ h => by cases h) (fun t ht K k => ⟨_, rfl, (by simp; exact tmB.tame (hx' t ht)), k⟩) _ ?_
        rw [all_map]
        refine ⟨_, rfl, _, rfl, ?_⟩
        cases ha : xs.all isLt with
        | false =>
          rw [if_neg (fun q => by rw [ha] at q; cases q.2.1)] at k
          exact itT k
        | true =>
          refine itF ?_
          have es := lts_strs ha
          show wDc (wSq (wV 0)) (gNm 1) wYes (wV 1) (wC noR (.bl true)) [1] ⟨noG, [some (.fz x), none]⟩ _
          refine wDc_strs (zs := xs.map strOf) (v := .bl true) (x := none) (fun K k => ⟨_, rfl, _, hq, by rw [← es] at k; exact k⟩) (by rw [List.length_map]; exact hz) rfl (fun _ h => by cases h) (fun z _ K k => ⟨_, rfl, k⟩) (fun z _ K k => k) _ fun vs => ?_
          have ek : (((onceS (xs.map strOf)).map Sum.inr : List Key).map kD).length = (onceS (xs.map strOf)).length := by rw [List.length_map, List.length_map]
          refine ⟨_, congrArg (fun n : Nat => some (D.int (n : Int))) ek, _, rfl, _, hl, _, eqI _ _, _, rfl, ?_⟩
          by_cases h1 : (onceS (xs.map strOf)).length = xs.length
          · rw [if_pos ⟨h0, ha, h1⟩] at k
            rw [decide_eq_true h1]
            exact itT ⟨_, rfl, _, htu, k⟩
          · rw [if_neg (fun q => h1 q.2.2)] at k
            rw [decide_eq_false h1]
            exact itF k⟩
end
end L31

set_option Elab.async false
set_option linter.all false
set_option maxRecDepth 100000
set_option maxHeartbeats 4000000
namespace L31
open PySem PySem.Spec PyProof.Rows L2 Q
def isWord (z : Str) : Bool := decide (z = "count") || decide (z = "sum") || decide (z = "least") || decide (z = "most")
def tupLen : D → Nat
  | .tup xs => xs.length
  | _ => 0
def asFold (d : D) : D := match sqOf d with
  | some [.str w, h, b, p] => if isWord w && !isNon (asAtom h) && !isNon (asBy b) && !isNon (asBody p) && decide (tupLen (asAtom h) ≤ 6) then .tup [.str w, asAtom h, asBy b, asBody p] else .non
  | _ => .non
theorem asBy_cases (d : D) : asBy d = .non ∨ ∃ xs, sqOf d = some xs ∧ xs.length ≠ 0 ∧ xs.all isLt = true ∧ (onceS (xs.map strOf)).length = xs.length ∧ asBy d = .tup xs := by
  unfold asBy
  cases h : sqOf d with
  | none => exact .inl rfl
  | some xs =>
    by_cases q : xs.length ≠ 0 ∧ xs.all isLt = true ∧ (onceS (xs.map strOf)).length = xs.length
    · exact .inr ⟨xs, rfl, q.1, q.2.1, q.2.2, if_pos q⟩
    · exact .inl (if_neg q)
theorem asBody_cases (d : D) : asBody d = .non ∨ ∃ xs, sqOf d = some xs ∧ (∀ x ∈ xs, okPart (asPart x)) ∧ asBody d = .tup (xs.map asPart) := by
  unfold asBody
  cases h : sqOf d with
  | none => exact .inl rfl
  | some xs =>
    by_cases q : xs.any (fun x => isNon (asPart x)) = true
    · exact .inl (if_pos q)
    · refine .inr ⟨xs, rfl, fun x hx => ?_, if_neg q⟩
      rcases asPart_cases x with h | h
      · exact absurd (List.any_eq_true.mpr ⟨x, hx, by rw [h]; rfl⟩) q
      · exact h
section
variable {P : Program} {w : World} {K : PySem.W.Frag} {mg : Str → Option Value} {base : Heap} {f : Addr} {fd : FuncData}
-- _as_fold: slots 0 thing, 1 head, 2 by, 3 body
abbrev s_as_fold : Stmt := (top 33)
abbrev N_sc_as_fold : List Str := ["thing", "head", "by", "body"]
theorem sc_as_fold : FnScope N_sc_as_fold ["thing"] (defScope s_as_fold) := ⟨rfl, rfl, rfl, by decide +kernel, rfl, by decide +kernel, by decide +kernel⟩
theorem ok_as_fold (F : FnP K "_as_fold" "_as_fold" s_as_fold f fd) (T : Tx K mg) (C_as_atom : Cal P w K mg base "as_atom" 4 ["thing"] (spD K (wF tmd1 fun ds => asAtom (ds.headD .non))))
    (C__as_by : Cal P w K mg base "_as_by" 2 ["thing"] (spD K (wF tmd1 fun ds => asBy (ds.headD .non)))) (C_as_body : Cal P w K mg base "as_body" 7 ["thing"] (spD K (wF tmd1 fun ds => asBody (ds.headD .non)))) :
    FnOk P w K mg base CX0 8 f fd ["thing"] (spD K (wF tmd1 fun ds => asFold (ds.headD .non))) :=
  FnD F sc_as_fold (fun ds Kk h => by obtain ⟨⟨x, rfl, _⟩, _⟩ := h; rfl) fun cdv A outer s H Fz E hr => ⟨_, 
(ds_cons (ds_if (DW.dt (dw_or (dt_not (dt_truth (de_isN T.b_isinstance (tns_cons (TyN.mk (t := .list) (by rfl) T.b_list (by decide +kernel) (by decide) (by decide)) (tns_cons (TyN.mk (t := .tuple) (by rfl) T.b_tuple (by decide +kernel) (by decide) (by decide)) tns_nil)) (de_v (i := 0))))) (dw_or1 (dt_cm (c_ne hr) (de_len T.b_len (de_v (i := 0))) de_int)))) (ds_one (ds_ret de_non)) ds_nil)
 (ds_cons (ds_if (DW.dt (dw_or (dt_not (dt_truth (de_is1 T.b_isinstance (TyN.mk (t := .str) (by rfl) T.b_str (by decide +kernel) (by decide) (by decide)) (de_ixA (de_v (i := 0)) de_int)))) (dw_or1 (dt_cm (c_ni hr) (de_ixA (de_v (i := 0)) de_int) (de_g T.g_WORDS))))) (ds_one (ds_ret de_non)) ds_nil)
 (ds_cons (ds_set (i := 1) sc_as_fold.nd (de_call C_as_atom hr (da_cons (de_ixA (de_v (i := 0)) de_int) da_nil)))
 (ds_cons (ds_set (i := 2) sc_as_fold.nd (de_call C__as_by hr (da_cons (de_ixA (de_v (i := 0)) de_int) da_nil)))
 (ds_cons (ds_set (i := 3) sc_as_fold.nd (de_call C_as_body hr (da_cons (de_ixA (de_v (i := 0)) de_int) da_nil)))
 (ds_cons (ds_if (DW.dt (dw_or (dt_cm c_is (de_v (i := 1)) de_non) (dw_or (dt_cm c_is (de_v (i := 2)) de_non) (dw_or (dt_cm c_is (de_v (i := 3)) de_non) (dw_or1 (dt_cm c_gt (de_len T.b_len (de_v (i := 1))) (de_add (de_g T.g_MOST_HEAD_TERMS) de_int))))))) (ds_one (ds_ret de_non)) ds_nil)
 (ds_one (ds_ret (de_tup (da_cons (de_ixA (de_v (i := 0)) de_int) (da_cons (de_v (i := 1)) (da_cons (de_v (i := 2)) (da_cons (de_v (i := 3)) da_nil)))))))))))))
  , fun ds Kk h => by
    obtain ⟨⟨x, rfl, hx⟩, k⟩ := h
    cases hs : sqOf x with
    | none =>
      cases x <;> simp at hs hx
      all_goals (simp [sRet, wAndV, wOrV, wNotV, wUn, wOp, wV, wB, wO, wC, wIfE, wTest, wTruth, wBand, wBor, wBnot, wChain, wSl, wPart, wTup, wLst, wCons, wNil, wCall, sIf, sSeq, sSet, sNew, sNext, sPass, sApp, sExt, sDrop, sAsg, gNm, gTp, gCs, gNl, startD, DS.put, wF, isaD, eqD, inSq, asFold] at k ⊢; exact k)
    | some xs =>
      have hx' := sq_tms hs hx
      by_cases h4 : xs.length = 4
      · match xs, h4 with
        | [a, h, b, p], _ =>
          have hh : tmB h = true := by simp at hx'; exact hx'.2.1
          have hb : tmB b = true := by simp at hx'; exact hx'.2.2.1
          have hp : tmB p = true := by simp at hx'; exact hx'.2.2.2
          cases a with
          | str z =>
            replace k : Kk (asFold x) := k
            have e : asFold x = if isWord z && !isNon (asAtom h) && !isNon (asBy b) && !isNon (asBody p) && decide (tupLen (asAtom h) ≤ 6) then .tup [.str z, asAtom h, asBy b, asBody p] else .non := by simp only [asFold, hs]
            rw [e] at k
            have go : ∀ y, x = y → (y = .lst [.str z, h, b, p] ∨ y = .tup [.str z, h, b, p]) → isWord z = true → True := fun _ _ _ _ => trivial
            cases hw : isWord z with
            | false =>
              rw [hw] at k
              have hn : ¬ (("count" : Str) = z) ∧ ¬ (("sum" : Str) = z) ∧ ¬ (("least" : Str) = z) ∧ ¬ (("most" : Str) = z) := by
                simp [isWord] at hw
                exact ⟨fun q => hw.1.1.1 q.symm, fun q => hw.1.1.2 q.symm, fun q => hw.1.2 q.symm, fun q => hw.2 q.symm⟩
              obtain ⟨n1, n2, n3, n4⟩ := hn
              have m1 := beq_eq_false_iff_ne.mpr n1
              have m2 := beq_eq_false_iff_ne.mpr n2
              have m3 := beq_eq_false_iff_ne.mpr n3
              have m4 := beq_eq_false_iff_ne.mpr n4
              rcases sq_cases hs with rfl | rfl <;>
              · simp [sRet, wAndV, wOrV, wNotV, wUn, wOp, wV, wB, wO, wC, wIfE, wTest, wTruth, wBand, wBor, wBnot, wChain, wSl, wPart, wTup, wLst, wCons, wNil, wCall, sIf, sSeq, sSet, sNew, sNext, sPass, sApp, sExt, sDrop, sAsg, gNm, gTp, gCs, gNl, startD, DS.put, wF, isaD, eqD, inSq, ixN, xr, m1, m2, m3, m4] at k ⊢
                exact k
            | true =>
              rw [hw] at k
              have hm : inSq true (.str z) [.str "count", .str "sum", .str "least", .str "most"] = some (.bl false) := by
                simp [inSq, xr]
                simp [isWord] at hw
                rcases hw with ((rfl | rfl) | rfl) | rfl <;> simp
              rcases sq_cases hs with rfl | rfl <;>
              · simp [sRet, wAndV, wOrV, wNotV, wUn, wOp, wV, wB, wO, wC, wIfE, wTest, wTruth, wBand, wBor, wBnot, wChain, wSl, wPart, wTup, wLst, wCons, wNil, wCall, sIf, sSeq, sSet, sNew, sNext, sPass, sApp, sExt, sDrop, sAsg, gNm, gTp, gCs, gNl, startD, DS.put, wF, isaD, eqD, inSq, -inSq, hm, ixN, xr, hh, hb, hp]
                have hmem : ¬("count" : Str) = z → ¬("sum" : Str) = z → ¬("least" : Str) = z → ("most" : Str) = z := by
                  simp [isWord] at hw
                  intro n1 n2 n3
                  rcases hw with ((e | e) | e) | e
                  · exact absurd e.symm n1
                  · exact absurd e.symm n2
                  · exact absurd e.symm n3
                  · exact e.symm
                refine .inl ⟨hmem, ?_⟩
                rcases asAtom_cases h with h1 | ⟨xs, _, r1, r2, h1⟩ <;> rcases asBy_cases b with h2 | ⟨ys, _, _, _, _, h2⟩ <;> rcases asBody_cases p with h3 | ⟨zs, _, _, h3⟩
                · rw [h1] at k ⊢; simp [isNon] at k ⊢; exact k
                · rw [h1] at k ⊢; simp [isNon] at k ⊢; exact k
                · rw [h1] at k ⊢; simp [isNon] at k ⊢; exact k
                · rw [h1] at k ⊢; simp [isNon] at k ⊢; exact k
                · rw [h1, h2] at k ⊢; simp [isNon] at k ⊢; exact k
                · rw [h1, h2] at k ⊢; simp [isNon] at k ⊢; exact k
                · rw [h1, h2, h3] at k ⊢; simp [isNon] at k ⊢; exact k
                · rw [h1, h2, h3] at k ⊢
                  by_cases h6 : xs.length ≤ 6
                  · have h7 : ¬ (6 : Int) < xs.length := by omega
                    simp [isNon, tupLen, h6, h7] at k ⊢
                    exact k
                  · have h7 : (6 : Int) < xs.length := by omega
                    simp [isNon, tupLen, h6, h7] at k ⊢
                    exact k
          | _ => first | (exfalso; simp at hx'; done) | (rcases sq_cases hs with rfl | rfl <;> · simp [sRet, wAndV, wOrV, wNotV, wUn, wOp, wV, wB, wO, wC, wIfE, wTest, wTruth, wBand, wBor, wBnot, wChain, wSl, wPart, wTup, wLst, wCons, wNil, wCall, sIf, sSeq, sSet, sNew, sNext, sPass, sApp, sExt, sDrop, sAsg, gNm, gTp, gCs, gNl, startD, DS.put, wF, isaD, eqD, inSq, ixN, asFold] at k ⊢; exact k)
      · have h5 : ¬ (xs.length : Int) = 4 := by omega
        have e : asFold x = .non := by
          unfold asFold
          rw [hs]
          split
          · rename_i e
            cases e
            exact absurd rfl h4
          · rfl
        replace k : Kk (asFold x) := k
        rw [e] at k
        rcases sq_cases hs with rfl | rfl <;>
        · simp [sRet, wAndV, wOrV, wNotV, wUn, wOp, wV, wB, wO, wC, wIfE, wTest, wTruth, wBand, wBor, wBnot, wChain, wSl, wPart, wTup, wLst, wCons, wNil, wCall, sIf, sSeq, sSet, sNew, sNext, sPass, sApp, sExt, sDrop, sAsg, gNm, gTp, gCs, gNl, startD, DS.put, wF, isaD, eqD, inSq, h4, h5, xr] at k ⊢
          exact k⟩
end
end L31

set_option Elab.async false
set_option linter.all false
set_option maxRecDepth 100000
set_option maxHeartbeats 4000000
namespace L31
open PySem PySem.Spec PyProof.Rows L2 Q
def okFold (d : D) : Prop := ∃ (w : Str) (hd by' body : List D), d = .tup [.str w, .tup hd, .tup by', .tup body] ∧ okRow hd ∧ by'.all isLt = true ∧ by'.length ≤ 1000 ∧ (∀ p ∈ body, okPart p) ∧ body.length ≤ 1000
def looseF : D → List Str
  | .tup [_, h, .tup by', .tup body] => (looseP [h] body ++ (by'.map strOf).filter fun z => !decide (z ∈ lettersP (body.filter plainP))) ++ looseP (body.filter fun p => !plainP p) body
  | _ => []
def okf1 : List D → Prop := fun ds => ∃ x, ds = [x] ∧ okFold x
theorem looseP_len {ps body : List D} (h : ∀ p ∈ ps, okPart p) : (looseP ps body).length ≤ 6 * ps.length := Nat.le_trans (List.length_filter_le _ _) (lettersP_len h)
section
variable {P : Program} {w : World} {K : PySem.W.Frag} {mg : Str → Option Value} {base : Heap} {f : Addr} {fd : FuncData}
-- _loose_in_fold: slots 0 fold, 1 held, 2 found, 3 word, 4 head, 5 by, 6 body, 7 part, 8 letter
abbrev s_loose_in_fold : Stmt := (top 34)
abbrev N_sc_loose_in_fold : List Str := ["fold", "held", "found", "word", "head", "by", "body", "part", "letter"]
theorem sc_loose_in_fold : FnScope N_sc_loose_in_fold ["fold"] (defScope s_loose_in_fold) := ⟨rfl, rfl, rfl, by decide +kernel, rfl, by decide +kernel, by decide +kernel⟩
theorem ok_loose_in_fold (F : FnP K "_loose_in_fold" "_loose_in_fold" s_loose_in_fold f fd) (T : Tx K mg) (C_is_plain : Cal P w K mg base "is_plain" 1 ["part"] (spD K (wF okp1 fun ds => .bl (plainP (ds.headD .non)))))
    (C_letters_in : Cal P w K mg base "letters_in" 2 ["parts"] (spF K (wF oks fun ds => .lst ((lettersP ((sqOf (ds.headD .non)).getD [])).map .str))))
    (C_loose_letters : Cal P w K mg base "loose_letters" 3 ["parts", "body"] (spF K (wF oks2 fun ds => .lst ((looseP ((sqOf (ds.headD .non)).getD []) ((sqOf (ds.getD 1 .non)).getD [])).map .str)))) :
    FnOk P w K mg base CX0 4 f fd ["fold"] (spF K (wF okf1 fun ds => .lst ((looseF (ds.headD .non)).map .str))) :=
  FnF F sc_loose_in_fold (fun ds Kk h => by obtain ⟨⟨x, rfl, _⟩, _⟩ := h; rfl) fun cdv A outer s H Fz E hr => ⟨_, 
(ds_cons (ds_asg (de_v (i := 0)) (dg_tup (n := 4) (dgs_cons (dg_name (i := 3) sc_loose_in_fold.nd) (dgs_cons (dg_name (i := 4) sc_loose_in_fold.nd) (dgs_cons (dg_name (i := 5) sc_loose_in_fold.nd) (dgs_cons (dg_name (i := 6) sc_loose_in_fold.nd) dgs_nil))))))
 (ds_cons (ds_set (i := 1) sc_loose_in_fold.nd (FE.de (fe_call C_letters_in hr (da_cons (FE.de (fe_lc (own := [("part", 7)]) sc_loose_in_fold.nd (di_seq (de_v (i := 6))) (blkOk_by (own := [("part", 7)]) (N := N_sc_loose_in_fold) (sc := defScope s_loose_in_fold) (by decide +kernel)) (fun _ _ _ _ _ => (dg_name (i := 7) sc_loose_in_fold.nd)) (fun _ _ _ _ _ => (dts_one (dt_truth (de_call C_is_plain hr (da_cons (de_v (i := 7)) da_nil))))) (fun _ _ _ _ _ => (de_v (i := 7))))) da_nil))))
 (ds_cons (ds_new (i := 2) sc_loose_in_fold.nd (fe_call C_loose_letters hr (da_cons (FE.de (fe_lst (da_cons (de_v (i := 4)) da_nil))) (da_cons (de_v (i := 6)) da_nil))))
 (ds_cons (ds_ext (i := 2) (FE.de (fe_lc (own := [("letter", 8)]) sc_loose_in_fold.nd (di_seq (de_v (i := 5))) (blkOk_by (own := [("letter", 8)]) (N := N_sc_loose_in_fold) (sc := defScope s_loose_in_fold) (by decide +kernel)) (fun _ _ _ _ _ => (dg_name (i := 8) sc_loose_in_fold.nd)) (fun _ _ _ _ _ => (dts_one (dt_cm (c_ni hr) (de_v (i := 8)) (de_v (i := 1))))) (fun _ _ _ _ _ => (de_v (i := 8))))))
 (ds_cons (ds_ext (i := 2) (FE.de (fe_call C_loose_letters hr (da_cons (FE.de (fe_lc (own := [("part", 7)]) sc_loose_in_fold.nd (di_seq (de_v (i := 6))) (blkOk_by (own := [("part", 7)]) (N := N_sc_loose_in_fold) (sc := defScope s_loose_in_fold) (by decide +kernel)) (fun _ _ _ _ _ => (dg_name (i := 7) sc_loose_in_fold.nd)) (fun _ _ _ _ _ => (dts_one (dt_not (dt_truth (de_call C_is_plain hr (da_cons (de_v (i := 7)) da_nil)))))) (fun _ _ _ _ _ => (de_v (i := 7))))) (da_cons (de_v (i := 6)) da_nil)))))
 (ds_one (ds_retO (i := 2))))))))
  , fun ds Kk h => by
    obtain ⟨⟨x, rfl, w0, hd, by', body, rfl, oh, hb, lb, ob, lbo⟩, k⟩ := h
    replace k : Kk (.lst ((looseF (.tup [.str w0, .tup hd, .tup by', .tup body])).map .str)) := k
    simp only [sSeq, sSet, sNew, sNext, sPass, sRet, sIf, sApp, sExt, sDrop, sAsg, wIfE, wTest, wTruth, wBand, wBor, wBnot, wOp, wUn, wCall, wCons, wNil, wTup, wLst]
    refine ⟨_, rfl, _, rfl, rfl, _, _, rfl, _, _, rfl, _, _, rfl, _, _, rfl, rfl, ?_⟩
    have okB : ∀ q : D → Bool, ∀ p ∈ body.filter q, okPart p := fun q p hp => ob p (List.mem_filter.mp hp).1
    have lnB : ∀ q : D → Bool, (body.filter q).length ≤ 1000 := fun q => Nat.le_trans (List.length_filter_le _ _) lbo
    have ohd : okPart (.tup hd) := .inl ⟨hd, rfl, oh⟩
    have l1 : (looseP [.tup hd] body).length ≤ 6 := looseP_len fun p hp => by rw [List.mem_singleton.mp hp]; exact ohd
    have l2 : ((by'.map strOf).filter fun z => !decide (z ∈ lettersP (body.filter plainP))).length ≤ 1000 := by
      have h := List.length_filter_le (fun z => !decide (z ∈ lettersP (body.filter plainP))) (by'.map strOf)
      rw [List.length_map] at h
      omega
    have l3 : (looseP (body.filter fun p => !plainP p) body).length ≤ 6000 := by
      have h := looseP_len (body := body) (okB fun p => !plainP p)
      have := lnB fun p => !plainP p
      omega
    let mk : Option DV → Option DV → DS noR := fun a b => ⟨noG, [some (.fz (.tup [.str w0, .tup hd, .tup by', .tup body])), a, b, some (.fz (.str w0)), some (.fz (.tup hd)), some (.fz (.tup by')), some (.fz (.tup body)), none, none]⟩
    show wLc (wSq (wV 6)) (gNm 7) (wTruth (wCall (wF okp1 fun ds => D.bl (plainP (ds.headD D.non))) (wCons (wV 7) wNil))) (wV 7) [7] (mk none none) _
    refine wLc_filter (ds := body) (f := fun d => d) (p := plainP) (x := none) (fun K k => ⟨_, rfl, body, rfl, k⟩) (by omega) rfl (fun _ h => by cases h) (fun d hd K k => ⟨d, rfl, ⟨d, rfl, ob d hd⟩, _, rfl, k⟩) (fun d hd _ K k => ⟨d, rfl, k⟩) _ ?_
    rw [List.map_id']
    refine ⟨⟨_, body.filter plainP, rfl, rfl, lnB plainP, okB plainP⟩, ?_⟩
    refine ⟨_, rfl, by simp, _, rfl, ⟨_, _, [.tup hd], body, rfl, rfl, rfl, by simp, lbo, fun p hp => by rw [List.mem_singleton.mp hp]; exact ohd, ob⟩, ⟨_, rfl⟩, ?_⟩
    let hl : D := .lst ((lettersP (body.filter plainP)).map .str)
    show wLc (wSq (wV 5)) (gNm 8) (wTest (wOp (inD true) (wV 8) (wV 1))) (wV 8) [8] (mk (some (.fz hl)) (some (.own (.lst ((looseP [.tup hd] body).map .str))))) _
    refine wLc_fm (α := Str) (h := .str) (xs := by'.map strOf) (p := fun z => !decide (z ∈ lettersP (body.filter plainP))) (f := .str) (x := none) (fun K k => ⟨_, rfl, _, rfl, by rw [← lts_strs hb] at k; exact k⟩) (by rw [List.length_map]; omega) rfl (fun _ h => by cases h)
      (fun z hz K k => ⟨.str z, rfl, _, rfl, _, inD_strs true z (lettersP (body.filter plainP)), _, rfl, by
        have e : xr true (decide (z ∈ lettersP (body.filter plainP))) = !decide (z ∈ lettersP (body.filter plainP)) := by cases decide (z ∈ lettersP (body.filter plainP)) <;> rfl
        rw [e]
        exact k⟩) (fun z hz _ K k => ⟨.str z, rfl, k⟩) _ ?_
    refine ⟨_, _, rfl, rfl, by rw [List.length_map, List.length_map]; omega, ⟨_, rfl⟩, ?_⟩
    rw [← List.map_append]
    show wLc (wSq (wV 6)) (gNm 7) (wBnot (wTruth (wCall (wF okp1 fun ds => D.bl (plainP (ds.headD D.non))) (wCons (wV 7) wNil)))) (wV 7) [7] (mk (some (.fz hl)) (some (.own (.lst ((looseP [.tup hd] body ++ (by'.map strOf).filter fun z => !decide (z ∈ lettersP (body.filter plainP))).map .str))))) _
    refine wLc_filter (ds := body) (f := fun d => d) (p := fun p => !plainP p) (x := none) (fun K k => ⟨_, rfl, body, rfl, k⟩) (by omega) rfl (fun _ h => by cases h) (fun d hd K k => ⟨d, rfl, ⟨d, rfl, ob d hd⟩, _, rfl, k⟩) (fun d hd _ K k => ⟨d, rfl, k⟩) _ ?_
    rw [List.map_id']
    refine ⟨_, rfl, ⟨_, _, body.filter fun p => !plainP p, body, rfl, rfl, rfl, lnB _, lbo, okB _, ob⟩, ?_⟩
    refine ⟨_, _, rfl, rfl, by rw [List.length_map, List.length_map, List.length_append]; show _ + _ + (looseP (body.filter fun p => !plainP p) body).length ≤ _; omega, _, rfl, ?_⟩
    rw [← List.map_append]
    exact k⟩
end
end L31

set_option Elab.async false
set_option linter.all false
set_option maxRecDepth 100000
set_option maxHeartbeats 4000000
namespace L31
open PySem PySem.Spec PyProof.Rows L2 Q
/-- what the checking of folds comes to -/
def foldsRes (CB CU : Addr) (x : D) (Kk : D → Prop) (Xk : XW) : Prop := match sqOf x with
  | none => Xk CB ["index"] [.int 0]
  | some xs => match xs.findIdx? fun t => isNon (asFold t) with
    | some i => Xk CB ["index"] [.int i]
    | none => match xs.findIdx? fun t => !(looseF (asFold t)).isEmpty with
      | some i => Xk CU ["letter", "index"] [.str ((looseF (asFold (xs.getD i .non))).headD ""), .int i]
      | none => Kk (.tup (xs.map asFold))
/-- of moderate size for the folds -/
def smallF (d : D) : Prop := ∀ w hd by' body, asFold d = .tup [.str w, .tup hd, .tup by', .tup body] → by'.length ≤ 1000 ∧ body.length ≤ 1000
def mFolds (CB CU : Addr) : WMX := fun ds Kk Xk => ∃ x, ds = [x] ∧ tmB x = true ∧ (∀ xs, sqOf x = some xs → xs.length ≤ 1000 ∧ ∀ t ∈ xs, smallF t) ∧ foldsRes CB CU x Kk Xk
theorem asFold_cases (d : D) (s : smallF d) : asFold d = .non ∨ okFold (asFold d) := by
  by_cases hn : asFold d = .non
  · exact .inl hn
  · right
    have : ∃ w hd by' body, asFold d = .tup [.str w, .tup hd, .tup by', .tup body] ∧ okRow hd ∧ by'.all isLt = true ∧ ∀ p ∈ body, okPart p := by
      unfold asFold at hn ⊢
      split
      · rename_i w h b p hs
        simp only [hs] at hn
        split
        · rename_i hc
          simp only [Bool.and_eq_true] at hc
          rcases asAtom_cases h with h1 | ⟨xs, _, r1, r2, h1⟩
          · rw [h1] at hc; simp [isNon] at hc
          · rcases asBy_cases b with h2 | ⟨ys, _, _, y2, _, h2⟩
            · rw [h2] at hc; simp [isNon] at hc
            · rcases asBody_cases p with h3 | ⟨zs, _, z2, h3⟩
              · rw [h3] at hc; simp [isNon] at hc
              · rw [h1, h2, h3]
                exact ⟨w, xs, ys, _, rfl, okRow_of r1 r2, y2, fun q hq => by
                  obtain ⟨z, hz, rfl⟩ := List.mem_map.mp hq
                  exact z2 z hz⟩
        · rename_i hc
          rw [if_neg hc] at hn
          exact absurd rfl hn
      · rename_i hs
        split at hn
        · rename_i hs2
          exact absurd hs2 (hs _ _ _ _)
        · exact absurd rfl hn
    obtain ⟨w, hd, by', body, e, h1, h2, h3⟩ := this
    obtain ⟨s1, s2⟩ := s w hd by' body e
    exact ⟨w, hd, by', body, e, h1, h2, s1, h3, s2⟩
section
variable {P : Program} {w : World} {K : PySem.W.Frag} {mg : Str → Option Value} {base : Heap} {f : Addr} {fd : FuncData}
-- _checked_folds: slots 0 folds, 1 kept, 2 index, 3 thing, 4 fold, 5 loose
abbrev s_checked_folds : Stmt := (top 35)
abbrev N_sc_checked_folds : List Str := ["folds", "kept", "index", "thing", "fold", "loose"]
theorem sc_checked_folds : FnScope N_sc_checked_folds ["folds"] (defScope s_checked_folds) := ⟨rfl, rfl, rfl, by decide +kernel, rfl, by decide +kernel, by decide +kernel⟩
theorem ok_checked_folds {CB CU : Addr} (F : FnP K "_checked_folds" "_checked_folds" s_checked_folds f fd) (T : Tx K mg) (C__as_fold : Cal P w K mg base "_as_fold" 8 ["thing"] (spD K (wF tmd1 fun ds => asFold (ds.headD .non))))
    (C__loose_in_fold : Cal P w K mg base "_loose_in_fold" 4 ["fold"] (spF K (wF okf1 fun ds => .lst ((looseF (ds.headD .non)).map .str)))) (T_BadFold : ExCl P w K mg base "BadFold" CB 1 ["index"]) (T_Unsafe : ExCl P w K mg base "Unsafe" CU 1 ["index", "letter"]) :
    FnOk P w K mg base (L2.CX P w) 9 f fd ["folds"] (spX K (mFolds CB CU)) :=
  FnX F sc_checked_folds (fun ds Kk Xk h => by obtain ⟨x, rfl, _⟩ := h; rfl) fun cdv A outer s H Fz E Xk hr fit => ⟨_, 
(ds_cons (ds_if (dt_not (dt_truth (de_isN T.b_isinstance (tns_cons (TyN.mk (t := .list) (by rfl) T.b_list (by decide +kernel) (by decide) (by decide)) (tns_cons (TyN.mk (t := .tuple) (by rfl) T.b_tuple (by decide +kernel) (by decide) (by decide)) tns_nil)) (de_v (i := 0))))) (ds_one (ds_raise T_BadFold takes_body fit (hr.mono (by decide)) (da_cons de_int da_nil))) ds_nil)
 (ds_cons (ds_new (i := 1) sc_checked_folds.nd (fe_lst da_nil))
 (ds_cons (ds_for (hp := own_body) (di_enumA T.b_enumerate (de_v (i := 0))) (dg_tup (n := 2) (dgs_cons (dg_name (i := 2) sc_checked_folds.nd) (dgs_cons (dg_name (i := 3) sc_checked_folds.nd) dgs_nil)))
  (ds_cons (ds_set (i := 4) sc_checked_folds.nd (de_call C__as_fold hr (da_cons (de_v (i := 3)) da_nil)))
 (ds_cons (ds_if (dt_cm c_is (de_v (i := 4)) de_non) (ds_one (ds_raise T_BadFold takes_body fit (hr.mono (by decide)) (da_cons (de_v (i := 2)) da_nil))) ds_nil)
 (ds_one (ds_app (i := 1) (de_v (i := 4)))))))
 (ds_cons (ds_for (hp := own_body) (di_enumA T.b_enumerate (de_o (i := 1))) (dg_tup (n := 2) (dgs_cons (dg_name (i := 2) sc_checked_folds.nd) (dgs_cons (dg_name (i := 4) sc_checked_folds.nd) dgs_nil)))
  (ds_cons (ds_set (i := 5) sc_checked_folds.nd (FE.de (fe_call C__loose_in_fold hr (da_cons (de_v (i := 4)) da_nil))))
 (ds_one (ds_if (dt_truth (de_v (i := 5))) (ds_one (ds_raise T_Unsafe takes_body fit (hr.mono (by decide)) (da_cons (de_v (i := 2)) (da_cons (de_ixA (de_v (i := 5)) de_int) da_nil)))) ds_nil))))
 (ds_one (ds_ret (de_tuple T.b_tuple (de_b (i := 1)))))))))
  , fun ds Kk h => by
    obtain ⟨x, rfl, hx, hsm, k⟩ := h
    unfold foldsRes at k
    cases hs : sqOf x with
    | none =>
      rw [hs] at k
      have hi : isaD [.list, .tuple] x = some (.bl false) := by cases x <;> simp at hs hx <;> simp [isaD]
      exact ⟨_, rfl, _, hi, false, rfl, itT ⟨rfl, k⟩⟩
    | some xs =>
      simp only [hs] at k
      obtain ⟨hz, hsm⟩ := hsm xs hs
      have hx' := tmBs_iff.mp (sq_tms hs hx)
      have hi : isaD [.list, .tuple] x = some (.bl true) := by rcases sq_cases hs with rfl | rfl <;> simp [isaD]
      refine ⟨_, rfl, _, hi, true, rfl, itF ?_⟩
      refine ⟨by simp, ?_⟩
      let mk : List D → Option DV → Option DV → Option DV → Option DV → DS noR := fun ks x2 x3 x4 x5 => ⟨noG, [some (.fz x), some (.own (.lst ks)), x2, x3, x4, x5]⟩
      refine ⟨x, rfl, xs, by rcases sq_cases hs with h | h <;> simp [h], ?_⟩
      refine forGo_ind (fun rest ρ => ∃ j x2 x3 x4, j ≤ xs.length ∧ rest = enumD j (xs.drop j) ∧ (∀ t ∈ xs.take j, isNon (asFold t) = false) ∧ ρ = mk ((xs.take j).map asFold) x2 x3 x4 none) ?_ ?_ _ _ ⟨0, none, none, none, Nat.zero_le _, rfl, (fun t h => nomatch h), rfl⟩
      · rintro d rest N ρ hN ⟨j, x2, x3, x4, hj, hr, hd, rfl⟩
        by_cases hlt : j < xs.length
        · rw [List.drop_eq_getElem_cons hlt] at hr
          obtain ⟨rfl, rfl⟩ : d = .tup [.int (j : Nat), xs[j]] ∧ rest = enumD (j + 1) (xs.drop (j + 1)) := by
            have h1 : d :: rest = .tup [.int (j : Nat), xs[j]] :: enumD (j + 1) (xs.drop (j + 1)) := hr
            exact ⟨(List.cons.inj h1).1, (List.cons.inj h1).2⟩
          have hm : xs[j] ∈ xs := List.getElem_mem hlt
          refine ⟨_, rfl, rfl, _, _, rfl, _, _, rfl, rfl, ?_⟩
          refine ⟨_, rfl, ⟨_, rfl, hx' _ hm⟩, ?_⟩
          rcases asFold_cases xs[j] (hsm _ hm) with h | h
          · refine ⟨asFold xs[j], rfl, .bl true, by rw [h]; rfl, true, rfl, itT ⟨_, rfl, rfl, ?_⟩⟩
            have hf : (xs.findIdx? fun t => isNon (asFold t)) = some j := by
              rw [List.findIdx?_eq_some_iff_getElem]
              refine ⟨hlt, by rw [h]; rfl, fun i hi => ?_⟩
              have := hd xs[i] (by rw [List.mem_take_iff_getElem]; exact ⟨i, by omega, rfl⟩)
              rw [this]
              decide
            simp only [hf] at k
            exact k
          · have hnn : isNonD (asFold xs[j]) = some false := by
              obtain ⟨w0, hd0, by0, body0, e, _⟩ := h
              rw [e]; rfl
            refine ⟨asFold xs[j], rfl, .bl false, by simp [hnn, xr], false, rfl, itF ?_⟩
            refine ⟨⟨_, rfl⟩, asFold xs[j], rfl, _, rfl, by rw [List.length_map, List.length_take]; omega, hN _ ⟨j + 1, some (.fz (.int (j : Nat))), some (.fz xs[j]), some (.fz (asFold xs[j])), hlt, rfl, fun t ht => ?_, ?_⟩⟩
            · rw [List.take_succ_eq_append_getElem hlt] at ht
              rcases List.mem_append.mp ht with q | q
              · exact hd t q
              · rw [List.mem_singleton.mp q]
                obtain ⟨w0, hd0, by0, body0, e, _⟩ := h
                rw [e]; rfl
            · rw [List.take_succ_eq_append_getElem hlt, List.map_append]
              rfl
        · rw [List.drop_eq_nil_of_le (by omega)] at hr
          cases hr
      · rintro ρ ⟨j, x2, x3, x4, hj, hr, hd, rfl⟩
        have hj2 : ¬ j < xs.length := fun hlt => by
          rw [List.drop_eq_getElem_cons hlt] at hr
          cases hr
        have ej : xs.take j = xs := List.take_of_length_le (by omega)
        rw [ej] at hd ⊢
        have hf : (xs.findIdx? fun t => isNon (asFold t)) = none := by
          rw [List.findIdx?_eq_none_iff]
          exact hd
        simp only [hf] at k
        have hok : ∀ t ∈ xs, okFold (asFold t) := fun t ht => by
          rcases asFold_cases t (hsm t ht) with h | h
          · have := hd t ht
            rw [h] at this
            cases this
          · exact h
        refine .inr ⟨_, rfl, _, .inl rfl, ?_⟩
        let mk2 : Option DV → Option DV → Option DV → Option DV → DS noR := fun x2 x3 x4 x5 => ⟨noG, [some (.fz x), some (.fz (.lst (xs.map asFold))), x2, x3, x4, x5]⟩
        refine forGo_ind (fun rest ρ => ∃ j x2 x4 x5, j ≤ xs.length ∧ rest = enumD j ((xs.map asFold).drop j) ∧ (∀ t ∈ xs.take j, (looseF (asFold t)).isEmpty = true) ∧ ρ = mk2 x2 x3 x4 x5) ?_ ?_ _ _ ⟨0, x2, x4, none, Nat.zero_le _, rfl, (fun t h => nomatch h), rfl⟩
        · rintro d rest N ρ hN ⟨j, y2, y4, y5, hj, hr, hd2, rfl⟩
          by_cases hlt : j < xs.length
          · have hlt' : j < (xs.map asFold).length := by rw [List.length_map]; exact hlt
            rw [List.drop_eq_getElem_cons hlt'] at hr
            have em : (xs.map asFold)[j] = asFold xs[j] := List.getElem_map ..
            rw [em] at hr
            obtain ⟨rfl, rfl⟩ : d = .tup [.int (j : Nat), asFold xs[j]] ∧ rest = enumD (j + 1) ((xs.map asFold).drop (j + 1)) := by
              have h1 : d :: rest = .tup [.int (j : Nat), asFold xs[j]] :: enumD (j + 1) ((xs.map asFold).drop (j + 1)) := hr
              exact ⟨(List.cons.inj h1).1, (List.cons.inj h1).2⟩
            have hm : xs[j] ∈ xs := List.getElem_mem hlt
            refine ⟨_, rfl, rfl, _, _, rfl, _, _, rfl, rfl, ?_⟩
            refine ⟨_, rfl, ⟨_, rfl, hok _ hm⟩, ?_⟩
            refine ⟨_, rfl, !(looseF (asFold xs[j])).isEmpty, by show some (!((looseF (asFold xs[j])).map D.str).isEmpty) = _; rw [List.isEmpty_map], ?_⟩
            cases he : looseF (asFold xs[j]) with
            | nil =>
              have : (!(looseF (asFold xs[j])).isEmpty) = false := by rw [he]; rfl
              refine itF (hN _ ⟨j + 1, _, _, _, hlt, rfl, fun t ht => ?_, rfl⟩)
              rw [List.take_succ_eq_append_getElem hlt] at ht
              rcases List.mem_append.mp ht with q | q
              · exact hd2 t q
              · rw [List.mem_singleton.mp q, he]; rfl
            | cons z zs =>
              refine itT ⟨_, rfl, .lst ((z :: zs).map .str), congrArg (fun q : List Str => some (some (DV.fz (.lst (q.map .str))))) he, .str z, by simp [ixN], rfl, ?_⟩
              have hf2 : (xs.findIdx? fun t => !(looseF (asFold t)).isEmpty) = some j := by
                rw [List.findIdx?_eq_some_iff_getElem]
                refine ⟨hlt, by rw [he]; rfl, fun i hi => ?_⟩
                have := hd2 xs[i] (by rw [List.mem_take_iff_getElem]; exact ⟨i, by omega, rfl⟩)
                rw [this]
                decide
              simp only [hf2] at k
              have eg : xs.getD j .non = xs[j] := by rw [List.getD_eq_getElem?_getD, List.getElem?_eq_getElem hlt]; rfl
              simp only [eg, he] at k
              exact k
          · rw [List.drop_eq_nil_of_le (by rw [List.length_map]; omega)] at hr
            cases hr
        · rintro ρ ⟨j, y2, y4, y5, hj, hr, hd2, rfl⟩
          have hj2 : ¬ j < xs.length := fun hlt => by
            rw [List.drop_eq_getElem_cons (by rw [List.length_map]; exact hlt)] at hr
            cases hr
          have ej : xs.take j = xs := List.take_of_length_le (by omega)
          rw [ej] at hd2
          have hf2 : (xs.findIdx? fun t => !(looseF (asFold t)).isEmpty) = none := by
            rw [List.findIdx?_eq_none_iff]
            intro t ht
            rw [hd2 t ht]
            rfl
          simp only [hf2] at k
          exact .inl ⟨_, rfl, _, rfl, k⟩⟩
end
end L31

set_option Elab.async false
set_option linter.all false
set_option maxRecDepth 100000
set_option maxHeartbeats 4000000
namespace L31
open PySem PySem.Spec PyProof.Rows L2 Q
/-! ### operators of either kind -/
section
variable {X : Cx}
theorem op_eqX (hu : X.A.units + 64 < cLine) : OpR X (compareOp .Eq) (fun x y H Q => rEq x y H Q ∨ rEqD X.K x y H Q) := op_eq.or (op_eqD hu)
theorem op_neX (hu : X.A.units + 64 < cLine) : OpR X (compareOp .NotEq) (fun x y H Q => rNe x y H Q ∨ rNeD X.K x y H Q) := op_ne.or (op_neD hu)
def rAddI : R2 := rI0 fun i j => .int (i + j)
def rAddX : R2 := fun x y H Q => rAddI x y H Q ∨ rCat x y H Q
theorem op_addX : OpR X (binaryOp .Add) rAddX := op_add.or op_cat
end
section
variable {P : Program} {w : World} {K : PySem.W.Frag} {mg : Str → Option Value} {base : Heap} {f : Addr} {fd : FuncData}
-- _law_start: slots 0 _law_script
abbrev s_L_start : Stmt := (top 38)
abbrev N_sc_L_start : List Str := ["_law_script"]
theorem sc_L_start : FnScope N_sc_L_start ["_law_script"] (defScope s_L_start) := ⟨rfl, rfl, rfl, by decide +kernel, rfl, by decide +kernel, by decide +kernel⟩
theorem ok_start (F : FnP K "_law_start" "_law_start" s_L_start f fd) (T : Tx K mg) : FnOk P w K mg base CX0 1 f fd ["_law_script"] (spStart K) := by
  refine F.ok sc_L_start (fun vs H Q E h => ?_) (fun cdv A outer s H vs Q E hr h => ?_)
  · obtain ⟨a, ns, rfl, _⟩ := h
    rfl
  · obtain ⟨a, ns, rfl, hS, hl, k⟩ := h
    refine ⟨_, PSs.nox (pss_one (ps_ret (pe_lst (pa_cons (pe_callTy call_list_of (by rfl) T.b_list (by decide +kernel) (pa_cons (pv 0) pa_nil)) (pa_cons pe_int (pa_cons pe_int (pa_cons pe_int pa_nil))))))), ?_⟩
    refine ⟨_, rfl, a, _, rfl, .inl hS, fun L hL => ?_⟩
    refine ⟨(by show 4 ≤ sizeLine; decide), fun st hst => ?_⟩
    have ne : st ≠ L := fun e => by rw [e, upd_same] at hst; cases hst
    have hst0 : H st = none := by rw [upd_ne ne] at hst; exact hst
    have hL0 : H L = none := hL
    refine k _ st L (fun b o e => ?_) ⟨ne, 0, 0, 11, ns, upd_same, ?_, hl, by decide, by decide, by decide, by decide, by decide⟩ hst0 hL0
    · have n1 := ne_of_none e hst0
      have n2 := ne_of_none e hL
      exact dat_of (by rw [upd_ne n1, upd_ne n2]; exact e) n1 n2
    · rw [upd_ne ne.symm, upd_same]
end
theorem ixL {K : PySem.W.Frag} {H : Hp} {p : Addr} {xs : List V} {i : Int} {v : V} {Q : VK} (h : SqL K H p xs) (ha : atI xs i = some v) (q : Q v H) : rIx K (.ref p) (.int i) H Q :=
  .inl ⟨p, xs, i, v, rfl, rfl, h, ha, q⟩
theorem ixLH {K : PySem.W.Frag} {H : Hp} {p : Addr} {xs : List V} {i : Int} {v : V} {Q : VK} (h : H p = some (.lst xs)) (ha : atI xs i = some v) (q : Q v H) : rIx K (.ref p) (.int i) H Q := ixL (SqL.of h) ha q
theorem addI {i j : Int} {H : Hp} {Q : VK} (q : Q (.int (i + j)) H) : rAddX (.int i) (.int j) H Q := .inl ⟨i, j, rfl, rfl, q⟩
theorem setLH {H : Hp} {p : Addr} {xs : List V} {k : Int} {j : Nat} {v : V} {Q : Hp → Prop} (ys : List V) (h : H p = some (.lst xs)) (hj : ixN xs.length k = some j) (hy : xs.set j v = ys) (q : Q (upd H p (.lst ys))) : rSetL (.ref p) (.int k) v H Q :=
  ⟨p, xs, k, j, rfl, rfl, h, hj, by rw [hy]; exact q⟩
theorem eqS {K : PySem.W.Frag} {x y : V} {H : Hp} {Q : VK} (h : scal x y = true) (q : Q (.bl (decide (x = y))) H) : rEq x y H Q ∨ rEqD K x y H Q := .inl ⟨h, q⟩
/-- all of the stream's heap but the stream -/
theorem dat_same {st L : Addr} {H H' : Hp} (h : ∀ b, b ≠ st → b ≠ L → H b ≠ none → H' b = H b) : Same (dat st L H) (dat st L H') := fun b o e => by
  obtain ⟨e1, n1, n2⟩ := dat_sub e
  exact dat_of (by rw [h b n1 n2 (by rw [e1]; exact fun z => by cases z)]; exact e1) n1 n2
theorem dat_upd_st {st L : Addr} {H : Hp} {o : HO} : Same (dat st L H) (dat st L (upd H st o)) := dat_same fun b n1 _ _ => upd_ne n1
theorem dat_upd_L {st L : Addr} {H : Hp} {o : HO} : Same (dat st L H) (dat st L (upd H L o)) := dat_same fun b _ n2 _ => upd_ne n2
theorem dat_upd_new {st L p : Addr} {H : Hp} {o : HO} (h : H p = none) : Same (dat st L H) (dat st L (upd H p o)) := dat_same fun b _ _ n => upd_ne fun e => n (by rw [e]; exact h)
theorem dpAll_ints {K : PySem.W.Frag} {H : Hp} : ∀ cs : List Int, DpAll K H (cs.map V.int) (cs.map PyData.int)
  | [] => .nil
  | c :: cs => .cons (.int c) (dpAll_ints cs)
theorem canLay_ints : ∀ cs : List Int, PyData.canLayAll0 (cs.map PyData.int) = true
  | [] => rfl
  | c :: cs => by
    show (PyData.canLay0 (.int c) && PyData.canLayAll0 (cs.map PyData.int)) = true
    rw [canLay_ints cs]
    simp [PyData.canLay0]
theorem depth_ints : ∀ cs : List Int, PyData.depthAll (cs.map PyData.int) = 0
  | [] => rfl
  | c :: cs => by
    show max (PyData.depth (.int c)) (PyData.depthAll (cs.map PyData.int)) = 0
    rw [depth_ints cs]
    simp [PyData.depth]
theorem shaped_of {d : PyData} (h : d.canLay0 = true) (h2 : d.depth ≤ 64) : SeqAt.shaped d = true := by
  unfold SeqAt.shaped
  rw [h, decide_eq_true h2]
  rfl
theorem shaped_ints (cs : List Int) : SeqAt.shaped (.list (cs.map PyData.int)) = true :=
  shaped_of (by simp only [PyData.canLay0]; exact canLay_ints cs) (by simp only [PyData.depth]; rw [depth_ints]; decide)
theorem eqv_nil_ints (cs : List Int) : PyData.eqv (.list (cs.map PyData.int)) (.list []) = cs.isEmpty := by
  cases cs <;> rfl
/-- xs != [], ints -/
theorem neNil {K : PySem.W.Frag} {a b : Addr} {cs : List Int} {H : Hp} {Q : VK} (ha : SqL K H a (cs.map V.int)) (hb : SqL K H b []) (q : Q (.bl (!cs.isEmpty)) H) : rNe (.ref a) (.ref b) H Q ∨ rNeD K (.ref a) (.ref b) H Q :=
  .inr ⟨.list (cs.map PyData.int), .list [], .lst ha (dpAll_ints cs), .lst hb .nil, shaped_ints cs, rfl, by rw [eqv_nil_ints]; exact q⟩
section
variable {P : Program} {w : World} {K : PySem.W.Frag} {mg : Str → Option Value} {base : Heap} {f : Addr} {fd : FuncData}
-- _law_draw: slots 0 _law_stream, 1 _law_many, 2 _law_mixed_here, 3 _law_cell, 4 _law_digit
abbrev s_L_draw : Stmt := (top 39)
abbrev N_sc_L_draw : List Str := ["_law_stream", "_law_many", "_law_mixed_here", "_law_cell", "_law_digit"]
theorem sc_L_draw : FnScope N_sc_L_draw ["_law_stream", "_law_many"] (defScope s_L_draw) := ⟨rfl, rfl, rfl, by decide +kernel, rfl, by decide +kernel, by decide +kernel⟩
/-- the stream with its numbers told -/
structure Sm1 (st L : Addr) (cell n seed : Int) (cs : List Int) (H : Hp) : Prop where
  a : H st = some (.lst [.ref L, .int cell, .int n, .int seed])
  b : H L = some (.lst (cs.map V.int))
theorem Sm1.put {st L : Addr} {cell n seed cell' n' seed' : Int} {cs : List Int} {H : Hp} (h : Sm1 st L cell n seed cs H) (ne : st ≠ L) : Sm1 st L cell' n' seed' cs (upd H st (.lst [.ref L, .int cell', .int n', .int seed'])) :=
  ⟨upd_same, by rw [upd_ne ne.symm]; exact h.b⟩
theorem pw {x : Int} {j : Int} (hj : 0 ≤ j ∧ j ≤ 1000000) (h0 : 0 ≤ x) (h1 : x < 1000000000000000000) : CPow x j :=
  ⟨hj.1, hj.2, by
    have h2 : x.natAbs < 1000000000000000000 := by omega
    exact Nat.lt_trans h2 (by decide)⟩
theorem at4_0 {a b c d : V} : atI [a, b, c, d] 0 = some a := rfl
theorem at4_1 {a b c d : V} : atI [a, b, c, d] 1 = some b := rfl
theorem at4_2 {a b c d : V} : atI [a, b, c, d] 2 = some c := rfl
theorem at4_3 {a b c d : V} : atI [a, b, c, d] 3 = some d := rfl
theorem ok_draw (F : FnP K "_law_draw" "_law_draw" s_L_draw f fd) (T : Tx K mg) : FnOk P w K mg base CX0 1 f fd ["_law_stream", "_law_many"] spDraw := by
  refine F.ok sc_L_draw (fun vs H Q E h => ?_) (fun cdv A outer s H vs Q E hr h => ?_)
  · obtain ⟨st, L, c, m, rfl, _⟩ := h
    rfl
  · obtain ⟨st, L, c, m, rfl, ⟨ne, cell, n, seed, cs, hst, hL, h63, hc0, hn0, hnc, hs0, hs1⟩, hc, hm0, hm1, k⟩ := h
    refine ⟨_, PSs.nox (pss_cons (ps_asg (pe_op op_addX (pe_ix ix_seq (pv 0) pe_int (fun _ _ => rfl)) pe_int) (pg_sub (pv 0) pe_int set_list))
 (C8.pss_cut (ps_if (PW.pt (pw_and (pt_cmpR (op_eqX hr.units) (pe_ix ix_seq (pv 0) pe_int (fun _ _ => rfl)) pe_int (nomark _)) (pw_and1 (pt_cmpR (op_neX hr.units) (pe_ix ix_seq (pv 0) pe_int (fun _ _ => rfl)) (pe_lst pa_nil) (nomark _))))) (pss_cons (ps_set (i := 3) sc_L_draw.nd rfl (by first | exact Or.inl rfl | exact Or.inr rfl) (pe_bm PySem.F.plainAttrs_list PySem.F.slot_list_pop PySem.F.type_list_pop mt_popAt (pe_ix ix_seq (pv 0) pe_int (fun _ _ => rfl)) (pa_cons pe_int pa_nil)))
 (pss_cons (ps_asg (pe_op op_mod (pe_callTy call_int1 (by rfl) T.b_int (by decide +kernel) (pa_cons (pe_op op_addX (pe_op op_addX (pe_op op_mul (pe_ix ix_seq (pv 0) pe_int (fun _ _ => rfl)) pe_int) (pv 3)) pe_int) pa_nil)) pe_int) (pg_sub (pv 0) pe_int set_list))
 (pss_one (ps_asg (pe_ifExp (pt_cmpR op_ge (pv 3) (pe_op op_pow pe_int pe_int) (nomark _)) (pv 3) pe_int) (pg_sub (pv 0) pe_int set_list))))) pss_nil)
 (pss_cons (ps_if (pt_cmpR op_gt (pe_ix ix_seq (pv 0) pe_int (fun _ _ => rfl)) pe_int (nomark _)) (pss_cons (ps_set (i := 4) sc_L_draw.nd rfl (by first | exact Or.inl rfl | exact Or.inr rfl) (pe_op op_mod (pe_callTy call_int1 (by rfl) T.b_int (by decide +kernel) (pa_cons (pe_ix ix_seq (pv 0) pe_int (fun _ _ => rfl)) pa_nil)) (pv 1)))
 (pss_cons (ps_asg (pe_op op_fdiv (pe_ix ix_seq (pv 0) pe_int (fun _ _ => rfl)) (pv 1)) (pg_sub (pv 0) pe_int set_list))
 (pss_one (ps_ret (pv 4))))) pss_nil)
 (pss_cons (ps_set (i := 2) sc_L_draw.nd rfl (by first | exact Or.inl rfl | exact Or.inr rfl) (pe_op op_mod (pe_callTy call_int1 (by rfl) T.b_int (by decide +kernel) (pa_cons (pe_op op_pow (pe_op op_addX (pe_op op_addX (pe_ix ix_seq (pv 0) pe_int (fun _ _ => rfl)) (pe_op op_mul pe_int (pe_ix ix_seq (pv 0) pe_int (fun _ _ => rfl)))) pe_int) pe_int) pa_nil)) pe_int))
 (pss_one (ps_ret (pe_op op_mod (pe_op op_mod (pe_callTy call_int1 (by rfl) T.b_int (by decide +kernel) (pa_cons (pe_op op_pow (pe_op op_addX (pe_op op_addX (pe_op op_mul (pv 2) pe_int) (pe_op op_mul pe_int (pe_ix ix_seq (pv 0) pe_int (fun _ _ => rfl)))) pe_int) pe_int) pa_nil)) pe_int) (pv 1)))))))), ?_⟩
    refine ⟨_, rfl, ixLH hst at4_2 (addI ⟨_, rfl, setLH [.ref L, .int cell, .int (n + 1), .int seed] hst rfl rfl ?_⟩)⟩
    have s1 : Sm1 st L cell (n + 1) seed cs (upd H st (.lst [.ref L, .int cell, .int (n + 1), .int seed])) := Sm1.put ⟨hst, hL⟩ ne
    have d1 : Same (dat st L H) (dat st L (upd H st (.lst [.ref L, .int cell, .int (n + 1), .int seed]))) := dat_upd_st
    generalize upd H st (.lst [.ref L, .int cell, .int (n + 1), .int seed]) = H1 at s1 d1 ⊢
    refine ⟨fun σ' H' => ∃ (cell1 seed1 : Int) (cs1 : List Int) (x3 : Option V), σ' = [some (.ref st), some (.int m), none, x3, none] ∧ Same (dat st L H) (dat st L H') ∧ Sm1 st L cell1 (n + 1) seed1 cs1 H' ∧ cs1.length ≤ 63 ∧ 0 ≤ cell1 ∧ 0 ≤ seed1 ∧ seed1 < 2147483647, ?_, ?_⟩
    · refine ⟨_, rfl, ixLH s1.a at4_1 (eqS rfl ⟨_, rfl, ?_⟩)⟩
      refine ite2 (fun c0 => ?_) (fun c0 => ?_)
      · refine ⟨_, rfl, ixLH s1.a at4_0 ⟨Nat.zero_le _, fun p hp => neNil (SqL.of (by rw [upd_ne (ne_of_none s1.b hp)]; exact s1.b)) (SqL.of upd_same) ⟨_, rfl, ?_⟩⟩⟩
        have np1 := ne_of_none s1.a hp
        have np2 := ne_of_none s1.b hp
        have s3 : Sm1 st L cell (n + 1) seed cs (upd H1 p (.lst [])) := ⟨by rw [upd_ne np1]; exact s1.a, by rw [upd_ne np2]; exact s1.b⟩
        have d3 : Same (dat st L H) (dat st L (upd H1 p (.lst []))) := d1.trans (dat_upd_new hp)
        generalize upd H1 p (.lst []) = H3 at s3 d3 ⊢
        cases cs with
        | nil => exact ⟨cell, seed, [], _, rfl, d3, s3, h63, hc0, hs0, hs1⟩
        | cons z cs =>
          refine iteT ?_
          refine ⟨_, rfl, ixLH s3.a at4_0 ⟨.inl ⟨rfl, _, SqL.of s3.b⟩, L, _, 0, 0, .int z, rfl, rfl, s3.b, by decide, by decide, ?_, rfl, ?_⟩⟩
          · show seqIndex? 0 ((V.int z :: cs.map V.int).length) = some 0
            unfold seqIndex?
            simp
          have s4 : Sm1 st L cell (n + 1) seed cs (upd H3 L (.lst (cs.map V.int))) := ⟨by rw [upd_ne ne]; exact s3.a, upd_same⟩
          have d4 : Same (dat st L H) (dat st L (upd H3 L (.lst (cs.map V.int)))) := d3.trans dat_upd_L
          show tSeq _ _ _ _ (upd H3 L (.lst (cs.map V.int)))
          generalize upd H3 L (.lst (cs.map V.int)) = H4 at s4 d4 ⊢
          -- stream[3] = int(stream[3] * 8191 + cell + 3) % 2147483647
          refine ⟨_, rfl, ixLH s4.a at4_3 ⟨_, _, rfl, rfl, .inl ⟨by omega, by omega⟩, _, rfl, addI (addI (.inl ⟨_, rfl, _, _, rfl, rfl, (by show (0 : Int) < 2147483647; decide), _, rfl, setLH [.ref L, .int cell, .int (n + 1), .int ((seed * 8191 + z + 3) % 2147483647)] s4.a rfl rfl ?_⟩))⟩⟩
          have s5 : Sm1 st L cell (n + 1) ((seed * 8191 + z + 3) % 2147483647) cs (upd H4 st (.lst [.ref L, .int cell, .int (n + 1), .int ((seed * 8191 + z + 3) % 2147483647)])) := s4.put ne
          have d5 : Same (dat st L H) (dat st L (upd H4 st (.lst [.ref L, .int cell, .int (n + 1), .int ((seed * 8191 + z + 3) % 2147483647)]))) := d4.trans dat_upd_st
          generalize upd H4 st (.lst [.ref L, .int cell, .int (n + 1), .int ((seed * 8191 + z + 3) % 2147483647)]) = H5 at s5 d5 ⊢
          have hs2 : 0 ≤ (seed * 8191 + z + 3) % 2147483647 := Int.emod_nonneg _ (by decide)
          have hs3 : (seed * 8191 + z + 3) % 2147483647 < 2147483647 := Int.emod_lt_of_pos _ (by decide)
          generalize (seed * 8191 + z + 3) % 2147483647 = seed5 at s5 hs2 hs3 ⊢
          -- stream[1] = cell if cell >= 10 ** 18 else 0
          refine ⟨_, rfl, 10, 18, rfl, rfl, ⟨by decide, by decide, by decide⟩, _, _, rfl, rfl, _, rfl, ?_⟩
          refine ite2 (fun cz => ?_) (fun cz => ?_)
          · refine ⟨_, rfl, _, rfl, setLH [.ref L, .int z, .int (n + 1), .int seed5] s5.a rfl rfl ?_⟩
            have hz : (0 : Int) ≤ z := by
              have q := of_decide_eq_true cz
              have e : ((10 : Int) ^ ((18 : Int).toNat)) = 1000000000000000000 := by decide
              rw [e] at q
              omega
            exact ⟨z, seed5, cs, _, rfl, d5.trans dat_upd_st, s5.put ne, by simp at h63; omega, hz, hs2, hs3⟩
          · refine ⟨_, rfl, setLH [.ref L, .int 0, .int (n + 1), .int seed5] s5.a rfl rfl ?_⟩
            exact ⟨0, seed5, cs, _, rfl, d5.trans dat_upd_st, s5.put ne, by simp at h63; omega, by decide, hs2, hs3⟩
      · exact iteF ⟨cell, seed, cs, _, rfl, d1, s1, h63, hc0, hs0, hs1⟩
    · rintro σ' H' ⟨cell1, seed1, cs1, x3, rfl, d2, s2, hl, h0, h1, h2⟩
      have fin : Sm st L (c + 1) H' := ⟨ne, cell1, n + 1, seed1, cs1, s2.a, s2.b, hl, h0, by omega, by omega, h1, h2⟩
      refine ⟨_, rfl, ixLH s2.a at4_1 ⟨_, _, rfl, rfl, _, rfl, ?_⟩⟩
      refine ite2 (fun cz => ?_) (fun cz => ?_)
      · have cz := of_decide_eq_true cz
        refine ⟨_, rfl, ixLH s2.a at4_1 (.inl ⟨_, rfl, _, rfl, _, _, rfl, rfl, hm0, ?_⟩)⟩
        refine ⟨_, rfl, ixLH s2.a at4_1 ⟨_, rfl, _, _, rfl, rfl, ⟨hm0, by omega⟩, _, rfl, setLH [.ref L, .int (cell1 / m), .int (n + 1), .int seed1] s2.a rfl rfl ?_⟩⟩
        have s3 : Sm1 st L (cell1 / m) (n + 1) seed1 cs1 (upd H' st (.lst [.ref L, .int (cell1 / m), .int (n + 1), .int seed1])) := s2.put ne
        refine ⟨_, rfl, k _ _ (d2.trans dat_upd_st) ⟨ne, cell1 / m, n + 1, seed1, cs1, s3.a, s3.b, hl, Int.ediv_nonneg h0 (by omega), by omega, by omega, h1, h2⟩ (Int.emod_nonneg _ (by omega)) (Int.emod_lt_of_pos _ hm0)⟩
      · refine ⟨_, rfl, ixLH s2.a at4_3 ⟨_, rfl, ixLH s2.a at4_2 ⟨7919, _, rfl, rfl, .inl ⟨by decide, by decide⟩, addI (addI ⟨_, _, rfl, rfl, pw ⟨by decide, by decide⟩ (by omega) (by omega), .inl ⟨_, rfl, _, _, rfl, rfl, (by show (0 : Int) < 2147483629; decide), ?_⟩⟩)⟩⟩⟩
        have m0 : 0 ≤ ((seed1 + 7919 * (n + 1) + 104729) ^ (Int.toNat 5)) % 2147483629 := Int.emod_nonneg _ (by decide)
        have m1 : ((seed1 + 7919 * (n + 1) + 104729) ^ (Int.toNat 5)) % 2147483629 < 2147483629 := Int.emod_lt_of_pos _ (by decide)
        generalize ((seed1 + 7919 * (n + 1) + 104729) ^ (Int.toNat 5)) % 2147483629 = y at m0 m1 ⊢
        refine ⟨_, rfl, _, _, rfl, rfl, .inl ⟨by omega, by omega⟩, _, rfl, ixLH s2.a at4_2 ⟨30011, _, rfl, rfl, .inl ⟨by decide, by decide⟩, addI (addI ⟨_, _, rfl, rfl, pw ⟨by decide, by decide⟩ (by omega) (by omega), .inl ⟨_, rfl, _, _, rfl, rfl, (by show (0 : Int) < 1000000007; decide), _, rfl, _, _, rfl, rfl, hm0, ?_⟩⟩)⟩⟩
        exact k _ _ d2 fin (Int.emod_nonneg _ (by omega)) (Int.emod_lt_of_pos _ hm0)
end
end L31

set_option Elab.async false
set_option linter.all false
set_option maxRecDepth 100000
set_option maxHeartbeats 4000000
namespace L31
open PySem PySem.Spec PyProof.Rows L2 Q
theorem perm_erase {α : Type} : ∀ {xs : List α} {i : Nat} (h : i < xs.length), (xs[i] :: xs.eraseIdx i).Perm xs
  | x :: xs, 0, _ => .refl _
  | x :: xs, i + 1, h => by
    have ih := perm_erase (xs := xs) (i := i) (by simpa using h)
    rw [List.eraseIdx_cons_succ, List.getElem_cons_succ]
    exact (List.Perm.swap _ _ _).trans (List.Perm.cons x ih)
abbrev TbL := List (Addr × Str)
def mPick (TT : TbL) : WMR (Strm TT) := fun ds g Kk => ∃ d xs, ds = [.raw (.ref g.st), d] ∧ sqOf d = some xs ∧ 0 < xs.length ∧ xs.length ≤ 1000 ∧ g.c ≤ 1000000 ∧ ∀ y ∈ xs, Kk y (⟨g.st, g.L, g.c + 1⟩ : SG)
def mMixed (TT : TbL) : WMR (Strm TT) := fun ds g Kk => ∃ d xs, ds = [.raw (.ref g.st), d] ∧ sqOf d = some xs ∧ xs.length ≤ 1000 ∧ g.c + xs.length ≤ 1000000 ∧ ∀ ys : List D, ys.Perm xs → Kk (.lst ys) (⟨g.st, g.L, g.c + xs.length⟩ : SG)
section
variable {P : Program} {w : World} {K : PySem.W.Frag} {mg : Str → Option Value} {base : Heap} {f : Addr} {fd : FuncData} {TT : TbL}
-- _law_pick: slots 0 _law_stream, 1 _law_some
abbrev s_L_pick : Stmt := (top 40)
abbrev N_sc_L_pick : List Str := ["_law_stream", "_law_some"]
theorem sc_L_pick : FnScope N_sc_L_pick ["_law_stream", "_law_some"] (defScope s_L_pick) := ⟨rfl, rfl, rfl, by decide +kernel, rfl, by decide +kernel, by decide +kernel⟩
theorem ok_L_pick (F : FnP K "_law_pick" "_law_pick" s_L_pick f fd) (T : Tx K mg) (C__law_draw : Cal P w K mg base "_law_draw" 1 ["_law_stream", "_law_many"] (spR (Strm TT) K (mDraw TT))) :
    FnOk P w K mg base CX0 2 f fd ["_law_stream", "_law_some"] (spR (Strm TT) K (mPick TT)) :=
  FnR F sc_L_pick (fun ds g Kk h => by obtain ⟨_, _, rfl, _⟩ := h; rfl) fun cdv A outer s H Fz Z E hr => ⟨_, 
(ds_one (ds_ret (de_ixA (de_v (i := 1)) (de_callR C__law_draw hr (da_cons (de_v (i := 0)) (da_cons (de_len T.b_len (de_v (i := 1))) da_nil))))))
  , fun ds g Kk h => by
    obtain ⟨d, xs, rfl, hd, h0, h1, hc, k⟩ := h
    have hl : lenD d = some (.int xs.length) := by rcases sq_cases hd with rfl | rfl <;> rfl
    refine ⟨_, rfl, _, rfl, _, rfl, _, hl, _, rfl, hc, by omega, by omega, fun i i0 i1 => ?_⟩
    have hi : i.toNat < xs.length := by omega
    have hix : ixD d (.int i) = some xs[i.toNat] := by
      have e : ixN xs.length i = some i.toNat := by
        unfold ixN
        rw [if_pos i0, if_pos (by omega)]
      rcases sq_cases hd with rfl | rfl
      · rw [Q.ix_lst, e]; exact List.getElem?_eq_getElem hi
      · rw [Q.ix_tup, e]; exact List.getElem?_eq_getElem hi
    exact ⟨_, hix, k _ (List.getElem_mem hi)⟩⟩
-- _law_mixed: slots 0 _law_stream, 1 _law_some, 2 _law_left, 3 _law_k
abbrev s_L_mixed : Stmt := (top 41)
abbrev N_sc_L_mixed : List Str := ["_law_stream", "_law_some", "_law_left", "_law_k"]
theorem sc_L_mixed : FnScope N_sc_L_mixed ["_law_stream", "_law_some"] (defScope s_L_mixed) := ⟨rfl, rfl, rfl, by decide +kernel, rfl, by decide +kernel, by decide +kernel⟩
theorem ok_L_mixed (F : FnP K "_law_mixed" "_law_mixed" s_L_mixed f fd) (T : Tx K mg) (C__law_draw : Cal P w K mg base "_law_draw" 1 ["_law_stream", "_law_many"] (spR (Strm TT) K (mDraw TT))) :
    FnOk P w K mg base CX0 2 f fd ["_law_stream", "_law_some"] (spRF (Strm TT) K (mMixed TT)) :=
  FnRF F sc_L_mixed (fun ds g Kk h => by obtain ⟨_, _, rfl, _⟩ := h; rfl) fun cdv A outer s H Fz Z E hr => ⟨_, 
(ds_cons (ds_new (i := 2) sc_L_mixed.nd (fe_list T.b_list (de_v (i := 1))))
 (ds_one (ds_retF (fe_lc (own := [("_law_k", 3)]) sc_L_mixed.nd (di_rng T.b_range (de_len T.b_len (de_b (i := 2)))) (blkOk_by (own := [("_law_k", 3)]) (N := N_sc_L_mixed) (sc := defScope s_L_mixed) (by decide +kernel)) (fun _ _ _ _ _ => (dg_name (i := 3) sc_L_mixed.nd)) (fun _ _ _ _ _ => dts_nil) (fun _ _ _ _ _ => (de_pop (i := 2) (de_callR C__law_draw hr (da_cons (de_v (i := 0)) (da_cons (de_len T.b_len (de_b (i := 2))) da_nil)))))))))
  , fun ds g Kk h => by
    obtain ⟨d, xs, rfl, hd, h1, hc, k⟩ := h
    have hl : listD d = some (.lst xs) := by rcases sq_cases hd with rfl | rfl <;> rfl
    refine ⟨_, rfl, _, hl, ?_⟩
    refine .inr ⟨_, rfl, _, rfl, (xs.length : Int), rfl, by omega, by omega, ?_⟩
    let mk : List D → Nat → DS (Strm TT) := fun left n => ⟨(⟨g.st, g.L, g.c + n⟩ : SG), [some (.fz (.raw (.ref g.st))), some (.fz d), some (.own (.lst left)), none]⟩
    refine ⟨by simp [rngD]; omega, fun i m d' q => ?_, ?_⟩
    · have e : i = 3 := by simpa using m
      subst e
      cases q
    · refine lcGo_ind (fun rest acc ρ => ∃ left, rest.length = left.length ∧ (acc ++ left).Perm xs ∧ ρ = mk left acc.length) ?_ ?_ _ _ _ ⟨xs, by simp [rngD], by simp, rfl⟩
      · rintro d' rest acc N ρ hN ⟨left, hlen, hp, rfl⟩
        have hl2 : acc.length + left.length = xs.length := by rw [← List.length_append]; exact hp.length_eq
        rw [List.length_cons] at hlen
        refine ⟨⟨_, rfl⟩, _, rfl, ?_⟩
        refine .inr ⟨_, rfl, _, rfl, _, rfl, by show g.c + acc.length ≤ 1000000; omega, by omega, by omega, fun i i0 i1 => ?_⟩
        have hi : i.toNat < left.length := by omega
        refine ⟨left, i.toNat, left[i.toNat], by rw [Int.toNat_of_nonneg i0], rfl, List.getElem?_eq_getElem hi, by omega, hN _ _ ⟨left.eraseIdx i.toNat, by rw [List.length_eraseIdx_of_lt hi]; omega, ?_, ?_⟩⟩
        · refine List.Perm.trans ?_ hp
          rw [List.append_assoc]
          refine List.Perm.append_left acc ?_
          exact perm_erase hi
        · rw [List.length_append]
          rfl
      · rintro acc ρ ⟨left, hlen, hp, rfl⟩
        have : left = [] := List.length_eq_zero_iff.mp hlen.symm
        subst this
        rw [List.append_nil] at hp
        have e : acc.length = xs.length := hp.length_eq
        have k := k acc hp
        rw [← e] at k
        exact k⟩
end
end L31

set_option Elab.async false
set_option linter.all false
set_option maxRecDepth 100000
set_option maxHeartbeats 4000000
namespace L31
open PySem PySem.Spec PyProof.Rows L2 Q
def sLETT : List Str := ["X", "Y", "Z"]
def dTHING : List D := [.str "a", .str "b", .str "c", .str "d1", .str "zed", .str "q9", .int 0, .int 1, .int (-2), .int 12]
def sNAME : List Str := ["edge", "p", "q2", "way", "r", "s", "mark", "t9"]
/-- a drawn term -/
def dTerm (t : D) : Prop := t ∈ sLETT.map D.str ∨ t ∈ dTHING
/-- a drawn letter, as the law looks -/
def isCap : D → Bool
  | .str z => decide (z.cps.toList.headD 0 ∈ ("ABCDEFGHIJKLMNOPQRSTUVWXYZ" : Str).cps.toList)
  | _ => false
theorem dTerm_cases {P : D → Prop} (hX : P (.str "X")) (hY : P (.str "Y")) (hZ : P (.str "Z")) (h1 : P (.str "a")) (h2 : P (.str "b")) (h3 : P (.str "c")) (h4 : P (.str "d1")) (h5 : P (.str "zed")) (h6 : P (.str "q9")) (h7 : P (.int 0)) (h8 : P (.int 1)) (h9 : P (.int (-2))) (h10 : P (.int 12)) : ∀ t, dTerm t → P t := by
  rintro t (h | h)
  · simp only [sLETT, List.map_cons, List.map_nil, List.mem_cons, List.not_mem_nil, or_false] at h
    rcases h with rfl | rfl | rfl <;> assumption
  · simp only [dTHING, List.mem_cons, List.not_mem_nil, or_false] at h
    rcases h with rfl | rfl | rfl | rfl | rfl | rfl | rfl | rfl | rfl | rfl <;> assumption
theorem dTerm_tm : ∀ t, dTerm t → isTm t = true := dTerm_cases (by decide +kernel) (by decide +kernel) (by decide +kernel) (by decide +kernel) (by decide +kernel) (by decide +kernel) (by decide +kernel) (by decide +kernel) (by decide +kernel) (by decide +kernel) (by decide +kernel) (by decide +kernel) (by decide +kernel)
theorem dTerm_cap : ∀ t, dTerm t → isCap t = isLt t := dTerm_cases (by decide +kernel) (by decide +kernel) (by decide +kernel) (by decide +kernel) (by decide +kernel) (by decide +kernel) (by decide +kernel) (by decide +kernel) (by decide +kernel) (by decide +kernel) (by decide +kernel) (by decide +kernel) (by decide +kernel)
theorem dTerm_lett : ∀ t, dTerm t → isLt t = true → t ∈ sLETT.map D.str := fun t h hl => by
  rcases h with h | h
  · exact h
  · exfalso
    simp only [dTHING, List.mem_cons, List.not_mem_nil, or_false] at h
    rcases h with rfl | rfl | rfl | rfl | rfl | rfl | rfl | rfl | rfl | rfl <;> (revert hl; decide +kernel)
theorem lett_lt : ∀ z ∈ sLETT, strLt z = true := by decide +kernel
theorem name_nm : ∀ z ∈ sNAME, strNm z = true := by decide +kernel
theorem dTerm_str {z : Str} (h : z ∈ sLETT) : dTerm (.str z) := .inl (List.mem_map.mpr ⟨z, h, rfl⟩)
/-- a drawn atom -/
def dAtom (d : D) : Prop := ∃ z ts, d = .tup (.str z :: ts) ∧ z ∈ sNAME ∧ 1 ≤ ts.length ∧ ts.length ≤ 2 ∧ ∀ t ∈ ts, dTerm t
theorem onceS_mem (zs : List Str) (y : Str) : y ∈ onceS zs ↔ y ∈ zs := by
  have go : ∀ (zs acc : List Str), y ∈ zs.foldl addS acc ↔ y ∈ acc ∨ y ∈ zs := by
    intro zs
    induction zs with
    | nil => simp
    | cons z zs ih =>
      intro acc
      rw [List.foldl_cons, ih]
      unfold addS
      by_cases h : z ∈ acc
      · rw [if_pos h]
        constructor
        · rintro (q | q)
          · exact .inl q
          · exact .inr (List.mem_cons_of_mem _ q)
        · rintro (q | q)
          · exact .inl q
          · rcases List.mem_cons.mp q with rfl | q
            · exact .inl h
            · exact .inr q
      · rw [if_neg h]
        simp [or_assoc]
  have := go zs []
  simpa [onceS] using this
theorem addS_nodup {acc : List Str} {z : Str} (h : acc.Nodup) : (addS acc z).Nodup := by
  unfold addS
  split
  · exact h
  · rename_i n
    rw [List.nodup_append]
    refine ⟨h, by simp, fun a ha b hb => ?_⟩
    rw [List.mem_singleton.mp hb]
    rintro rfl
    exact n ha
theorem onceS_nodup (zs : List Str) : (onceS zs).Nodup := by
  have go : ∀ (zs acc : List Str), acc.Nodup → (zs.foldl addS acc).Nodup := by
    intro zs
    induction zs with
    | nil => exact fun acc h => h
    | cons z zs ih => exact fun acc h => ih _ (addS_nodup h)
  exact go zs [] .nil
theorem onceS_len (zs : List Str) : (onceS zs).length ≤ zs.length := by
  have go : ∀ (zs acc : List Str), (zs.foldl addS acc).length ≤ acc.length + zs.length := by
    intro zs
    induction zs with
    | nil => simp
    | cons z zs ih =>
      intro acc
      have h1 := ih (addS acc z)
      have h2 : (addS acc z).length ≤ acc.length + 1 := by unfold addS; split <;> simp
      rw [List.foldl_cons, List.length_cons]
      omega
  simpa [onceS] using go zs []
section
variable {P : Program} {w : World} {K : PySem.W.Frag} {mg : Str → Option Value} {base : Heap} {f : Addr} {fd : FuncData} {TT : TbL}
def okStrs : List D → Prop := fun ds => ∃ zs : List Str, ds = [.lst (zs.map .str)] ∧ zs.length ≤ 1000
def strsOf : D → List Str
  | .lst xs => xs.map strOf
  | _ => []
theorem strsOf_map (zs : List Str) : strsOf (.lst (zs.map .str)) = zs := by
  show (zs.map D.str).map strOf = zs
  rw [List.map_map]
  exact List.map_id'' (fun _ => rfl) zs
-- _law_each_once: slots 0 _law_things_here, 1 _law_found, 2 _law_thing
abbrev s_L_each_once : Stmt := (top 43)
abbrev N_sc_L_each_once : List Str := ["_law_things_here", "_law_found", "_law_thing"]
theorem sc_L_each_once : FnScope N_sc_L_each_once ["_law_things_here"] (defScope s_L_each_once) := ⟨rfl, rfl, rfl, by decide +kernel, rfl, by decide +kernel, by decide +kernel⟩
theorem ok_L_each_once (F : FnP K "_law_each_once" "_law_each_once" s_L_each_once f fd) (T : Tx K mg) : FnOk P w K mg base CX0 1 f fd ["_law_things_here"] (spF K (wF okStrs fun ds => .lst ((onceS (strsOf (ds.headD .non))).map .str))) :=
  FnF F sc_L_each_once (fun ds Kk h => by obtain ⟨⟨_, rfl, _⟩, _⟩ := h; rfl) fun cdv A outer s H Fz E hr => ⟨_, 
(ds_cons (ds_new (i := 1) sc_L_each_once.nd (fe_lst da_nil))
 (ds_cons (ds_for (di_seq (de_v (i := 0))) (dg_name (i := 2) sc_L_each_once.nd)
  (ds_one (ds_if (dt_cm (c_ni hr) (de_v (i := 2)) (de_b (i := 1))) (ds_one (ds_app (i := 1) (de_v (i := 2)))) ds_nil)))
 (ds_one (ds_retO (i := 1)))))
  , fun ds Kk h => by
    obtain ⟨⟨zs, rfl, hl⟩, k⟩ := h
    replace k : Kk (.lst ((onceS (strsOf (.lst (zs.map .str)))).map .str)) := k
    rw [strsOf_map] at k
    simp only [sSeq, sSet, sNew, sNext, sPass, sRet, sIf, sApp, sExt, sDrop, sAsg, wIfE, wTest, wTruth, wBand, wBor, wBnot, wOp, wUn, wCall, wCons, wNil, wTup, wLst]
    refine ⟨by simp, _, rfl, _, rfl, ?_⟩
    let mk : List Str → Option DV → DS noR := fun acc x => ⟨noG, [some (.fz (.lst (zs.map .str))), some (.own (.lst (acc.map .str))), x]⟩
    refine forGo_ind (fun rest ρ => ∃ acc x ys, rest = ys.map D.str ∧ ys.foldl addS acc = onceS zs ∧ acc.length + ys.length ≤ 1000 ∧ ρ = mk acc x) ?_ ?_ _ _ ⟨[], none, zs, rfl, rfl, by simpa using hl, rfl⟩
    · rintro d rest N ρ hN ⟨acc, x, ys, hr, hf, hlen, rfl⟩
      cases ys with
      | nil => cases hr
      | cons y ys =>
        cases hr
        rw [List.foldl_cons] at hf
        rw [List.length_cons] at hlen
        refine ⟨.str y, rfl, .inr ⟨_, rfl, _, inD_strs true y acc, _, rfl, ?_⟩⟩
        by_cases m : y ∈ acc
        · rw [decide_eq_true m]
          have e : addS acc y = acc := if_pos m
          rw [e] at hf
          exact itF (hN _ ⟨acc, _, ys, rfl, hf, by omega, rfl⟩)
        · rw [decide_eq_false m]
          have e : addS acc y = acc ++ [y] := if_neg m
          rw [e] at hf
          refine itT ⟨⟨_, rfl⟩, .str y, rfl, _, rfl, by rw [List.length_map]; omega, hN _ ⟨acc ++ [y], some (.fz (.str y)), ys, rfl, hf, by rw [List.length_append]; simp; omega, ?_⟩⟩
          simp only [mk, List.map_append]
          rfl
    · rintro ρ ⟨acc, x, ys, hr, hf, hlen, rfl⟩
      have : ys = [] := by cases ys with
        | nil => rfl
        | cons y ys => cases hr
      subst this
      have hf : acc = onceS zs := hf
      subst hf
      exact ⟨_, rfl, k⟩⟩
def dTerm1 : List D → Prop := fun ds => ∃ t, ds = [t] ∧ dTerm t
-- _law_is_letter: slots 0 _law_term
abbrev s_L_is_letter : Stmt := (top 44)
abbrev N_sc_L_is_letter : List Str := ["_law_term"]
theorem sc_L_is_letter : FnScope N_sc_L_is_letter ["_law_term"] (defScope s_L_is_letter) := ⟨rfl, rfl, rfl, by decide +kernel, rfl, by decide +kernel, by decide +kernel⟩
theorem ok_L_is_letter (F : FnP K "_law_is_letter" "_law_is_letter" s_L_is_letter f fd) (T : Tx K mg) : FnOk P w K mg base CX0 1 f fd ["_law_term"] (spD K (wF dTerm1 fun ds => .bl (isLt (ds.headD .non)))) :=
  FnD F sc_L_is_letter (fun ds Kk h => by obtain ⟨⟨_, rfl, _⟩, _⟩ := h; rfl) fun cdv A outer s H Fz E hr => ⟨_, 
(ds_one (ds_ret (de_and (de_is1 T.b_isinstance (TyN.mk (t := .str) (by rfl) T.b_str (by decide +kernel) (by decide) (by decide)) (de_v (i := 0))) (de_one (de_cm (c_in hr) (de_ixA (de_v (i := 0)) de_int) de_str)))))
  , fun ds Kk h => by
    obtain ⟨⟨t, rfl, ht⟩, k⟩ := h
    replace k : Kk (.bl (isLt t)) := k
    rw [← dTerm_cap t ht] at k
    have h0 := isTm_tmB (dTerm_tm t ht)
    have hn : ∀ z, t = .str z → z.cps.toList ≠ [] := by
      refine dTerm_cases (P := fun t => ∀ z, t = .str z → z.cps.toList ≠ []) ?_ ?_ ?_ ?_ ?_ ?_ ?_ ?_ ?_ ?_ ?_ ?_ ?_ t ht <;> intro z e <;> cases e <;> decide +kernel
    cases t with
    | str z =>
      obtain ⟨⟨l⟩⟩ := z
      cases l with
      | nil => exact absurd rfl (hn _ rfl)
      | cons a r =>
        have hx : r.length + 1 ≤ 100000 := by simpa [Str.length] using h0
        simp [sRet, wAndV, wOrV, wNotV, wUn, wOp, wV, wB, wO, wC, wIfE, wTest, wTruth, wBand, wBor, wBnot, wChain, wSl, wPart, wTup, wLst, wCons, wNil, wCall, sIf, sSeq, sSet, sNew, sNext, sPass, sApp, sExt, sDrop, sAsg, gNm, gTp, gCs, gNl, startD, DS.put, wF, isaD, eqD, inSq, ixN, Q.signs, Str.length, hx, isCap, xr] at k ⊢
        exact k
    | int i => simp [sRet, wAndV, wOrV, wNotV, wUn, wOp, wV, wB, wO, wC, wIfE, wTest, wTruth, wBand, wBor, wBnot, wChain, wSl, wPart, wTup, wLst, wCons, wNil, wCall, sIf, sSeq, sSet, sNew, sNext, sPass, sApp, sExt, sDrop, sAsg, gNm, gTp, gCs, gNl, startD, DS.put, wF, isaD, eqD, inSq, isCap] at k ⊢; exact k
    | _ => rcases ht with h | h <;> simp [sLETT, dTHING] at h⟩
end
end L31

set_option Elab.async false
set_option linter.all false
set_option maxRecDepth 100000
set_option maxHeartbeats 4000000
namespace L31
open PySem PySem.Spec PyProof.Rows L2 Q
theorem addL_eq : ∀ (ts : List D) (acc : List Str), ts.foldl addL acc = ((ts.filter isLt).map strOf).foldl addS acc
  | [], acc => rfl
  | t :: ts, acc => by
    rw [List.foldl_cons, addL_eq ts]
    cases h : isLt t with
    | true =>
      rw [List.filter_cons_of_pos h, List.map_cons, List.foldl_cons]
      have e : addL acc t = addS acc (strOf t) := by
        cases t <;> simp [isLt] at h
        rename_i z
        by_cases m : z ∈ acc <;> simp [addL, addS, strOf, h, m]
      rw [e]
    | false =>
      rw [List.filter_cons_of_neg (by rw [h]; decide)]
      have : addL acc t = acc := by
        cases t <;> simp [isLt] at h <;> simp [addL, h]
      rw [this]
theorem lettersP_once (ps : List D) : lettersP ps = onceS (((ps.flatMap termsP).filter isLt).map strOf) := addL_eq _ []
theorem name_not {z : Str} (h : z ∈ sNAME) : z ≠ "not" := (nm_not (name_nm z h)).1
theorem dAtom.terms {d : D} (h : dAtom d) : ∃ z ts, d = .tup (.str z :: ts) ∧ termsP d = ts ∧ z ≠ "not" ∧ 1 ≤ ts.length ∧ ts.length ≤ 2 ∧ ∀ t ∈ ts, dTerm t := by
  obtain ⟨z, ts, rfl, hz, h1, h2, h3⟩ := h
  refine ⟨z, ts, rfl, ?_, name_not hz, h1, h2, h3⟩
  simp only [termsP, name_not hz]
  rfl
theorem dAtom.okRow {z : Str} {ts : List D} (hz : z ∈ sNAME) (h2 : ts.length ≤ 2) (h3 : ∀ t ∈ ts, dTerm t) : okRow (.str z :: ts) := ⟨z, ts, rfl, name_nm z hz, by omega, List.all_eq_true.mpr fun t ht => dTerm_tm t (h3 t ht)⟩
theorem dAtom.ok {d : D} (h : dAtom d) : okPart d ∧ plainP d = true := by
  obtain ⟨z, ts, rfl, hz, h1, h2, h3⟩ := h
  refine ⟨.inl ⟨_, rfl, dAtom.okRow hz h2 h3⟩, ?_⟩
  obtain ⟨n1, n2⟩ := nm_not (name_nm z hz)
  simp [plainP, n1, n2]
theorem wLc_via {R : Rgn} {wi : WI R} {g : WG R} {wt : WB R} {we : WE R} {vs : List Nat} {ρ ρ' : DS R} {ds : List D} (h : ∀ K' : List D → DS R → Prop, K' ds ρ' → wi ρ K') (K : D → DS R → Prop) (k : wLc (fun ρ K => K ds ρ) g wt we vs ρ' K) : wLc wi g wt we vs ρ K := h _ k
theorem lts_back {ts : List D} : (ts.filter isLt).map (fun t => t) = ((ts.filter isLt).map strOf).map D.str := by
  rw [List.map_id']
  exact lts_strs (List.all_eq_true.mpr fun t h => (List.mem_filter.mp h).2)
section
variable {P : Program} {w : World} {K : PySem.W.Frag} {mg : Str → Option Value} {base : Heap} {f : Addr} {fd : FuncData} {TT : TbL}
def okAtoms : List D → Prop := fun ds => ∃ ps, ds = [.lst ps] ∧ ps.length ≤ 100 ∧ ∀ p ∈ ps, dAtom p
-- _law_letters: slots 0 _law_body_here, 1 _law_terms, 2 _law_part, 3 _law_term
abbrev s_L_letters : Stmt := (top 45)
abbrev N_sc_L_letters : List Str := ["_law_body_here", "_law_terms", "_law_part", "_law_term"]
theorem sc_L_letters : FnScope N_sc_L_letters ["_law_body_here"] (defScope s_L_letters) := ⟨rfl, rfl, rfl, by decide +kernel, rfl, by decide +kernel, by decide +kernel⟩
theorem ok_L_letters (F : FnP K "_law_letters" "_law_letters" s_L_letters f fd) (T : Tx K mg) (C__law_each_once : Cal P w K mg base "_law_each_once" 1 ["_law_things_here"] (spF K (wF okStrs fun ds => .lst ((onceS (strsOf (ds.headD .non))).map .str))))
    (C__law_is_letter : Cal P w K mg base "_law_is_letter" 1 ["_law_term"] (spD K (wF dTerm1 fun ds => .bl (isLt (ds.headD .non))))) :
    FnOk P w K mg base CX0 2 f fd ["_law_body_here"] (spF K (wF okAtoms fun ds => .lst ((lettersP ((sqOf (ds.headD .non)).getD [])).map .str))) :=
  FnF F sc_L_letters (fun ds Kk h => by obtain ⟨⟨_, rfl, _⟩, _⟩ := h; rfl) fun cdv A outer s H Fz E hr => ⟨_, 
(ds_cons (ds_new (i := 1) sc_L_letters.nd (fe_lst da_nil))
 (ds_cons (ds_for (di_seq (de_v (i := 0))) (dg_name (i := 2) sc_L_letters.nd)
  (ds_one (ds_extT (i := 1) (de_if (dt_cm (c_eq hr) (de_ixA (de_v (i := 2)) de_int) de_str) (de_sl (de_ixA (de_v (i := 2)) de_int) (dp_at de_int) dp_no) (de_sl (de_v (i := 2)) (dp_at de_int) dp_no)))))
 (ds_one (ds_retF (fe_call C__law_each_once hr (da_cons (FE.de (fe_lc (own := [("_law_term", 3)]) sc_L_letters.nd (di_seq (de_o (i := 1))) (blkOk_by (own := [("_law_term", 3)]) (N := N_sc_L_letters) (sc := defScope s_L_letters) (by decide +kernel)) (fun _ _ _ _ _ => (dg_name (i := 3) sc_L_letters.nd)) (fun _ _ _ _ _ => (dts_one (dt_truth (de_call C__law_is_letter hr (da_cons (de_v (i := 3)) da_nil))))) (fun _ _ _ _ _ => (de_v (i := 3))))) da_nil))))))
  , fun ds Kk h => by
    obtain ⟨⟨ps, rfl, hl, ha⟩, k⟩ := h
    replace k : Kk (.lst ((lettersP ps).map .str)) := k
    simp only [sSeq, sSet, sNew, sNext, sPass, sRet, sIf, sApp, sExt, sDrop, sAsg, wIfE, wTest, wTruth, wBand, wBor, wBnot, wOp, wUn, wCall, wCons, wNil, wTup, wLst]
    refine ⟨by simp, _, rfl, _, rfl, ?_⟩
    let mk : List D → Option DV → DS noR := fun ts x => ⟨noG, [some (.fz (.lst ps)), some (.own (.lst ts)), x, none]⟩
    refine forGo_ind (fun rest ρ => ∃ acc x, acc ++ rest.flatMap termsP = ps.flatMap termsP ∧ acc.length + 2 * rest.length ≤ 200 ∧ (∀ p ∈ rest, dAtom p) ∧ ρ = mk acc x) ?_ ?_ _ _ ⟨[], none, rfl, by simp; omega, ha, rfl⟩
    · rintro d rest N ρ hN ⟨acc, x, hf, hlen, hok, rfl⟩
      obtain ⟨z, ts, rfl, ht, hn, t1, t2, t3⟩ := (hok d List.mem_cons_self).terms
      rw [List.flatMap_cons, ht, ← List.append_assoc] at hf
      rw [List.length_cons] at hlen
      refine ⟨⟨_, rfl⟩, _, rfl, .str z, by simp [ixN], _, rfl, _, rfl, ?_⟩
      have e : deq (.str z) (.str "not") = false := by
        rw [eq_str_str]
        exact beq_eq_false_iff_ne.mpr hn
      rw [e]
      refine itF ⟨_, rfl, _, rfl, rfl, .tup ts, congrArg (fun q => some (D.tup q)) (cut_tl _ ts), ?_⟩
      refine ⟨acc, ts, rfl, rfl, by omega, hN _ ⟨acc ++ ts, some (.fz (.tup (.str z :: ts))), hf, by rw [List.length_append]; omega, fun p h => hok p (List.mem_cons_of_mem _ h), rfl⟩⟩
    · rintro ρ ⟨acc, x, hf, hlen, hok, rfl⟩
      rw [List.flatMap_nil, List.append_nil] at hf
      subst hf
      have hterm : ∀ t ∈ ps.flatMap termsP, dTerm t := fun t ht => by
        obtain ⟨p, hp, hm⟩ := List.mem_flatMap.mp ht
        obtain ⟨z, ts, rfl, e, _, _, _, t3⟩ := (ha p hp).terms
        rw [e] at hm
        exact t3 t hm
      have hlen : (ps.flatMap termsP).length ≤ 200 := by simpa using hlen
      show wLc (wSq (wO 1)) (gNm 3) (wTruth (wCall (wF dTerm1 fun ds => D.bl (isLt (ds.headD D.non))) (wCons (wV 3) wNil))) (wV 3) [3] (mk (ps.flatMap termsP) x) (fun x ρ1 => wF okStrs (fun ds => D.lst (List.map D.str (onceS (strsOf (ds.headD D.non))))) [x] fun d => Kk d)
      refine wLc_via (ρ' := ⟨noG, [some (.fz (.lst ps)), some (.fz (.lst (ps.flatMap termsP))), x, none]⟩) (ds := ps.flatMap termsP) (fun K' k' => .inr ⟨_, rfl, _, rfl, k'⟩) _ ?_
      refine wLc_filter (ds := ps.flatMap termsP) (f := fun d => d) (p := isLt) (x := none) (fun K k => k) (by omega) rfl (fun _ h => by cases h) (fun d hd K k => ⟨d, rfl, ⟨d, rfl, hterm d hd⟩, _, rfl, k⟩) (fun d hd _ K k => ⟨d, rfl, k⟩) _ ?_
      rw [lts_back]
      refine ⟨⟨_, rfl, ?_⟩, ?_⟩
      · rw [List.length_map]
        exact Nat.le_trans (List.length_filter_le _ _) (by omega)
      · show Kk (.lst ((onceS (strsOf (.lst (((ps.flatMap termsP).filter isLt).map strOf |>.map .str)))).map .str))
        rw [strsOf_map, ← lettersP_once]
        exact k⟩
end
end L31

set_option Elab.async false
set_option linter.all false
set_option maxRecDepth 100000
set_option maxHeartbeats 4000000
namespace L31
open PySem PySem.Spec PyProof.Rows L2 Q
theorem cut_to (ys : List D) (n : Nat) (h : n ≤ ys.length) : Q.cutD ys none (some (n : Int)) = ys.take n := by
  unfold Q.cutD
  rw [HT.sIx_none, HT.sIx_nat, List.drop_zero, Nat.min_eq_left h, Nat.sub_zero]
def mThings (TT : TbL) : WMR (Strm TT) := fun ds g Kk => ∃ n : Nat, ds = [.raw (.ref g.st), .int (n : Int)] ∧ n ≤ 10 ∧ g.c ≤ 900000 ∧ ∀ ys : List D, ys.length = n → (∀ y ∈ ys, y ∈ dTHING) → Kk (.lst ys) (⟨g.st, g.L, g.c + 10⟩ : SG)
/-- how many places the relations have -/
def dShape (d : D) : Prop := ∃ (a b : Str) (n : Int), d = .dct [.str a, .str b] [.int 2, .int n] ∧ a ∈ sNAME ∧ b ∈ sNAME ∧ a ≠ b ∧ 1 ≤ n ∧ n ≤ 2
def mShape (TT : TbL) : WMR (Strm TT) := fun ds g Kk => ds = [.raw (.ref g.st)] ∧ g.c ≤ 900000 ∧ ∀ a b : D, dShape a → Kk (.tup [a, b]) (⟨g.st, g.L, g.c + 10⟩ : SG)
section
variable {P : Program} {w : World} {K : PySem.W.Frag} {mg : Str → Option Value} {base : Heap} {f : Addr} {fd : FuncData} {TT : TbL}
-- _law_things: slots 0 _law_stream, 1 _law_many
abbrev s_L_things : Stmt := (top 46)
abbrev N_sc_L_things : List Str := ["_law_stream", "_law_many"]
theorem sc_L_things : FnScope N_sc_L_things ["_law_stream", "_law_many"] (defScope s_L_things) := ⟨rfl, rfl, rfl, by decide +kernel, rfl, by decide +kernel, by decide +kernel⟩
theorem ok_L_things (F : FnP K "_law_things" "_law_things" s_L_things f fd) (T : Tx K mg) (C__law_mixed : Cal P w K mg base "_law_mixed" 2 ["_law_stream", "_law_some"] (spRF (Strm TT) K (mMixed TT))) :
    FnOk P w K mg base CX0 3 f fd ["_law_stream", "_law_many"] (spR (Strm TT) K (mThings TT)) :=
  FnR F sc_L_things (fun ds g Kk h => by obtain ⟨_, rfl, _⟩ := h; rfl) fun cdv A outer s H Fz Z E hr => ⟨_, 
(ds_one (ds_ret (de_sl (FE.de (fe_callR C__law_mixed hr (da_cons (de_v (i := 0)) (da_cons (FE.de (fe_lst (da_cons de_str (da_cons de_str (da_cons de_str (da_cons de_str (da_cons de_str (da_cons de_str (da_cons de_int (da_cons de_int (da_cons (de_neg de_int) (da_cons de_int da_nil)))))))))))) da_nil)))) dp_no (dp_at (de_v (i := 1))))))
  , fun ds g Kk h => by
    obtain ⟨n, rfl, hn, hc, k⟩ := h
    refine ⟨_, rfl, _, rfl, by simp, ?_⟩
    refine ⟨_, dTHING, rfl, rfl, by decide, by show g.c + 10 ≤ 1000000; omega, fun ys hp => ?_⟩
    have hl : ys.length = 10 := hp.length_eq
    refine ⟨_, rfl, (n : Int), rfl, rfl, .lst (ys.take n), congrArg (fun q => some (D.lst q)) (cut_to ys n (by omega)), ?_⟩
    exact k (ys.take n) (by rw [List.length_take]; omega) fun y hy => hp.mem_iff.mp (List.mem_of_mem_take hy)⟩
-- _law_shape: slots 0 _law_stream, 1 _law_names, 2 _law_given
abbrev s_L_shape : Stmt := (top 47)
abbrev N_sc_L_shape : List Str := ["_law_stream", "_law_names", "_law_given"]
theorem sc_L_shape : FnScope N_sc_L_shape ["_law_stream"] (defScope s_L_shape) := ⟨rfl, rfl, rfl, by decide +kernel, rfl, by decide +kernel, by decide +kernel⟩
theorem ok_L_shape (F : FnP K "_law_shape" "_law_shape" s_L_shape f fd) (T : Tx K mg) (C__law_mixed : Cal P w K mg base "_law_mixed" 2 ["_law_stream", "_law_some"] (spRF (Strm TT) K (mMixed TT)))
    (C__law_draw : Cal P w K mg base "_law_draw" 1 ["_law_stream", "_law_many"] (spR (Strm TT) K (mDraw TT))) :
    FnOk P w K mg base CX0 3 f fd ["_law_stream"] (spR (Strm TT) K (mShape TT)) :=
  FnR F sc_L_shape (fun ds g Kk h => by obtain ⟨rfl, _⟩ := h; rfl) fun cdv A outer s H Fz Z E hr => ⟨_, 
(ds_cons (ds_set (i := 1) sc_L_shape.nd (FE.de (fe_callR C__law_mixed hr (da_cons (de_v (i := 0)) (da_cons (FE.de (fe_lst (da_cons de_str (da_cons de_str (da_cons de_str (da_cons de_str (da_cons de_str (da_cons de_str (da_cons de_str (da_cons de_str da_nil)))))))))) da_nil)))))
 (ds_cons (ds_set (i := 2) sc_L_shape.nd (FE.de (fe_dict T.b_dict (FE.de (fe_lst (da_cons (de_tup (da_cons (de_ixA (de_v (i := 1)) de_int) (da_cons de_int da_nil))) (da_cons (de_tup (da_cons (de_ixA (de_v (i := 1)) de_int) (da_cons (de_add de_int (de_callR C__law_draw hr (da_cons (de_v (i := 0)) (da_cons de_int da_nil)))) da_nil))) da_nil)))))))
 (ds_one (ds_ret (de_tup (da_cons (de_v (i := 2)) (da_cons (FE.de (fe_dict T.b_dict (FE.de (fe_lst (da_cons (de_tup (da_cons (de_ixA (de_v (i := 1)) de_int) (da_cons de_int da_nil))) (da_cons (de_tup (da_cons (de_ixA (de_v (i := 1)) de_int) (da_cons (de_add de_int (de_callR C__law_draw hr (da_cons (de_v (i := 0)) (da_cons de_int da_nil)))) da_nil))) da_nil)))))) da_nil)))))))
  , fun ds g Kk h => by
    obtain ⟨rfl, hc, k⟩ := h
    refine ⟨_, rfl, by simp, ?_⟩
    refine ⟨_, sNAME.map .str, rfl, rfl, by decide, by show g.c + 8 ≤ 1000000; omega, fun ys hp => ?_⟩
    have hl : ys.length = 8 := hp.length_eq
    have hs : ∀ y ∈ ys, ∃ z ∈ sNAME, y = .str z := fun y hy => by
      obtain ⟨z, hz, e⟩ := List.mem_map.mp (hp.mem_iff.mp hy)
      exact ⟨z, hz, e.symm⟩
    have nd : ys.Nodup := hp.nodup_iff.mpr (List.pairwise_map.mpr ((by decide +kernel : sNAME.Nodup).imp fun h e => h (D.str.inj e)))
    match ys, hl with
    | [y0, y1, y2, y3, y4, y5, y6, y7], _ =>
      obtain ⟨a, ha, rfl⟩ := hs y0 (by simp)
      obtain ⟨b, hb, rfl⟩ := hs y1 (by simp)
      obtain ⟨a2, ha2, rfl⟩ := hs y2 (by simp)
      obtain ⟨b2, hb2, rfl⟩ := hs y3 (by simp)
      have n1 : a ≠ b := fun e => by subst e; simp at nd
      have n2 : a2 ≠ b2 := fun e => by subst e; simp at nd
      have key : ∀ a b : Str, a ≠ b → ([.inr a, .inr b] : List Key).Nodup := fun a b n => by simp [n]
      refine ⟨_, rfl, .str a, rfl, by simp, _, rfl, .str b, rfl, _, rfl, ⟨2, rfl, by show g.c + 8 ≤ 1000000; omega, by decide, by decide, fun i i0 i1 => ⟨_, rfl, by simp, by simp, ?_⟩⟩⟩
      refine ⟨[.inr a, .inr b], [.int 2, .int (1 + i)], rfl, rfl, key a b n1, ?_⟩
      refine ⟨_, rfl, _, rfl, .str a2, rfl, by simp, _, rfl, .str b2, rfl, _, rfl, ⟨2, rfl, by show g.c + 8 + 1 ≤ 1000000; omega, by decide, by decide, fun j j0 j1 => ⟨_, rfl, by simp, by simp, ?_⟩⟩⟩
      refine ⟨[.inr a2, .inr b2], [.int 2, .int (1 + j)], rfl, rfl, key a2 b2 n2, by simp, ?_⟩
      exact k _ _ ⟨a, b, 1 + i, rfl, ha, hb, n1, by omega, by omega⟩⟩
end
end L31

set_option Elab.async false
set_option linter.all false
set_option maxRecDepth 100000
set_option maxHeartbeats 4000000
namespace L31
open PySem PySem.Spec PyProof.Rows L2 Q
def okLs (ls : List D) : Prop := ∃ zs : List Str, ls = zs.map D.str ∧ zs ≠ [] ∧ zs.length ≤ 50 ∧ ∀ z ∈ zs, z ∈ sLETT
def mBody (TT : TbL) : WMR (Strm TT) := fun ds g Kk => ∃ (sh : D) (ls ths : List D) (many : Nat), ds = [.raw (.ref g.st), sh, .lst ls, .lst ths, .int (many : Int)] ∧ dShape sh ∧ okLs ls ∧ ths ≠ [] ∧ ths.length ≤ 10 ∧ (∀ t ∈ ths, t ∈ dTHING) ∧ many ≤ 2 ∧ g.c ≤ 800000 ∧
  ∀ (ps : List D) (c' : Nat), ps.length = many → (∀ p ∈ ps, dAtom p) → c' ≤ g.c + 20 → Kk (.lst ps) (⟨g.st, g.L, c'⟩ : SG)
section
variable {P : Program} {w : World} {K : PySem.W.Frag} {mg : Str → Option Value} {base : Heap} {f : Addr} {fd : FuncData} {TT : TbL}
-- _law_body: slots 0 _law_stream, 1 _law_shape_here, 2 _law_letters_here, 3 _law_things_here, 4 _law_many, 5 _law_k, 6 _law_found, 7 _law_met, 8 _law_name, 9 _law_terms, 10 _law_place, 11 _law_term
abbrev s_L_body : Stmt := (top 48)
abbrev N_sc_L_body : List Str := ["_law_stream", "_law_shape_here", "_law_letters_here", "_law_things_here", "_law_many", "_law_k", "_law_found", "_law_met", "_law_name", "_law_terms", "_law_place", "_law_term"]
theorem sc_L_body : FnScope N_sc_L_body ["_law_stream", "_law_shape_here", "_law_letters_here", "_law_things_here", "_law_many"] (defScope s_L_body) := ⟨rfl, rfl, rfl, by decide +kernel, rfl, by decide +kernel, by decide +kernel⟩
theorem ok_L_body (F : FnP K "_law_body" "_law_body" s_L_body f fd) (T : Tx K mg) (C__law_pick : Cal P w K mg base "_law_pick" 2 ["_law_stream", "_law_some"] (spR (Strm TT) K (mPick TT)))
    (C__law_draw : Cal P w K mg base "_law_draw" 1 ["_law_stream", "_law_many"] (spR (Strm TT) K (mDraw TT))) (C__law_each_once : Cal P w K mg base "_law_each_once" 1 ["_law_things_here"] (spF K (wF okStrs fun ds => .lst ((onceS (strsOf (ds.headD .non))).map .str))))
    (C__law_is_letter : Cal P w K mg base "_law_is_letter" 1 ["_law_term"] (spD K (wF dTerm1 fun ds => .bl (isLt (ds.headD .non))))) :
    FnOk P w K mg base CX0 3 f fd ["_law_stream", "_law_shape_here", "_law_letters_here", "_law_things_here", "_law_many"] (spRF (Strm TT) K (mBody TT)) :=
  FnRF F sc_L_body (fun ds g Kk h => by obtain ⟨_, _, _, _, rfl, _⟩ := h; rfl) fun cdv A outer s H Fz Z E hr => ⟨_, 
(ds_cons (ds_parO (i := 6) (k := 7) sc_L_body.nd (by decide) (fe_lst da_nil) (FE.de (fe_lst (da_cons (de_ixA (de_v (i := 2)) de_int) da_nil))))
 (ds_cons (ds_for (di_rng T.b_range (de_v (i := 4))) (dg_name (i := 5) sc_L_body.nd)
  (ds_cons (ds_set (i := 8) sc_L_body.nd (de_callR C__law_pick hr (da_cons (de_v (i := 0)) (da_cons (FE.de (fe_listK T.b_list (de_v (i := 1)))) da_nil))))
 (ds_cons (ds_newP (i := 9) (ps_lc (own := [("_law_place", 10)]) sc_L_body.nd (di_rng T.b_range (de_dget hr (de_v (i := 1)) (de_v (i := 8)))) (blkOk_by (own := [("_law_place", 10)]) (N := N_sc_L_body) (sc := defScope s_L_body) (by decide +kernel)) (fun _ _ _ _ _ => (dg_name (i := 10) sc_L_body.nd)) (fun _ _ _ _ _ => dts_nil) (fun _ _ _ _ _ => (de_callR C__law_pick hr (da_cons (de_v (i := 0)) (da_cons (de_v (i := 2)) da_nil)))) (sw_true rfl rfl rfl (by decide +kernel))))
 (ds_cons (ds_putL (i := 9) (de_callR C__law_pick hr (da_cons (de_v (i := 0)) (da_cons (de_v (i := 7)) da_nil))) (de_callR C__law_draw hr (da_cons (de_v (i := 0)) (da_cons (de_len T.b_len (de_b (i := 9))) da_nil))))
 (ds_cons (ds_if (dt_cm (c_eq hr) (de_callR C__law_draw hr (da_cons (de_v (i := 0)) (da_cons de_int da_nil))) de_int) (ds_one (ds_putL (i := 9) (de_callR C__law_pick hr (da_cons (de_v (i := 0)) (da_cons (de_v (i := 3)) da_nil))) (de_callR C__law_draw hr (da_cons (de_v (i := 0)) (da_cons (de_len T.b_len (de_b (i := 9))) da_nil))))) ds_nil)
 (ds_cons (ds_app (i := 6) (de_add (de_tup (da_cons (de_v (i := 8)) da_nil)) (de_tuple T.b_tuple (de_b (i := 9)))))
 (ds_one (ds_set (i := 7) sc_L_body.nd (FE.de (fe_call C__law_each_once hr (da_cons (de_add (de_v (i := 7)) (FE.de (fe_lc (own := [("_law_term", 11)]) sc_L_body.nd (di_seq (de_o (i := 9))) (blkOk_by (own := [("_law_term", 11)]) (N := N_sc_L_body) (sc := defScope s_L_body) (by decide +kernel)) (fun _ _ _ _ _ => (dg_name (i := 11) sc_L_body.nd)) (fun _ _ _ _ _ => (dts_one (dt_truth (de_call C__law_is_letter hr (da_cons (de_v (i := 11)) da_nil))))) (fun _ _ _ _ _ => (de_v (i := 11)))))) da_nil)))))))))))
 (ds_one (ds_retO (i := 6)))))
  , fun ds g Kk h => by
    obtain ⟨sh, ls, ths, many, rfl, hsh, ⟨zs, rfl, z1, z2, z3⟩, t1, t2, t3, hm, hc, k⟩ := h
    obtain ⟨a, b, pl, rfl, ha, hb, hab, hpl1, hpl2⟩ := hsh
    obtain ⟨z0, zr, rfl⟩ := List.exists_cons_of_ne_nil z1
    let mk : List D → List Str → Nat → Option DV → Option DV → Option DV → DS (Strm TT) := fun ps ms c' x5 x8 x9 => ⟨(⟨g.st, g.L, c'⟩ : SG), [some (.fz (.raw (.ref g.st))), some (.fz (.dct [.str a, .str b] [.int 2, .int pl])), some (.fz (.lst ((z0 :: zr).map .str))), some (.fz (.lst ths)), some (.fz (.int (many : Int))), x5, some (.own (.lst ps)), some (.fz (.lst (ms.map .str))), x8, x9, none, none]⟩
    simp only [sSeq, sSet, sNew, sNext, sPass, sRet, sIf, sApp, sExt, sDrop, sAsg, wIfE, wTest, wTruth, wBand, wBor, wBnot, wOp, wUn, wCall, wCons, wNil, wTup, wLst]
    refine ⟨by simp, _, rfl, .str z0, by simp [ixN], by simp, _, rfl, (many : Int), rfl, by omega, by omega, ?_⟩
    have hz0 : z0 ∈ sLETT := z3 z0 List.mem_cons_self
    refine forGo_ind (fun rest ρ => ∃ ps ms c' x5 x8 x9, ps.length + rest.length = many ∧ (∀ p ∈ ps, dAtom p) ∧ ms ≠ [] ∧ ms.length ≤ 1 + 2 * ps.length ∧ (∀ z ∈ ms, z ∈ sLETT) ∧ c' ≤ g.c + 10 * ps.length ∧ ρ = mk ps ms c' x5 x8 x9) ?_ ?_ _ _ ⟨[], [z0], g.c, none, none, none, by simp [rngD], by simp, by simp, by simp, by simpa using hz0, by simp, rfl⟩
    · rintro d rest N ρ hN ⟨ps, ms, c', x5, x8, x9, hlen, hps, hm0, hml, hms, hc', rfl⟩
      rw [List.length_cons] at hlen
      refine ⟨_, rfl, _, rfl, .lst [.str a, .str b], rfl, ⟨_, [.str a, .str b], rfl, rfl, by simp, by simp, by show c' ≤ 1000000; omega, fun y hy => ?_⟩⟩
      obtain ⟨nm, hnm, rfl, n, hn, hn1, hn2⟩ : ∃ nm ∈ sNAME, y = .str nm ∧ ∃ n : Nat, valD [.inr a, .inr b] [.int 2, .int pl] (.inr nm) = some (.int (n : Int)) ∧ 1 ≤ n ∧ n ≤ 2 := by
        rcases List.mem_cons.mp hy with rfl | hy
        · exact ⟨a, ha, rfl, 2, by simp [valD], by decide, by decide⟩
        · rw [List.mem_singleton.mp hy]
          refine ⟨b, hb, rfl, pl.toNat, ?_, by omega, by omega⟩
          have : ¬ a = b := hab
          simp [valD, this]
          omega
      refine ⟨_, rfl, _, rfl, .inr nm, [.inr a, .inr b], [.int 2, .int pl], .int (n : Int), rfl, rfl, hn, (n : Int), rfl, by omega, by omega, ?_⟩
      refine ⟨by simp [rngD]; omega, fun i m d' q => ?_, ?_⟩
      · have e : i = 10 := by simpa using m
        subst e
        cases q
      refine lcGo_ind (fun rest acc ρ => ∃ xs : List Str, acc = xs.map D.str ∧ (∀ z ∈ xs, z ∈ sLETT) ∧ acc.length + rest.length = n ∧ ρ = mk ps ms (c' + 1 + acc.length) (some (.fz d)) (some (.fz (.str nm))) x9) ?_ ?_ _ _ _ ⟨[], rfl, by simp, by simp [rngD], rfl⟩
      · rintro d' rest' acc N' ρ hN' ⟨xs, rfl, hxs, hl', rfl⟩
        rw [List.length_cons, List.length_map] at hl'
        refine ⟨_, rfl, _, rfl, ⟨_, _, rfl, rfl, by simp, by rw [List.length_map]; omega, by show c' + 1 + (xs.map D.str).length ≤ 1000000; rw [List.length_map]; omega, fun y hy => hN' _ _ ?_⟩⟩
        obtain ⟨z, hz, rfl⟩ := List.mem_map.mp hy
        refine ⟨xs ++ [z], by simp, fun q hq => ?_, by simp; omega, ?_⟩
        · rcases List.mem_append.mp hq with h | h
          · exact hxs q h
          · rw [List.mem_singleton.mp h]; exact z3 z hz
        · rw [List.length_append]
          rfl
      · rintro acc ρ ⟨xs, rfl, hxs, hl', rfl⟩
        have hl2 : xs.length = n := by simpa using hl'
        have dts : ∀ t ∈ xs.map D.str, dTerm t := fun t ht => by
          obtain ⟨z, hz, rfl⟩ := List.mem_map.mp ht
          exact dTerm_str (hxs z hz)
        obtain ⟨ts, hts⟩ : ∃ ts, ts = xs.map D.str := ⟨_, rfl⟩
        have tl : ts.length = n := by rw [hts, List.length_map]; exact hl2
        rw [← hts] at dts
        -- terms[draw] = pick(met)
        have ixo : ∀ (i : Int), 0 ≤ i → i < n → ixN ts.length i = some i.toNat := fun i i0 i1 => by
          unfold ixN
          rw [if_pos i0, if_pos (by omega)]
        have put : ∀ {ts : List D} (j : Nat) (y : D), (∀ t ∈ ts, dTerm t) → dTerm y → ∀ t ∈ ts.set j y, dTerm t := fun j y h hy t ht => by
          rcases List.mem_or_eq_of_mem_set ht with h' | h'
          · exact h t h'
          · rw [h']; exact hy
        refine ⟨_, rfl, _, rfl, ⟨_, ms.map .str, rfl, rfl, by rw [List.length_map]; exact List.length_pos_iff.mpr hm0, by rw [List.length_map]; omega, by show c' + 1 + (xs.map D.str).length ≤ 1000000; rw [List.length_map]; omega, fun y hy => ⟨⟨_, rfl⟩, ?_⟩⟩⟩
        obtain ⟨zy, hzy, rfl⟩ := List.mem_map.mp hy
        have dy : dTerm (.str zy) := dTerm_str (hms zy hzy)
        rw [← hts]
        refine ⟨_, rfl, .inr ⟨_, rfl, .int (ts.length : Int), rfl, (ts.length : Int), rfl, by show c' + 1 + ts.length + 1 ≤ 1000000; omega, by omega, by omega, fun i i0 i1 => ⟨i, ts, i.toNat, rfl, rfl, ixo i i0 (by omega), ?_⟩⟩⟩
        have d1 := put i.toNat (.str zy) dts dy
        have tl1 : (ts.set i.toNat (.str zy)).length = n := by rw [List.length_set]; exact tl
        generalize ts.set i.toNat (D.str zy) = ts1 at d1 tl1 ⊢
        -- what comes behind the terms
        have fin : ∀ (ts2 : List D) (c2 : Nat), ts2.length = n → (∀ t ∈ ts2, dTerm t) → c2 ≤ c' + 8 → sSeq (sApp 6 (wOp addD (wTup (wCons (wV 8) wNil)) (wUn tupleD (wB 9)))) (sSet 7 (wCall (wF okStrs fun ds => D.lst (List.map D.str (onceS (strsOf (ds.headD D.non))))) (wCons (wOp addD (wV 7) (wLc (wSq (wO 9)) (gNm 11) (wTruth (wCall (wF dTerm1 fun ds => D.bl (isLt (ds.headD D.non))) (wCons (wV 11) wNil))) (wV 11) [11])) wNil)))
            { nx := N, ct := N, bk := sRetO 6 { nx := fun _ => False, rt := fun d g => Kk d g }, rt := fun d g => Kk d g } (mk ps ms c2 (some (.fz d)) (some (.fz (.str nm))) (some (.own (.lst ts2)))) := fun ts2 c2 l2 d2 hc2 => by
          refine ⟨⟨_, rfl⟩, _, rfl, by simp, .inr ⟨_, rfl, .tup ts2, rfl, .tup (.str nm :: ts2), ?_, ps, rfl, by omega, ?_⟩⟩
          · rw [ad_tup, if_pos (by simp; omega)]
            rfl
          refine ⟨_, rfl, ?_⟩
          show wLc (wSq (wO 9)) (gNm 11) (wTruth (wCall (wF dTerm1 fun ds => D.bl (isLt (ds.headD D.non))) (wCons (wV 11) wNil))) (wV 11) [11] (mk (ps ++ [.tup (.str nm :: ts2)]) ms c2 (some (.fz d)) (some (.fz (.str nm))) (some (.own (.lst ts2)))) _
          refine wLc_via (ρ' := mk (ps ++ [D.tup (.str nm :: ts2)]) ms c2 (some (.fz d)) (some (.fz (.str nm))) (some (.fz (.lst ts2)))) (ds := ts2) (fun K' k' => .inr ⟨_, rfl, _, rfl, k'⟩) _ ?_
          refine wLc_filter (ds := ts2) (f := fun d => d) (p := isLt) (x := none) (fun K k => k) (by omega) rfl (fun _ h => by cases h) (fun d hd K k => ⟨d, rfl, ⟨d, rfl, d2 d hd⟩, _, rfl, k⟩) (fun d hd _ K k => ⟨d, rfl, k⟩) _ ?_
          rw [lts_back]
          have fl : ((ts2.filter isLt).map strOf).length ≤ 2 := by
            rw [List.length_map]
            exact Nat.le_trans (List.length_filter_le _ _) (by omega)
          generalize hq : (ts2.filter isLt).map strOf = qs at fl ⊢
          have qm : ∀ z ∈ qs, z ∈ sLETT := fun z hz => by
            rw [← hq] at hz
            obtain ⟨t, ht, rfl⟩ := List.mem_map.mp hz
            obtain ⟨h1, h2⟩ := List.mem_filter.mp ht
            obtain ⟨z', hz', rfl⟩ := List.mem_map.mp (dTerm_lett t (d2 t h1) h2)
            exact hz'
          refine ⟨.lst ((ms ++ qs).map .str), ?_, ⟨ms ++ qs, rfl, by rw [List.length_append]; omega⟩, hN _ ⟨ps ++ [.tup (.str nm :: ts2)], onceS (ms ++ qs), c2, some (.fz d), some (.fz (.str nm)), some (.fz (.lst ts2)), ?_, ?_, ?_, ?_, ?_, ?_, ?_⟩⟩
          · rw [ad_lst, if_pos (by rw [List.length_map, List.length_map]; omega), List.map_append]
          · rw [List.length_append]; simp; omega
          · intro p hp
            rcases List.mem_append.mp hp with h | h
            · exact hps p h
            · rw [List.mem_singleton.mp h]
              exact ⟨nm, ts2, rfl, hnm, by omega, by omega, d2⟩
          · intro h
            obtain ⟨m0, mr, rfl⟩ := List.exists_cons_of_ne_nil hm0
            have := (onceS_mem (m0 :: mr ++ qs) m0).mpr (by simp)
            rw [h] at this
            cases this
          · have h1 := onceS_len (ms ++ qs)
            rw [List.length_append] at h1 ⊢
            simp
            omega
          · intro z hz
            rcases List.mem_append.mp ((onceS_mem _ _).mp hz) with h | h
            · exact hms z h
            · exact qm z h
          · rw [List.length_append]; simp; omega
          · show mk (ps ++ [D.tup (.str nm :: ts2)]) (onceS (strsOf (.lst ((ms ++ qs).map .str)))) c2 (some (.fz d)) (some (.fz (.str nm))) (some (.fz (.lst ts2))) = _
            rw [strsOf_map]
        -- if draw(8) == 0
        refine ⟨_, rfl, 8, rfl, by show c' + 1 + ts.length + 1 + 1 ≤ 1000000; omega, by decide, by decide, fun i8 _ _ => ⟨.bl (decide (i8 = 0)), by simp [eqD, xr]; by_cases h : i8 = 0 <;> simp [h], _, rfl, ?_⟩⟩
        by_cases h8 : i8 = 0
        · rw [decide_eq_true h8]
          refine itT ⟨_, rfl, _, rfl, ⟨_, ths, rfl, rfl, List.length_pos_iff.mpr t1, by omega, by show c' + 1 + ts.length + 1 + 1 + 1 ≤ 1000000; omega, fun y hy => ⟨⟨_, rfl⟩, ?_⟩⟩⟩
          refine ⟨_, rfl, .inr ⟨_, rfl, .int (ts1.length : Int), rfl, (ts1.length : Int), rfl, by show c' + 1 + ts.length + 1 + 1 + 1 + 1 ≤ 1000000; omega, by omega, by omega, fun i i0 i1 => ⟨i, ts1, i.toNat, rfl, rfl, ?_, ?_⟩⟩⟩
          · unfold ixN
            rw [if_pos i0, if_pos (by omega)]
          · exact fin (ts1.set i.toNat y) _ (by rw [List.length_set]; exact tl1) (put i.toNat y d1 (.inr (t3 y hy))) (by show c' + 1 + ts.length + 1 + 1 + 1 + 1 + 1 ≤ _; omega)
        · rw [decide_eq_false h8]
          exact itF (fin ts1 _ tl1 d1 (by show c' + 1 + ts.length + 1 + 1 + 1 ≤ _; omega))
    · rintro ρ ⟨ps, ms, c', x5, x8, x9, hlen, hps, hm0, hml, hms, hc', rfl⟩
      have hl : ps.length = many := by simpa using hlen
      exact ⟨_, rfl, k ps c' hl hps (by omega)⟩⟩
end
end L31

set_option Elab.async false
set_option linter.all false
set_option maxRecDepth 100000
set_option maxHeartbeats 4000000
namespace L31
open PySem PySem.Spec PyProof.Rows L2 Q
theorem seq_cut {R : Rgn} {w1 w2 : WS R} {Dk} {ρ : DS R} (I : DS R → Prop) (h1 : ∀ N, (∀ ρ', I ρ' → N ρ') → w1 { Dk with nx := N } ρ) (h2 : ∀ ρ', I ρ' → w2 Dk ρ') : sSeq w1 w2 Dk ρ := h1 _ h2
theorem eq_nil (zs : List Str) : eqD false (.lst (zs.map .str)) (.lst []) = some (.bl (decide (zs = []))) := by
  unfold eqD
  have h := (strs_dat zs).1
  cases zs with
  | nil => simp [xr]
  | cons z zs => simp at h; simp [h, xr, deqs]
theorem eq_int0 (i : Int) : eqD false (.int i) (.int 0) = some (.bl (decide (i = 0))) := by
  simp [eqD, xr]
  by_cases h : i = 0 <;> simp [h]
/-- letters that are met in the plain atoms -/
def gMet (ps : List D) (ms : List Str) : Prop := 1 ≤ ps.length ∧ ps.length ≤ 2 ∧ (∀ p ∈ ps, dAtom p) ∧ ms ≠ [] ∧ ms.length ≤ 12 ∧ ms.Nodup ∧ (∀ z ∈ ms, z ∈ sLETT) ∧ ∀ z ∈ ms, z ∈ lettersP ps
/-- what may stand behind the plain atoms -/
def gExt (ms : List Str) (p : D) : Prop := (∃ a b, p = .tup [.str "unlike", .str a, .str b] ∧ a ∈ ms ∧ b ∈ ms) ∨
  ∃ (z : Str) (zs : List Str), p = .tup [.str "not", .tup (.str z :: zs.map .str)] ∧ z ∈ sNAME ∧ 1 ≤ zs.length ∧ zs.length ≤ 2 ∧ ∀ y ∈ zs, y ∈ ms
def sHEAD : List Str := ["n0", "n1", "n2", "n3"]
def sWORD : List Str := ["count", "sum", "least", "most"]
/-- a drawn fold -/
def gFold (d : D) : Prop := ∃ (wd hz : Str) (ts : List D) (bs : List Str) (ps ex : List D) (ms : List Str), d = .tup [.str wd, .tup (.str hz :: ts), .tup (bs.map .str), .tup (ps ++ ex)] ∧ wd ∈ sWORD ∧ hz ∈ sHEAD ∧ ts.length ≤ 2 ∧ (∀ t ∈ ts, (∃ z ∈ ms, t = .str z) ∨ t ∈ dTHING) ∧
  bs ≠ [] ∧ bs.length ≤ 2 ∧ bs.Nodup ∧ (∀ z ∈ bs, z ∈ ms) ∧ gMet ps ms ∧ ex.length ≤ 2 ∧ ∀ p ∈ ex, gExt ms p
theorem strs_of_mem {ms : List Str} {ys : List D} (h : ∀ y ∈ ys, y ∈ ms.map D.str) : ∃ bs : List Str, ys = bs.map D.str ∧ ∀ z ∈ bs, z ∈ ms := by
  induction ys with
  | nil => exact ⟨[], rfl, by simp⟩
  | cons y ys ih =>
    obtain ⟨bs, e, hb⟩ := ih fun q hq => h q (List.mem_cons_of_mem _ hq)
    obtain ⟨z, hz, rfl⟩ := List.mem_map.mp (h y List.mem_cons_self)
    refine ⟨z :: bs, by rw [e]; rfl, fun q hq => ?_⟩
    rcases List.mem_cons.mp hq with rfl | hq
    · exact hz
    · exact hb q hq
theorem nodup_of_map {zs : List Str} (h : (zs.map D.str).Nodup) : zs.Nodup := (List.pairwise_map.mp h).imp fun q e => q (congrArg D.str e)
theorem nodup_to_map {zs : List Str} (h : zs.Nodup) : (zs.map D.str).Nodup := List.pairwise_map.mpr (h.imp fun q e => q (D.str.inj e))
/-- rows of one letter -/
theorem letters_X (nm : Str) (h : nm ∈ sNAME) (n : Nat) : ("X" : Str) ∈ lettersP [.tup (.str nm :: List.replicate (n + 1) (.str "X"))] := by
  rw [lettersP_once, onceS_mem]
  have e : termsP (.tup (.str nm :: List.replicate (n + 1) (.str "X"))) = List.replicate (n + 1) (.str "X") := by
    simp only [termsP, name_not h]; rfl
  rw [List.flatMap_cons, List.flatMap_nil, List.append_nil, e]
  exact List.mem_map.mpr ⟨.str "X", List.mem_filter.mpr ⟨List.mem_replicate.mpr ⟨by omega, rfl⟩, by decide +kernel⟩, rfl⟩
def mWFold (TT : TbL) : WMR (Strm TT) := fun ds g Kk => ∃ (sh : D) (ths : List D), ds = [.raw (.ref g.st), sh, .lst ths, .bl true] ∧ dShape sh ∧ ths ≠ [] ∧ ths.length ≤ 10 ∧ (∀ t ∈ ths, t ∈ dTHING) ∧ g.c ≤ 700000 ∧
  ∀ (d : D) (c' : Nat), gFold d → c' ≤ g.c + 100 → Kk d (⟨g.st, g.L, c'⟩ : SG)
section
variable {P : Program} {w : World} {K : PySem.W.Frag} {mg : Str → Option Value} {base : Heap} {f : Addr} {fd : FuncData} {TT : TbL}
-- _law_w_fold: slots 0 _law_stream, 1 _law_shape_here, 2 _law_things_here, 3 _law_has_nots, 4 _law_letters_here, 5 _law_body_here, 6 _law_met, 7 _law_other, 8 _law_heads, 9 _law_name, 10 _law_by, 11 _law_word, 12 _law_one, 13 _law_place
abbrev s_L_w_fold : Stmt := (top 49)
abbrev N_sc_L_w_fold : List Str := ["_law_stream", "_law_shape_here", "_law_things_here", "_law_has_nots", "_law_letters_here", "_law_body_here", "_law_met", "_law_other", "_law_heads", "_law_name", "_law_by", "_law_word", "_law_one", "_law_place"]
theorem sc_L_w_fold : FnScope N_sc_L_w_fold ["_law_stream", "_law_shape_here", "_law_things_here", "_law_has_nots"] (defScope s_L_w_fold) := ⟨rfl, rfl, rfl, by decide +kernel, rfl, by decide +kernel, by decide +kernel⟩
theorem ok_L_w_fold (F : FnP K "_law_w_fold" "_law_w_fold" s_L_w_fold f fd) (T : Tx K mg) (C__law_pick : Cal P w K mg base "_law_pick" 2 ["_law_stream", "_law_some"] (spR (Strm TT) K (mPick TT))) (C__law_mixed : Cal P w K mg base "_law_mixed" 2 ["_law_stream", "_law_some"] (spRF (Strm TT) K (mMixed TT)))
    (C__law_draw : Cal P w K mg base "_law_draw" 1 ["_law_stream", "_law_many"] (spR (Strm TT) K (mDraw TT))) (C__law_body : Cal P w K mg base "_law_body" 3 ["_law_stream", "_law_shape_here", "_law_letters_here", "_law_things_here", "_law_many"] (spRF (Strm TT) K (mBody TT)))
    (C__law_letters : Cal P w K mg base "_law_letters" 2 ["_law_body_here"] (spF K (wF okAtoms fun ds => .lst ((lettersP ((sqOf (ds.headD .non)).getD [])).map .str)))) :
    FnOk P w K mg base CX0 4 f fd ["_law_stream", "_law_shape_here", "_law_things_here", "_law_has_nots"] (spR (Strm TT) K (mWFold TT)) :=
  FnR F sc_L_w_fold (fun ds g Kk h => by obtain ⟨_, _, rfl, _⟩ := h; rfl) fun cdv A outer s H Fz Z E hr => ⟨_, 
(ds_cons (ds_set (i := 4) sc_L_w_fold.nd (de_slH (FE.de (fe_callR C__law_mixed hr (da_cons (de_v (i := 0)) (da_cons (FE.de (fe_lst (da_cons de_str (da_cons de_str (da_cons de_str da_nil))))) da_nil)))) (de_add de_int (de_callR C__law_draw hr (da_cons (de_v (i := 0)) (da_cons de_int da_nil))))))
 (ds_cons (ds_set (i := 5) sc_L_w_fold.nd (FE.de (fe_callR C__law_body hr (da_cons (de_v (i := 0)) (da_cons (de_v (i := 1)) (da_cons (de_v (i := 4)) (da_cons (de_v (i := 2)) (da_cons (de_add de_int (de_callR C__law_draw hr (da_cons (de_v (i := 0)) (da_cons de_int da_nil)))) da_nil))))))))
 (ds_cons (ds_set (i := 6) sc_L_w_fold.nd (FE.de (fe_call C__law_letters hr (da_cons (de_v (i := 5)) da_nil))))
 (ds_cons (ds_if (dt_cm (c_eq hr) (de_v (i := 6)) (FE.de (fe_lst da_nil))) (ds_cons (ds_set (i := 9) sc_L_w_fold.nd (de_callR C__law_pick hr (da_cons (de_v (i := 0)) (da_cons (FE.de (fe_listK T.b_list (de_v (i := 1)))) da_nil))))
 (ds_one (ds_asg (de_tup (da_cons (FE.de (fe_lst (da_cons (de_add (de_tup (da_cons (de_v (i := 9)) da_nil)) (de_tuple T.b_tuple (de_mul (FE.de (fe_lst (da_cons de_str da_nil))) (de_dget hr (de_v (i := 1)) (de_v (i := 9)))))) da_nil))) (da_cons (FE.de (fe_lst (da_cons de_str da_nil))) da_nil))) (dg_tup (n := 2) (dgs_cons (dg_name (i := 5) sc_L_w_fold.nd) (dgs_cons (dg_name (i := 6) sc_L_w_fold.nd) dgs_nil)))))) ds_nil)
 (ds_cons (ds_if (DW.dt (dw_and (dt_cm c_gt (de_len T.b_len (de_v (i := 6))) de_int) (dw_and1 (dt_cm (c_eq hr) (de_callR C__law_draw hr (da_cons (de_v (i := 0)) (da_cons de_int da_nil))) de_int)))) (ds_one (ds_set (i := 5) sc_L_w_fold.nd (de_add (de_v (i := 5)) (FE.de (fe_lst (da_cons (de_tup (da_cons de_str (da_cons (de_ixA (de_v (i := 6)) de_int) (da_cons (de_ixA (de_v (i := 6)) de_int) da_nil)))) da_nil)))))) ds_nil)
 (ds_cons (ds_if (DW.dt (dw_and (dt_truth (de_v (i := 3))) (dw_and1 (dt_cm (c_eq hr) (de_callR C__law_draw hr (da_cons (de_v (i := 0)) (da_cons de_int da_nil))) de_int)))) (ds_cons (ds_set (i := 9) sc_L_w_fold.nd (de_callR C__law_pick hr (da_cons (de_v (i := 0)) (da_cons (FE.de (fe_listK T.b_list (de_v (i := 1)))) da_nil))))
 (ds_one (ds_set (i := 5) sc_L_w_fold.nd (de_add (de_v (i := 5)) (FE.de (fe_lst (da_cons (de_tup (da_cons de_str (da_cons (de_add (de_tup (da_cons (de_v (i := 9)) da_nil)) (de_tuple T.b_tuple (FE.de (fe_lc (own := [("_law_place", 13)]) sc_L_w_fold.nd (di_rng T.b_range (de_dget hr (de_v (i := 1)) (de_v (i := 9)))) (blkOk_by (own := [("_law_place", 13)]) (N := N_sc_L_w_fold) (sc := defScope s_L_w_fold) (by decide +kernel)) (fun _ _ _ _ _ => (dg_name (i := 13) sc_L_w_fold.nd)) (fun _ _ _ _ _ => dts_nil) (fun _ _ _ _ _ => (de_callR C__law_pick hr (da_cons (de_v (i := 0)) (da_cons (de_v (i := 6)) da_nil)))))))) da_nil))) da_nil))))))) ds_nil)
 (ds_cons (ds_par2 (i := 9) (k := 10) sc_L_w_fold.nd (by decide) (da_cons (de_callR C__law_pick hr (da_cons (de_v (i := 0)) (da_cons (FE.de (fe_lst (da_cons de_str (da_cons de_str da_nil)))) da_nil))) (da_cons (de_slH (FE.de (fe_callR C__law_mixed hr (da_cons (de_v (i := 0)) (da_cons (de_v (i := 6)) da_nil)))) (de_add de_int (de_callR C__law_draw hr (da_cons (de_v (i := 0)) (da_cons de_int da_nil))))) da_nil)))
 (ds_cons (ds_par2 (i := 11) (k := 12) sc_L_w_fold.nd (by decide) (da_cons (de_callR C__law_pick hr (da_cons (de_v (i := 0)) (da_cons (FE.de (fe_lst (da_cons de_str (da_cons de_str (da_cons de_str (da_cons de_str da_nil)))))) da_nil))) (da_cons (de_callR C__law_pick hr (da_cons (de_v (i := 0)) (da_cons (de_v (i := 6)) da_nil))) da_nil)))
 (ds_cons (ds_set (i := 7) sc_L_w_fold.nd (de_callR C__law_pick hr (da_cons (de_v (i := 0)) (da_cons (de_add (de_v (i := 6)) (de_v (i := 2))) da_nil))))
 (ds_cons (ds_set (i := 8) sc_L_w_fold.nd (FE.de (fe_lst (da_cons (de_tup (da_cons de_str da_nil)) (da_cons (de_tup (da_cons (de_v (i := 9)) (da_cons (de_v (i := 12)) da_nil))) (da_cons (de_tup (da_cons (de_v (i := 9)) (da_cons (de_v (i := 12)) da_nil))) (da_cons (de_tup (da_cons (de_v (i := 9)) (da_cons (de_callR C__law_pick hr (da_cons (de_v (i := 0)) (da_cons (de_v (i := 2)) da_nil))) da_nil))) (da_cons (de_tup (da_cons de_str (da_cons (de_v (i := 12)) (da_cons (de_v (i := 7)) da_nil)))) da_nil))))))))
 (ds_one (ds_ret (de_tup (da_cons (de_v (i := 11)) (da_cons (de_callR C__law_pick hr (da_cons (de_v (i := 0)) (da_cons (de_v (i := 8)) da_nil))) (da_cons (de_tuple T.b_tuple (de_v (i := 10))) (da_cons (de_tuple T.b_tuple (de_v (i := 5))) da_nil)))))))))))))))))
  , fun ds g Kk h => by
    obtain ⟨sh, ths, rfl, hsh, t1, t2, t3, hc, k⟩ := h
    have hsh' := hsh
    obtain ⟨a, b, pl, rfl, ha, hb, hab, hpl1, hpl2⟩ := hsh
    let mk : Nat → Option DV → Option DV → Option DV → Option DV → Option DV → Option DV → Option DV → Option DV → Option DV → Option DV → DS (Strm TT) := fun c' x4 x5 x6 x7 x8 x9 x10 x11 x12 x13 => ⟨(⟨g.st, g.L, c'⟩ : SG), [some (.fz (.raw (.ref g.st))), some (.fz (.dct [.str a, .str b] [.int 2, .int pl])), some (.fz (.lst ths)), some (.fz (.bl true)), x4, x5, x6, x7, x8, x9, x10, x11, x12, x13]⟩
    let L : List Str → Option DV := fun zs => some (.fz (.lst (zs.map .str)))
    have nmk : ∀ y ∈ ([.str a, .str b] : List D), ∃ nm ∈ sNAME, y = .str nm ∧ ∃ n : Nat, valD [.inr a, .inr b] [.int 2, .int pl] (.inr nm) = some (.int (n : Int)) ∧ 1 ≤ n ∧ n ≤ 2 := fun y hy => by
      rcases List.mem_cons.mp hy with rfl | hy
      · exact ⟨a, ha, rfl, 2, by simp [valD], by decide, by decide⟩
      · rw [List.mem_singleton.mp hy]
        refine ⟨b, hb, rfl, pl.toNat, ?_, by omega, by omega⟩
        have : ¬ a = b := hab
        simp [valD, this]
        omega
    show sSeq _ _ _ (mk g.c none none none none none none none none none none)
    refine seq_cut (fun ρ => ∃ zs : List Str, okLs (zs.map D.str) ∧ ρ = mk (g.c + 4) (L zs) none none none none none none none none none) (fun N hN => ?_) ?_
    · refine ⟨_, rfl, by simp, ?_⟩
      refine ⟨_, sLETT.map D.str, rfl, rfl, by decide, by show g.c + 3 ≤ 1000000; omega, fun ys hp => ?_⟩
      have hl : ys.length = 3 := hp.length_eq
      obtain ⟨zs, rfl, hz⟩ := strs_of_mem (ms := sLETT) fun y hy => hp.mem_iff.mp hy
      refine ⟨_, rfl, 2, rfl, by show g.c + 3 ≤ 1000000; omega, by decide, by decide, fun i i0 i1 => ?_⟩
      refine ⟨_, rfl, 2 + i, .lst ((zs.map D.str).take (2 + i.toNat)), rfl, ?_, hN _ ⟨zs.take (2 + i.toNat), ⟨_, rfl, ?_, ?_, ?_⟩, ?_⟩⟩
      · have e : (2 + i : Int) = ((2 + i.toNat : Nat) : Int) := by omega
        rw [e]
        exact congrArg (fun q => some (D.lst q)) (cut_to _ _ (by omega))
      · intro h
        have := congrArg List.length h
        rw [List.length_map] at hl
        rw [List.length_take, List.length_nil] at this
        omega
      · rw [List.length_map] at hl
        rw [List.length_take]
        omega
      · exact fun z hz' => hz z (List.mem_of_mem_take hz')
      · show mk (g.c + 4) (some (.fz (.lst ((zs.map D.str).take (2 + i.toNat))))) none none none none none none none none none = _
        rw [← List.map_take]
    rintro ρ ⟨zs, hzs, rfl⟩
    refine seq_cut (fun ρ => ∃ (ps : List D) (c' : Nat), 1 ≤ ps.length ∧ ps.length ≤ 2 ∧ (∀ p ∈ ps, dAtom p) ∧ c' ≤ g.c + 25 ∧ ρ = mk c' (L zs) (some (.fz (.lst ps))) none none none none none none none none) (fun N hN => ?_) ?_
    · refine ⟨_, rfl, _, rfl, _, rfl, _, rfl, _, rfl, 2, rfl, by show g.c + 4 ≤ 1000000; omega, by decide, by decide, fun i i0 i1 => ?_⟩
      refine ⟨_, rfl, ?_⟩
      refine ⟨_, zs.map D.str, ths, (1 + i).toNat, ?_, hsh', hzs, t1, t2, t3, by omega, by show g.c + 4 + 1 ≤ 800000; omega, fun ps c' hl hps hc' => ?_⟩
      · have : ((1 + i).toNat : Int) = 1 + i := by omega
        rw [this]
      · exact hN _ ⟨ps, c', by omega, by omega, hps, Nat.le_trans hc' (by show g.c + 4 + 1 + 20 ≤ _; omega), rfl⟩
    rintro ρ ⟨ps, c1, hl1, hl2, hps, hc1, rfl⟩
    refine seq_cut (fun ρ => ρ = mk c1 (L zs) (some (.fz (.lst ps))) (L (lettersP ps)) none none none none none none none) (fun N hN => ?_) ?_
    · exact ⟨_, rfl, ⟨ps, rfl, by omega, hps⟩, hN _ rfl⟩
    rintro ρ rfl
    have l12 : (lettersP ps).length ≤ 12 := by
      have := lettersP_len fun p hp => (hps p hp).ok.1
      omega
    refine seq_cut (fun ρ => ∃ (x9 : Option DV) (ps : List D) (ms : List Str) (c' : Nat), gMet ps ms ∧ c' ≤ g.c + 26 ∧ ρ = mk c' (L zs) (some (.fz (.lst ps))) (L ms) none none x9 none none none none) (fun N hN => ?_) ?_
    · refine ⟨_, rfl, by simp, _, eq_nil _, _, rfl, ?_⟩
      by_cases h0 : lettersP ps = []
      · rw [decide_eq_true h0]
        refine itT ?_
        refine ⟨_, rfl, _, rfl, .lst [.str a, .str b], rfl, ⟨_, [.str a, .str b], rfl, rfl, by simp, by simp, by show c1 ≤ 1000000; omega, fun y hy => ?_⟩⟩
        obtain ⟨nm, hnm, rfl, n, hn, hn1, hn2⟩ := nmk y hy
        refine ⟨_, rfl, by simp, by simp, _, rfl, _, rfl, .inr nm, [.inr a, .inr b], [.int 2, .int pl], .int (n : Int), rfl, rfl, hn, .lst (List.replicate n (.str "X")), ?_, .tup (List.replicate n (.str "X")), rfl, .tup (.str nm :: List.replicate n (.str "X")), ?_, by simp, by simp, by simp, ?_⟩
        · simp [mulD]
          omega
        · rw [ad_tup, if_pos (by simp; omega)]
          rfl
        · refine ⟨_, rfl, rfl, _, _, rfl, _, _, rfl, rfl, hN _ ⟨some (.fz (.str nm)), [.tup (.str nm :: List.replicate n (.str "X"))], ["X"], c1 + 1, ?_, by omega, rfl⟩⟩
          refine ⟨by simp, by simp, fun p hp => ?_, by simp, by simp, by simp, by decide, fun z hz => ?_⟩
          · rw [List.mem_singleton.mp hp]
            exact ⟨nm, _, rfl, hnm, by simp; omega, by simp; omega, fun t ht => by rw [(List.mem_replicate.mp ht).2]; exact dTerm_str (by decide)⟩
          · rw [List.mem_singleton.mp hz]
            obtain ⟨m, rfl⟩ : ∃ m, n = m + 1 := ⟨n - 1, by omega⟩
            exact letters_X nm hnm m
      · rw [decide_eq_false h0]
        refine itF (hN _ ⟨none, ps, lettersP ps, c1, ⟨hl1, hl2, hps, h0, l12, ?_, fun z hz => ?_, fun z hz => hz⟩, by omega, rfl⟩)
        · rw [lettersP_once]; exact onceS_nodup _
        · rw [lettersP_once, onceS_mem] at hz
          obtain ⟨t, ht, rfl⟩ := List.mem_map.mp hz
          obtain ⟨h1, h2⟩ := List.mem_filter.mp ht
          obtain ⟨p, hp, h3⟩ := List.mem_flatMap.mp h1
          obtain ⟨_, ts, rfl, h4, _, _, _, h5⟩ := (hps p hp).terms
          rw [h4] at h3
          obtain ⟨z', hz', rfl⟩ := List.mem_map.mp (dTerm_lett t (h5 t h3) h2)
          exact hz'
    clear l12 hps hl1 hl2 hc1
    clear ps c1
    rintro ρ ⟨x9, ps, ms, c1, hg, hc1, rfl⟩
    obtain ⟨g1, g2, g3, g4, g5, g6, g7, g8⟩ := id hg
    refine seq_cut (fun ρ => ∃ (ex : List D) (c' : Nat), ex.length ≤ 1 ∧ (∀ p ∈ ex, gExt ms p) ∧ c' ≤ g.c + 27 ∧ ρ = mk c' (L zs) (some (.fz (.lst (ps ++ ex)))) (L ms) none none x9 none none none none) (fun N hN => ?_) ?_
    · have no : ∀ c', c' ≤ g.c + 27 → N (mk c' (L zs) (some (.fz (.lst ps))) (L ms) none none x9 none none none none) := fun c' h => hN _ ⟨[], c', by simp, by simp, h, by rw [List.append_nil]⟩
      refine ⟨_, rfl, .int ((ms.map D.str).length : Nat), rfl, .bl (decide (1 < ms.length)), ?_, _, rfl, ?_⟩
      · rw [cm_int, List.length_map]
        congr 2
        exact decide_eq_decide.mpr (by omega)
      by_cases h1 : 1 < ms.length
      · rw [decide_eq_true h1]
        refine itT ⟨_, rfl, 5, rfl, by show c1 ≤ 1000000; omega, by decide, by decide, fun i _ _ => ⟨.bl (decide (i = 0)), eq_int0 i, _, rfl, ?_⟩⟩
        by_cases h8 : i = 0
        · rw [decide_eq_true h8]
          match ms, h1, g7 with
          | m0 :: m1 :: mr, _, _ =>
          refine itT ⟨_, rfl, _, rfl, .str m0, ?_, _, rfl, .str m1, ?_, by simp, by simp, .lst (ps ++ [.tup [.str "unlike", .str m0, .str m1]]), ?_, hN _ ⟨[.tup [.str "unlike", .str m0, .str m1]], c1 + 1, by simp, fun p hp => ?_, by omega, rfl⟩⟩
          · simp [ixN]
            rw [if_pos (by omega)]; rfl
          · simp [ixN]
            rw [if_pos (by omega)]; rfl
          · rw [ad_lst, if_pos (by simp; omega)]
          · rw [List.mem_singleton.mp hp]
            exact .inl ⟨m0, m1, rfl, by simp, by simp⟩
        · rw [decide_eq_false h8]
          exact itF (no _ (by show c1 + 1 ≤ _; omega))
      · rw [decide_eq_false h1]
        exact itF (no _ (by show c1 ≤ _; omega))
    clear hc1
    clear c1
    rintro ρ ⟨ex, c1, e1, e2, hc1, rfl⟩
    refine seq_cut (fun ρ => ∃ (x9 x13 : Option DV) (ex : List D) (c' : Nat), ex.length ≤ 2 ∧ (∀ p ∈ ex, gExt ms p) ∧ c' ≤ g.c + 31 ∧ ρ = mk c' (L zs) (some (.fz (.lst (ps ++ ex)))) (L ms) none none x9 none none none x13) (fun N hN => ?_) ?_
    · have no : ∀ c', c' ≤ g.c + 31 → N (mk c' (L zs) (some (.fz (.lst (ps ++ ex)))) (L ms) none none x9 none none none none) := fun c' h => hN _ ⟨x9, none, ex, c', by omega, e2, h, rfl⟩
      refine ⟨_, rfl, true, rfl, ?_⟩
      refine itT ⟨_, rfl, 4, rfl, by show c1 ≤ 1000000; omega, by decide, by decide, fun i _ _ => ⟨.bl (decide (i = 0)), eq_int0 i, _, rfl, ?_⟩⟩
      by_cases h8 : i = 0
      · rw [decide_eq_true h8]
        refine itT ⟨_, rfl, _, rfl, .lst [.str a, .str b], rfl, ⟨_, [.str a, .str b], rfl, rfl, by simp, by simp, by show c1 + 1 ≤ 1000000; omega, fun y hy => ?_⟩⟩
        obtain ⟨nm, hnm, rfl, n, hn, hn1, hn2⟩ := nmk y hy
        refine ⟨_, rfl, _, rfl, by simp, ?_⟩
        refine ⟨_, rfl, _, rfl, .inr nm, [.inr a, .inr b], [.int 2, .int pl], .int (n : Int), rfl, rfl, hn, (n : Int), rfl, by omega, by omega, ?_⟩
        refine ⟨by simp [rngD]; omega, fun i m d' q => ?_, ?_⟩
        · have e : i = 13 := by simpa using m
          subst e
          cases q
        refine lcGo_ind (fun rest acc ρ => ∃ xs : List Str, acc = xs.map D.str ∧ (∀ z ∈ xs, z ∈ ms) ∧ acc.length + rest.length = n ∧ ρ = mk (c1 + 2 + acc.length) (L zs) (some (.fz (.lst (ps ++ ex)))) (L ms) none none (some (.fz (.str nm))) none none none none) ?_ ?_ _ _ _ ⟨[], rfl, by simp, by simp [rngD], rfl⟩
        · rintro d' rest' acc N' ρ hN' ⟨xs, rfl, hxs, hl', rfl⟩
          rw [List.length_cons, List.length_map] at hl'
          refine ⟨_, rfl, _, rfl, ⟨_, _, rfl, rfl, by rw [List.length_map]; exact List.length_pos_iff.mpr g4, by rw [List.length_map]; omega, by show c1 + 2 + (xs.map D.str).length ≤ 1000000; rw [List.length_map]; omega, fun y hy => hN' _ _ ?_⟩⟩
          obtain ⟨z, hz, rfl⟩ := List.mem_map.mp hy
          refine ⟨xs ++ [z], by simp, fun q hq => ?_, by simp; omega, ?_⟩
          · rcases List.mem_append.mp hq with h | h
            · exact hxs q h
            · rw [List.mem_singleton.mp h]; exact hz
          · rw [List.length_append]
            rfl
        · rintro acc ρ ⟨xs, rfl, hxs, hl', rfl⟩
          have hl2 : xs.length = n := by simpa using hl'
          refine ⟨.tup (xs.map .str), rfl, .tup (.str nm :: xs.map .str), ?_, by simp, by simp, .lst (ps ++ ex ++ [.tup [.str "not", .tup (.str nm :: xs.map .str)]]), ?_, hN _ ⟨some (.fz (.str nm)), none, ex ++ [.tup [.str "not", .tup (.str nm :: xs.map .str)]], c1 + 2 + (xs.map D.str).length, by rw [List.length_append]; simp; omega, fun p hp => ?_, by rw [List.length_map]; omega, by rw [← List.append_assoc]; rfl⟩⟩
          · rw [ad_tup, if_pos (by simp; omega)]
            rfl
          · rw [ad_lst, if_pos (by simp; omega)]
          · rcases List.mem_append.mp hp with h | h
            · exact e2 p h
            · rw [List.mem_singleton.mp h]
              exact .inr ⟨nm, xs, rfl, hnm, by omega, by omega, hxs⟩
      · rw [decide_eq_false h8]
        exact itF (no _ (by show c1 + 1 ≤ _; omega))
    clear hc1 e1 e2
    clear c1 ex
    rintro ρ ⟨x9, x13, ex, c1, e1, e2, hc1, rfl⟩
    refine seq_cut (fun ρ => ∃ (nm : Str) (bs : List Str) (c' : Nat), nm ∈ sHEAD ∧ bs ≠ [] ∧ bs.length ≤ 2 ∧ bs.Nodup ∧ (∀ z ∈ bs, z ∈ ms) ∧ c' ≤ g.c + 45 ∧ ρ = mk c' (L zs) (some (.fz (.lst (ps ++ ex)))) (L ms) none none (some (.fz (.str nm))) (L bs) none none x13) (fun N hN => ?_) ?_
    · refine ⟨_, rfl, by simp, ⟨_, [.str "n1", .str "n2"], rfl, rfl, by decide, by decide, by show c1 ≤ 1000000; omega, fun y hy => ?_⟩⟩
      obtain ⟨nm, hnm, rfl⟩ : ∃ nm ∈ sHEAD, y = .str nm := by
        rcases List.mem_cons.mp hy with rfl | hy
        · exact ⟨"n1", by decide, rfl⟩
        · rw [List.mem_singleton.mp hy]
          exact ⟨"n2", by decide, rfl⟩
      refine ⟨_, rfl, _, rfl, ⟨_, ms.map D.str, rfl, rfl, by rw [List.length_map]; omega, by rw [List.length_map]; show c1 + 1 + ms.length ≤ 1000000; omega, fun ys hp => ?_⟩⟩
      have hl : ys.length = ms.length := by rw [hp.length_eq, List.length_map]
      have nd : ys.Nodup := hp.nodup_iff.mpr (nodup_to_map g6)
      obtain ⟨qs, rfl, hqs⟩ := strs_of_mem (ms := ms) fun y hy => hp.mem_iff.mp hy
      have nd := nodup_of_map nd
      rw [List.length_map] at hl
      have g4' : 0 < ms.length := List.length_pos_iff.mpr g4
      refine ⟨_, rfl, 2, rfl, by show c1 + 1 + (ms.map D.str).length ≤ 1000000; rw [List.length_map]; omega, by decide, by decide, fun i i0 i1 => ?_⟩
      refine ⟨_, rfl, 1 + i, .lst ((qs.take (1 + i.toNat)).map .str), rfl, ?_, _, _, rfl, hN _ ⟨nm, qs.take (1 + i.toNat), c1 + 1 + (ms.map D.str).length + 1, hnm, ?_, ?_, ?_, ?_, ?_, rfl⟩⟩
      · have e : (1 + i : Int) = ((1 + i.toNat : Nat) : Int) := by omega
        rw [e]
        have cut : Q.cutD (qs.map D.str) none (some ((1 + i.toNat : Nat) : Int)) = (qs.map D.str).take (1 + i.toNat) := by
          unfold Q.cutD
          rw [HT.sIx_none, HT.sIx_nat, List.drop_zero, Nat.sub_zero]
          by_cases h : 1 + i.toNat ≤ (qs.map D.str).length
          · rw [Nat.min_eq_left h]
          · rw [Nat.min_eq_right (by omega), List.take_of_length_le (Nat.le_refl _), List.take_of_length_le (by omega)]
        rw [List.map_take]
        exact congrArg (fun q => some (D.lst q)) cut
      · intro h
        have := congrArg List.length h
        rw [List.length_take, List.length_nil] at this
        omega
      · rw [List.length_take]; omega
      · exact nd.sublist (List.take_sublist _ _)
      · exact fun z hz => hqs z (List.mem_of_mem_take hz)
      · rw [List.length_map]; omega
    clear hc1
    clear c1
    rintro ρ ⟨nm, bs, c1, hnm, b1, b2, b3, b4, hc1, rfl⟩
    refine seq_cut (fun ρ => ∃ (wd o : Str), wd ∈ sWORD ∧ o ∈ ms ∧ ρ = mk (c1 + 2) (L zs) (some (.fz (.lst (ps ++ ex)))) (L ms) none none (some (.fz (.str nm))) (L bs) (some (.fz (.str wd))) (some (.fz (.str o))) x13) (fun N hN => ?_) ?_
    · refine ⟨_, rfl, by simp, ⟨_, sWORD.map .str, rfl, rfl, by decide, by decide, by show c1 ≤ 1000000; omega, fun y hy => ?_⟩⟩
      obtain ⟨wd, hwd, rfl⟩ := List.mem_map.mp hy
      refine ⟨_, rfl, _, rfl, ⟨_, ms.map .str, rfl, rfl, by rw [List.length_map]; exact List.length_pos_iff.mpr g4, by rw [List.length_map]; omega, by show c1 + 1 ≤ 1000000; omega, fun y hy => ?_⟩⟩
      obtain ⟨o, ho, rfl⟩ := List.mem_map.mp hy
      exact ⟨_, _, rfl, hN _ ⟨wd, o, hwd, ho, rfl⟩⟩
    rintro ρ ⟨wd, o, hwd, ho, rfl⟩
    refine seq_cut (fun ρ => ∃ (q : D), ((∃ z ∈ ms, q = .str z) ∨ q ∈ dTHING) ∧ ρ = mk (c1 + 3) (L zs) (some (.fz (.lst (ps ++ ex)))) (L ms) (some (.fz q)) none (some (.fz (.str nm))) (L bs) (some (.fz (.str wd))) (some (.fz (.str o))) x13) (fun N hN => ?_) ?_
    · refine ⟨_, rfl, _, rfl, _, rfl, .lst (ms.map .str ++ ths), ?_, ⟨_, ms.map .str ++ ths, rfl, rfl, ?_, by rw [List.length_append, List.length_map]; omega, by show c1 + 2 ≤ 1000000; omega, fun y hy => hN _ ⟨y, ?_, rfl⟩⟩⟩
      · rw [ad_lst, if_pos (by rw [List.length_map]; omega)]
      · have := List.length_pos_iff.mpr g4
        rw [List.length_append, List.length_map]; omega
      · rcases List.mem_append.mp hy with h | h
        · obtain ⟨z, hz, rfl⟩ := List.mem_map.mp h
          exact .inl ⟨z, hz, rfl⟩
        · exact .inr (t3 y h)
    rintro ρ ⟨q, hq, rfl⟩
    refine seq_cut (fun ρ => ∃ (r : D), r ∈ dTHING ∧ ρ = mk (c1 + 4) (L zs) (some (.fz (.lst (ps ++ ex)))) (L ms) (some (.fz q)) (some (.fz (.lst [.tup [.str "n0"], .tup [.str nm, .str o], .tup [.str nm, .str o], .tup [.str nm, r], .tup [.str "n3", .str o, q]]))) (some (.fz (.str nm))) (L bs) (some (.fz (.str wd))) (some (.fz (.str o))) x13) (fun N hN => ?_) ?_
    · refine ⟨by simp, _, rfl, _, rfl, by simp, _, rfl, _, rfl, by simp, _, rfl, _, rfl, _, rfl, ⟨_, ths, rfl, rfl, List.length_pos_iff.mpr t1, by omega, by show c1 + 3 ≤ 1000000; omega, fun y hy => ?_⟩⟩
      exact ⟨by simp, _, rfl, _, rfl, by simp, by simp, hN _ ⟨y, t3 y hy, rfl⟩⟩
    rintro ρ ⟨r, hr', rfl⟩
    refine ⟨_, rfl, _, rfl, _, rfl, ⟨_, [.tup [.str "n0"], .tup [.str nm, .str o], .tup [.str nm, .str o], .tup [.str nm, r], .tup [.str "n3", .str o, q]], rfl, rfl, by simp, by simp, by show c1 + 4 ≤ 1000000; omega, fun y hy => ?_⟩⟩
    refine ⟨_, rfl, .tup (bs.map .str), rfl, _, rfl, .tup (ps ++ ex), rfl, by simp, k _ _ ?_ (by show c1 + 4 + 1 ≤ _; omega)⟩
    have mkF : ∀ (hz : Str) (ts : List D), hz ∈ sHEAD → ts.length ≤ 2 → (∀ t ∈ ts, (∃ z ∈ ms, t = .str z) ∨ t ∈ dTHING) → gFold (.tup [.str wd, .tup (.str hz :: ts), .tup (bs.map .str), .tup (ps ++ ex)]) := fun hz ts h1 h2 h3 => ⟨wd, hz, ts, bs, ps, ex, ms, rfl, hwd, h1, h2, h3, b1, b2, b3, b4, hg, e1, e2⟩
    simp only [List.mem_cons, List.not_mem_nil, or_false] at hy
    rcases hy with rfl | rfl | rfl | rfl | rfl
    · exact mkF "n0" [] (by decide) (by simp) (by simp)
    · exact mkF nm [.str o] hnm (by simp) (by simp [ho])
    · exact mkF nm [.str o] hnm (by simp) (by simp [ho])
    · exact mkF nm [r] hnm (by simp) (fun t ht => by rw [List.mem_singleton.mp ht]; exact .inr hr')
    · refine mkF "n3" [.str o, q] (by decide) (by simp) (fun t ht => ?_)
      rcases List.mem_cons.mp ht with rfl | ht
      · exact .inl ⟨o, ho, rfl⟩
      · rw [List.mem_singleton.mp ht]; exact hq⟩
end
end L31

set_option Elab.async false
set_option linter.all false
set_option maxRecDepth 100000
set_option maxHeartbeats 4000000
namespace L31
open PySem PySem.Spec PyProof.Rows L2 Q
/-! lists for tuples -/
mutual
def norm : D → D
  | .lst xs => .lst (norms xs)
  | .tup xs => .lst (norms xs)
  | .non => .non
  | .bl b => .bl b
  | .int i => .int i
  | .str z => .str z
  | .dct a b => .dct a b
  | .dtt a b => .dtt a b
  | .ins C a b => .ins C a b
  | .raw v => .raw v
def norms : List D → List D
  | [] => []
  | x :: xs => norm x :: norms xs
end
mutual
def cnt : D → Nat
  | .lst xs => cnts xs + 1
  | .tup xs => cnts xs + 1
  | _ => 0
def cnts : List D → Nat
  | [] => 0
  | x :: xs => cnt x + cnts xs
end
/-! no more than so many things in a row, at any depth -/
mutual
def wid : D → Bool
  | .lst xs => decide (xs.length ≤ 1000) && wids xs
  | .tup xs => decide (xs.length ≤ 1000) && wids xs
  | _ => true
def wids : List D → Bool
  | [] => true
  | x :: xs => wid x && wids xs
end
theorem norms_map : ∀ xs : List D, norms xs = xs.map norm
  | [] => by rw [norms]; rfl
  | x :: xs => by rw [norms, norms_map xs]; rfl
theorem wids_iff : ∀ {xs : List D}, wids xs = true ↔ ∀ x ∈ xs, wid x = true
  | [] => by simp [wids]
  | x :: xs => by rw [wids, Bool.and_eq_true, wids_iff (xs := xs)]; simp
theorem isDats_iff : ∀ {xs : List D}, isDats xs = true ↔ ∀ x ∈ xs, isDat x = true
  | [] => by simp
  | x :: xs => by rw [isDats, Bool.and_eq_true, isDats_iff (xs := xs)]; simp
theorem deps_le {xs : List D} {x : D} (h : x ∈ xs) : dep x ≤ deps xs := by
  induction xs with
  | nil => cases h
  | cons y ys ih =>
    rw [deps]
    rcases List.mem_cons.mp h with rfl | h
    · omega
    · have := ih h; omega
def mLoose (TT : TbL) (n : Nat) : WMR (Strm TT) := fun ds g Kk => ∃ d, ds = [.raw (.ref g.st), d] ∧ dep d < n ∧ wid d = true ∧ isDat d = true ∧ g.c + cnt d ≤ 900000 ∧ ∀ (y : D) (c' : Nat), norm y = norm d → c' ≤ g.c + cnt d → Kk y (⟨g.st, g.L, c'⟩ : SG)
section
variable {P : Program} {w : World} {K : PySem.W.Frag} {mg : Str → Option Value} {base : Heap} {f : Addr} {fd : FuncData} {TT : TbL}
-- _law_w_loose: slots 0 _law_stream, 1 _law_thing, 2 _law_some, 3 _law_one
abbrev s_L_w_loose : Stmt := (top 50)
abbrev N_sc_L_w_loose : List Str := ["_law_stream", "_law_thing", "_law_some", "_law_one"]
theorem sc_L_w_loose : FnScope N_sc_L_w_loose ["_law_stream", "_law_thing"] (defScope s_L_w_loose) := ⟨rfl, rfl, rfl, by decide +kernel, rfl, by decide +kernel, by decide +kernel⟩
theorem ok_L_w_loose (F : FnP K "_law_w_loose" "_law_w_loose" s_L_w_loose f fd) (T : Tx K mg) (C__law_draw : Cal P w K mg base "_law_draw" 1 ["_law_stream", "_law_many"] (spR (Strm TT) K (mDraw TT))) (hm : mg "_law_w_loose" = some (.ref f)) (hk : PySem.W.keepIn K (.ref f) = true) (hb : Binds K fd ["_law_stream", "_law_thing"] []) :
    ∀ n, FnOk P w K mg base CX0 (n + 1) f fd ["_law_stream", "_law_thing"] (spR (Strm TT) K (mLoose TT n)) := by
  intro n
  induction n with
  | zero =>
    refine ⟨fun vs H Q E h => ?_, fun A outer s H args us vs Q E hr he hb hv h => ?_⟩
    · obtain ⟨_, _, _, _, _, _, _, _, _, ⟨_, _, hl, _⟩, _⟩ := h
      exact absurd hl (Nat.not_lt_zero _)
    · obtain ⟨_, _, _, _, _, _, _, _, _, ⟨_, _, hl, _⟩, _⟩ := h
      exact absurd hl (Nat.not_lt_zero _)
  | succ n ih =>
    have C__law_w_loose : Cal P w K mg base "_law_w_loose" (n + 1) ["_law_stream", "_law_thing"] (spR (Strm TT) K (mLoose TT n)) := ⟨f, fd, hm, hk, ih, hb⟩
    exact FnR F sc_L_w_loose (fun ds g Kk h => by obtain ⟨_, rfl, _⟩ := h; rfl) fun cdv A outer s H Fz Z E hr => ⟨_, 
(ds_cons (ds_if (dt_truth (de_isN T.b_isinstance (tns_cons (TyN.mk (t := .list) (by rfl) T.b_list (by decide +kernel) (by decide) (by decide)) (tns_cons (TyN.mk (t := .tuple) (by rfl) T.b_tuple (by decide +kernel) (by decide) (by decide)) tns_nil)) (de_v (i := 1)))) (ds_cons (ds_setP (i := 2) (ps_lc (own := [("_law_one", 3)]) sc_L_w_loose.nd (di_seq (de_v (i := 1))) (blkOk_by (own := [("_law_one", 3)]) (N := N_sc_L_w_loose) (sc := defScope s_L_w_loose) (by decide +kernel)) (fun _ _ _ _ _ => (dg_name (i := 3) sc_L_w_loose.nd)) (fun _ _ _ _ _ => dts_nil) (fun _ _ _ _ _ => (de_callR C__law_w_loose hr (da_cons (de_v (i := 0)) (da_cons (de_v (i := 3)) da_nil)) (hj := by omega))) (sw_true rfl rfl rfl (by decide +kernel))))
 (ds_one (ds_ret (de_if (dt_cm (c_eq hr) (de_callR C__law_draw hr (da_cons (de_v (i := 0)) (da_cons de_int da_nil)) (hj := by omega)) de_int) (de_v (i := 2)) (de_tuple T.b_tuple (de_v (i := 2))))))) ds_nil)
 (ds_one (ds_ret (de_v (i := 1)))))
  , fun ds g Kk h => by
    obtain ⟨d, rfl, hd, hw, hdat, hc, k⟩ := h
    let mk : Nat → Option DV → DS (Strm TT) := fun c' x2 => ⟨(⟨g.st, g.L, c'⟩ : SG), [some (.fz (.raw (.ref g.st))), some (.fz d), x2, none]⟩
    cases hs : sqOf d with
    | none =>
      have hi : isaD [.list, .tuple] d = some (.bl false) := by cases d <;> first | (cases hs; done) | (simp [isaD]; done) | (simp [isDat] at hdat; done)
      refine ⟨_, rfl, _, hi, false, rfl, itF ⟨_, rfl, k d g.c rfl (Nat.le_add_right _ _)⟩⟩
    | some xs =>
      have hi : isaD [.list, .tuple] d = some (.bl true) := by rcases sq_cases hs with rfl | rfl <;> simp [isaD]
      have hl : xs.length ≤ 1000 ∧ wids xs = true := by rcases sq_cases hs with rfl | rfl <;> simp [wid] at hw <;> exact hw
      have hdx : deps xs + 1 = dep d := by rcases sq_cases hs with rfl | rfl <;> simp [dep]
      have hcx : cnt d = cnts xs + 1 := by rcases sq_cases hs with rfl | rfl <;> simp [cnt]
      have hnx : norm d = .lst (norms xs) := by rcases sq_cases hs with rfl | rfl <;> simp [norm]
      have hdt : isDats xs = true := by rcases sq_cases hs with rfl | rfl <;> simpa [isDat] using hdat
      refine ⟨_, rfl, _, hi, true, rfl, itT ?_⟩
      refine ⟨d, rfl, xs, sq_seq hs, ?_⟩
      refine ⟨by omega, fun i m d' q => ?_, ?_⟩
      · have e : i = 3 := by simpa using m
        subst e
        cases q
      refine lcGo_ind (fun rest acc ρ => ∃ c', norms acc ++ norms rest = norms xs ∧ c' + cnts rest ≤ g.c + cnts xs ∧ (∀ x ∈ rest, x ∈ xs) ∧ acc.length + rest.length = xs.length ∧ ρ = mk c' none) ?_ ?_ _ _ _ ⟨g.c, rfl, Nat.le_refl _, fun x h => h, by simp, rfl⟩
      · rintro x rest acc N ρ hN ⟨c', h1, h2, h3, h4, rfl⟩
        rw [List.length_cons] at h4
        have h2' : c' + (cnt x + cnts rest) ≤ g.c + cnts xs := by rw [cnts] at h2; exact h2
        have hx := h3 x List.mem_cons_self
        refine ⟨_, rfl, _, rfl, ⟨x, rfl, ?_, wids_iff.mp hl.2 x hx, ?_, ?_, fun y c2 hy hc2 => hN _ _ ⟨c2, ?_, ?_, fun z hz => h3 z (List.mem_cons_of_mem _ hz), ?_, rfl⟩⟩⟩
        · have := deps_le hx; omega
        · exact isDats_iff.mp hdt x hx
        · show c' + cnt x ≤ _; omega
        · rw [← h1, norms_map, norms_map, norms_map, norms_map, List.map_append, List.map_cons, List.map_cons, hy]; simp
        · have hc2 : c2 ≤ c' + cnt x := hc2
          omega
        · rw [List.length_append]; simp; omega
      · rintro acc ρ ⟨c', h1, h2, h3, h4, rfl⟩
        have h1' : norms acc = norms xs := by rw [← h1, norms]; simp
        have h2' : c' ≤ g.c + cnts xs := by rw [cnts] at h2; omega
        refine ⟨_, rfl, 2, rfl, by show c' ≤ 1000000; omega, by decide, by decide, fun i _ _ => ⟨.bl (decide (i = 0)), eq_int0 i, _, rfl, ?_⟩⟩
        by_cases h8 : i = 0
        · rw [decide_eq_true h8]
          exact itT ⟨_, rfl, k (.lst acc) _ (by rw [hnx, norm, h1']) (by show c' + 1 ≤ _; omega)⟩
        · rw [decide_eq_false h8]
          exact itF ⟨_, rfl, .tup acc, rfl, k (.tup acc) _ (by rw [hnx, norm, h1']) (by show c' + 1 ≤ _; omega)⟩⟩
end
end L31

set_option Elab.async false
set_option linter.all false
set_option maxRecDepth 100000
set_option maxHeartbeats 4000000
namespace L31
open PySem PySem.Spec PyProof.Rows L2 Q
theorem all_true : ∀ {acc : List D}, (∀ a ∈ acc, a = .bl true) → allD (.lst acc) = some (.bl true)
  | [], _ => rfl
  | a :: as, h => by
    have e := h a List.mem_cons_self
    subst e
    have ih := all_true fun q hq => h q (List.mem_cons_of_mem _ hq)
    change (blsD as).map (fun bs => D.bl (bs.all id)) = _ at ih
    change (blsD (.bl true :: as)).map (fun bs => D.bl (bs.all id)) = _
    cases hb : blsD as with
    | none => rw [hb] at ih; cases ih
    | some bs => rw [hb] at ih; simp at ih; simp [blsD, hb, ih]
theorem pairs_same (xs : List D) : ∀ p ∈ zipD xs xs, ∃ x ∈ xs, p = .tup [x, x] := by
  induction xs with
  | nil => intro p h; cases h
  | cons x xs ih =>
    intro p h
    have h : p ∈ .tup [x, x] :: zipD xs xs := h
    rcases List.mem_cons.mp h with rfl | h
    · exact ⟨x, List.mem_cons_self, rfl⟩
    · obtain ⟨y, hy, e⟩ := ih p h
      exact ⟨y, List.mem_cons_of_mem _ hy, e⟩
/-- the same thing twice -/
def mSame (n : Nat) : WM := fun ds Kk => ∃ d, ds = [d, d] ∧ dep d < n ∧ wid d = true ∧ isDat d = true ∧ dep d ≤ 50 ∧ Kk (.bl true)
section
variable {P : Program} {w : World} {K : PySem.W.Frag} {mg : Str → Option Value} {base : Heap} {f : Addr} {fd : FuncData} {TT : TbL}
-- _law_same: slots 0 _law_found, 1 _law_due, 2 _law_x, 3 _law_y
abbrev s_L_same : Stmt := (top 42)
abbrev N_sc_L_same : List Str := ["_law_found", "_law_due", "_law_x", "_law_y"]
theorem sc_L_same : FnScope N_sc_L_same ["_law_found", "_law_due"] (defScope s_L_same) := ⟨rfl, rfl, rfl, by decide +kernel, rfl, by decide +kernel, by decide +kernel⟩
theorem ok_L_same (F : FnP K "_law_same" "_law_same" s_L_same f fd) (T : Tx K mg) (hm : mg "_law_same" = some (.ref f)) (hk : PySem.W.keepIn K (.ref f) = true) (hb : Binds K fd ["_law_found", "_law_due"] []) :
    ∀ n, FnOk P w K mg base CX0 (n + 1) f fd ["_law_found", "_law_due"] (spD K (mSame n)) := by
  intro n
  induction n with
  | zero =>
    refine ⟨fun vs H Q E h => ?_, fun A outer s H args us vs Q E hr he hb hv h => ?_⟩
    · obtain ⟨_, _, _, _, _, ⟨_, _, hl, _⟩, _⟩ := h
      exact absurd hl (Nat.not_lt_zero _)
    · obtain ⟨_, _, _, _, _, ⟨_, _, hl, _⟩, _⟩ := h
      exact absurd hl (Nat.not_lt_zero _)
  | succ n ih =>
    have C__law_same : Cal P w K mg base "_law_same" (n + 1) ["_law_found", "_law_due"] (spD K (mSame n)) := ⟨f, fd, hm, hk, ih, hb⟩
    exact FnD F sc_L_same (fun ds Kk h => by obtain ⟨_, rfl, _⟩ := h; rfl) fun cdv A outer s H Fz E hr => ⟨_, 
(ds_cons (ds_if (dt_truth (de_isN T.b_isinstance (tns_cons (TyN.mk (t := .list) (by rfl) T.b_list (by decide +kernel) (by decide) (by decide)) (tns_cons (TyN.mk (t := .tuple) (by rfl) T.b_tuple (by decide +kernel) (by decide) (by decide)) tns_nil)) (de_v (i := 1)))) (ds_cons (ds_if (DW.dt (dw_or (dt_cm (c_ne hr) (de_is1 T.b_isinstance (TyN.mk (t := .list) (by rfl) T.b_list (by decide +kernel) (by decide) (by decide)) (de_v (i := 0))) (de_is1 T.b_isinstance (TyN.mk (t := .list) (by rfl) T.b_list (by decide +kernel) (by decide) (by decide)) (de_v (i := 1)))) (dw_or1 (dt_cm (c_ne hr) (de_is1 T.b_isinstance (TyN.mk (t := .tuple) (by rfl) T.b_tuple (by decide +kernel) (by decide) (by decide)) (de_v (i := 0))) (de_is1 T.b_isinstance (TyN.mk (t := .tuple) (by rfl) T.b_tuple (by decide +kernel) (by decide) (by decide)) (de_v (i := 1))))))) (ds_one (ds_ret de_bl)) ds_nil)
 (ds_one (ds_ret (de_and (de_cm (c_eq hr) (de_len T.b_len (de_v (i := 0))) (de_len T.b_len (de_v (i := 1)))) (de_one (de_all T.b_all (FE.de (fe_lc (own := [("_law_x", 2), ("_law_y", 3)]) sc_L_same.nd (di_zipA T.b_zip (de_v (i := 0)) (de_v (i := 1))) (blkOk_by (own := [("_law_x", 2), ("_law_y", 3)]) (N := N_sc_L_same) (sc := defScope s_L_same) (by decide +kernel)) (fun _ _ _ _ _ => (dg_tup (n := 2) (dgs_cons (dg_name (i := 2) sc_L_same.nd) (dgs_cons (dg_name (i := 3) sc_L_same.nd) dgs_nil)))) (fun _ _ _ _ _ => dts_nil) (fun _ _ _ _ _ => (de_call C__law_same hr (da_cons (de_v (i := 2)) (da_cons (de_v (i := 3)) da_nil)) (hj := by omega))))))))))) ds_nil)
 (ds_cons (ds_if (dt_truth (de_is1 T.b_isinstance (TyN.mk (t := .dict) (by rfl) T.b_dict (by decide +kernel) (by decide) (by decide)) (de_v (i := 1)))) (ds_one (ds_ret (de_and (de_is1 T.b_isinstance (TyN.mk (t := .dict) (by rfl) T.b_dict (by decide +kernel) (by decide) (by decide)) (de_v (i := 0))) (de_one (de_call C__law_same hr (da_cons (de_nev (pa := false)) (da_cons (de_nev (pa := false)) da_nil)) (hj := by omega)))))) ds_nil)
 (ds_cons (ds_if (dt_truth (de_is1 T.b_isinstance (TyN.mk (t := .int) (by rfl) T.b_int (by decide +kernel) (by decide) (by decide)) (de_v (i := 1)))) (ds_one (ds_ret (de_and (de_is1 T.b_isinstance (TyN.mk (t := .int) (by rfl) T.b_int (by decide +kernel) (by decide) (by decide)) (de_v (i := 0))) (de_and (de_cm (c_eq hr) (de_is1 T.b_isinstance (TyN.mk (t := .bool) (by rfl) T.b_bool (by decide +kernel) (by decide) (by decide)) (de_v (i := 0))) (de_is1 T.b_isinstance (TyN.mk (t := .bool) (by rfl) T.b_bool (by decide +kernel) (by decide) (by decide)) (de_v (i := 1)))) (de_one (de_cm (c_eq hr) (de_v (i := 0)) (de_v (i := 1)))))))) ds_nil)
 (ds_one (ds_ret (de_and (de_not (de_isN T.b_isinstance (tns_cons (TyN.mk (t := .int) (by rfl) T.b_int (by decide +kernel) (by decide) (by decide)) (tns_cons (TyN.mk (t := .list) (by rfl) T.b_list (by decide +kernel) (by decide) (by decide)) (tns_cons (TyN.mk (t := .tuple) (by rfl) T.b_tuple (by decide +kernel) (by decide) (by decide)) (tns_cons (TyN.mk (t := .dict) (by rfl) T.b_dict (by decide +kernel) (by decide) (by decide)) tns_nil)))) (de_v (i := 0)))) (de_one (de_cm (c_eq hr) (de_v (i := 0)) (de_v (i := 1))))))))))
  , fun ds Kk h => by
    obtain ⟨d, rfl, hd, hw, hdat, hd5, k⟩ := h
    let mk : DS noR := ⟨noG, [some (.fz d), some (.fz d), none, none]⟩
    cases hs : sqOf d with
    | none =>
      have hi : isaD [.list, .tuple] d = some (.bl false) := by cases d <;> first | (cases hs; done) | (simp [isaD]; done) | (simp [isDat] at hdat; done)
      have eqs : eqD false d d = some (.bl true) := by
        unfold eqD
        rw [if_pos ⟨hdat, hdat, by omega⟩]
        have : deq d d = true := by cases d <;> first | (simp; done) | (cases hs; done) | (simp [isDat] at hdat; done)
        rw [this]; rfl
      have hdc : isaD [.dict] d = some (.bl false) := by cases d <;> first | (cases hs; done) | (simp [isaD]; done) | (simp [isDat] at hdat; done)
      refine ⟨_, rfl, _, hi, false, rfl, itF ?_⟩
      refine ⟨_, rfl, _, hdc, false, rfl, itF ?_⟩
      obtain ⟨b1, h1⟩ : ∃ b, isaD [.bool] d = some (.bl b) := by cases d <;> first | (exact ⟨_, rfl⟩) | (simp [isDat] at hdat; done)
      by_cases h2 : isaD [.int] d = some (.bl true)
      · refine ⟨_, rfl, _, h2, true, rfl, itT ?_⟩
        refine ⟨_, rfl, _, h2, true, rfl, itT ⟨_, rfl, _, h1, _, rfl, _, h1, .bl true, by cases b1 <;> simp [eqD, xr], true, rfl, itT ⟨_, rfl, _, rfl, _, eqs, k⟩⟩⟩
      · have h3 : isaD [.int] d = some (.bl false) ∧ isaD [.int, .list, .tuple, .dict] d = some (.bl false) := by cases d <;> first | (cases hs; done) | (exact absurd rfl h2) | (simp [isaD]; done) | (simp [isDat] at hdat; done)
        refine ⟨_, rfl, _, h3.1, false, rfl, itF ?_⟩
        exact ⟨_, rfl, _, h3.2, false, rfl, true, rfl, itT ⟨_, rfl, _, rfl, _, eqs, k⟩⟩
    | some xs =>
      have hi : isaD [.list, .tuple] d = some (.bl true) := by rcases sq_cases hs with rfl | rfl <;> simp [isaD]
      have hl : xs.length ≤ 1000 ∧ wids xs = true := by rcases sq_cases hs with rfl | rfl <;> simp [wid] at hw <;> exact hw
      have hdx : deps xs + 1 = dep d := by rcases sq_cases hs with rfl | rfl <;> simp [dep]
      have hdt : isDats xs = true := by rcases sq_cases hs with rfl | rfl <;> simpa [isDat] using hdat
      refine ⟨_, rfl, _, hi, true, rfl, itT ?_⟩
      obtain ⟨b1, h1⟩ : ∃ b, isaD [.list] d = some (.bl b) := by rcases sq_cases hs with rfl | rfl <;> exact ⟨_, rfl⟩
      obtain ⟨b2, h2⟩ : ∃ b, isaD [.tuple] d = some (.bl b) := by rcases sq_cases hs with rfl | rfl <;> exact ⟨_, rfl⟩
      have hln : lenD d = some (.int (xs.length : Nat)) := by rcases sq_cases hs with rfl | rfl <;> rfl
      have hz : (d = .lst xs ∧ d = .lst xs) ∨ (d = .tup xs ∧ d = .tup xs) := by rcases sq_cases hs with h | h <;> simp [h]
      refine ⟨_, rfl, _, h1, _, rfl, _, h1, .bl false, by cases b1 <;> simp [eqD, xr], false, rfl, itF ?_⟩
      refine ⟨_, rfl, _, h2, _, rfl, _, h2, .bl false, by cases b2 <;> simp [eqD, xr], false, rfl, itF ?_⟩
      refine ⟨_, rfl, _, hln, _, rfl, _, hln, .bl true, by simp [eqD, xr], true, rfl, itT ?_⟩
      refine ⟨_, rfl, _, rfl, xs, xs, hz, ?_⟩
      refine ⟨by simp [zipD]; omega, fun i m d' q => ?_, ?_⟩
      · have e : i = 2 ∨ i = 3 := by simpa using m
        rcases e with rfl | rfl <;> cases q
      refine lcGo_ind (fun rest acc ρ => (∀ p ∈ rest, ∃ x ∈ xs, p = .tup [x, x]) ∧ (∀ a ∈ acc, a = .bl true) ∧ ρ = mk) ?_ ?_ _ _ _ ⟨pairs_same xs, by simp, rfl⟩
      · rintro p rest acc N ρ hN ⟨h4, h5, rfl⟩
        obtain ⟨x, hx, rfl⟩ := h4 p List.mem_cons_self
        refine ⟨_, rfl, rfl, _, _, rfl, _, _, rfl, rfl, ?_⟩
        refine ⟨_, rfl, _, rfl, ⟨x, rfl, ?_, wids_iff.mp hl.2 x hx, isDats_iff.mp hdt x hx, ?_, hN _ _ ⟨fun q hq => h4 q (List.mem_cons_of_mem _ hq), fun q hq => ?_, rfl⟩⟩⟩
        · have := deps_le hx; omega
        · have := deps_le hx; omega
        · rcases List.mem_append.mp hq with h | h
          · exact h5 q h
          · exact List.mem_singleton.mp h
      · rintro acc ρ ⟨_, h5, rfl⟩
        exact ⟨_, all_true h5, k⟩⟩
end
end L31

set_option Elab.async false
set_option linter.all false
set_option maxRecDepth 100000
set_option maxHeartbeats 4000000
namespace L31
open PySem PySem.Spec PyProof.Rows L2 Q
/-! the class of the folds -/
def oFolds (C : Addr) (xs : List D) : D := .ins C [("_folds" : Str)] [.tup xs]
def mInit (CB CU C : Addr) : WMX := fun ds Kk Xk => mFolds CB CU ds (fun d => Kk (.ins C ["_folds"] [d])) Xk
def mOwn (C : Addr) (g : List D → D) : WM := fun ds Kk => ∃ xs, ds = [oFolds C xs] ∧ xs.length ≤ 1000 ∧ isDats xs = true ∧ Kk (g xs)
/-- equal to another one; to nothing else -/
def eqFo (C : Addr) (xs : List D) (y : D) (b : Bool) : Prop := (∃ ys, y = oFolds C ys ∧ isDats ys = true ∧ b = deqs xs ys) ∨ ((∃ t, kD2 y = some t) ∧ b = false)
def mEqF (C : Addr) : WM := fun ds Kk => ∃ xs y b, ds = [oFolds C xs, y] ∧ isDats xs = true ∧ deps xs ≤ 50 ∧ eqFo C xs y b ∧ Kk (.bl b)
section
variable {P : Program} {w : World} {K : PySem.W.Frag} {mg : Str → Option Value} {base : Heap} {f : Addr} {fd : FuncData} {C CB CU : Addr}
-- Folds.__init__: slots 0 self, 1 folds
abbrev s_Folds___init__ : Stmt := (inClass (top 36) 0)
abbrev N_sc_Folds___init__ : List Str := ["self", "folds"]
theorem sc_Folds___init__ : FnScope N_sc_Folds___init__ ["self", "folds"] (defScope s_Folds___init__) := ⟨rfl, rfl, rfl, by decide +kernel, rfl, by decide +kernel, by decide +kernel⟩
theorem ok_Folds_init (F : FnP K "__init__" "Folds.__init__" s_Folds___init__ f fd) (hC : Cls K C) (no : NoAttr K C "_folds") (C__checked_folds : CalX P w K mg base "_checked_folds" 9 ["folds"] (spX K (mFolds CB CU))) :
    FnOk P w K mg base (L2.CX P w) 10 f fd ["self", "folds"] (spI K C (mInit CB CU C)) := by
  obtain ⟨g, gd, hm, hkp, G, hb⟩ := C__checked_folds.ex
  refine F.ok sc_Folds___init__ (fun vs H Q E h => ?_) (fun cdv A outer s H vs Q E hr h => ?_)
  · obtain ⟨x, dx, us, ds, F0, Kk, Xk, rfl, hx, fx, sub, r, ⟨y, rfl, hy, hs, hres⟩, k, kx⟩ := h
    rw [List.length_cons, r.length]
    rfl
  · obtain ⟨x, dx, us, ds, F0, Kk, Xk, rfl, hx, fx, sub, r, ⟨y, rfl, hy, hs, hres⟩, k, kx⟩ := h
    cases r with
    | cons r1 r2 =>
      cases r2
      refine ⟨_, pss_one (ps_fld (pv 0) (pe_call G hr (by rfl) hm hkp hb .nil pass_body (pa_cons (pv 1) pa_nil)) rfl), ?_⟩
      refine ⟨_, rfl, [y], F0, fun d => Kk (.ins C ["_folds"] [d]), Xk, sub, .cons r1 .nil, ⟨y, rfl, hy, hs, hres⟩, fun d v F' H' hd gr rp => ?_, fun C' ns xs F' H' d hX gr xd => kx C' ns xs F' H' d hX gr xd⟩
      have fx' : F' x = none := by
        cases q : F' x with
        | none => rfl
        | some o =>
          rcases gr.old x (by rw [q]; exact fun e => by cases e) with h | h
          · exact absurd fx h
          · rw [hx] at h; cases h
      exact ⟨_, rfl, x, C, dx, [], rfl, gr.hs _ _ hx, hC, no, by decide, k ["_folds"] [d] [("_folds", v)] F' H' hd gr fx' rfl (.cons rp .nil)⟩
-- Folds.listed: slots 0 self
abbrev s_Folds_listed : Stmt := (inClass (top 36) 1)
abbrev N_sc_Folds_listed : List Str := ["self"]
theorem sc_Folds_listed : FnScope N_sc_Folds_listed ["self"] (defScope s_Folds_listed) := ⟨rfl, rfl, rfl, by decide +kernel, rfl, by decide +kernel, by decide +kernel⟩
theorem ok_Folds_listed (F : FnP K "listed" "Folds.listed" s_Folds_listed f fd) (T : Tx K mg) (hC : Cls K C) (no : NoAttr K C "_folds") : FnOk P w K mg base CX0 1 f fd ["self"] (spF K (mOwn C .lst)) :=
  FnF F sc_Folds_listed (fun ds Kk h => by obtain ⟨_, rfl, _⟩ := h; rfl) fun cdv A outer s H Fz E hr => ⟨_, 
(ds_one (ds_retF (fe_list T.b_list (de_fld (C := C) hC no (de_v (i := 0))))))
  , fun ds Kk h => by
    obtain ⟨xs, rfl, hl, hd, k⟩ := h
    exact ⟨_, rfl, _, _, _, rfl, rfl, _, rfl, k⟩⟩
-- Folds.__len__: slots 0 self
abbrev s_Folds___len__ : Stmt := (inClass (top 36) 2)
abbrev N_sc_Folds___len__ : List Str := ["self"]
theorem sc_Folds___len__ : FnScope N_sc_Folds___len__ ["self"] (defScope s_Folds___len__) := ⟨rfl, rfl, rfl, by decide +kernel, rfl, by decide +kernel, by decide +kernel⟩
theorem ok_Folds_len (F : FnP K "__len__" "Folds.__len__" s_Folds___len__ f fd) (T : Tx K mg) (hC : Cls K C) (no : NoAttr K C "_folds") : FnOk P w K mg base CX0 1 f fd ["self"] (spD K (mOwn C fun xs => .int (xs.length : Nat))) :=
  FnD F sc_Folds___len__ (fun ds Kk h => by obtain ⟨_, rfl, _⟩ := h; rfl) fun cdv A outer s H Fz E hr => ⟨_, 
(ds_one (ds_ret (de_len T.b_len (de_fld (C := C) hC no (de_v (i := 0))))))
  , fun ds Kk h => by
    obtain ⟨xs, rfl, hl, hd, k⟩ := h
    exact ⟨_, rfl, _, _, _, rfl, rfl, _, rfl, k⟩⟩
-- Folds.__eq__: slots 0 self, 1 other
abbrev s_Folds___eq__ : Stmt := (inClass (top 36) 3)
abbrev N_sc_Folds___eq__ : List Str := ["self", "other"]
theorem sc_Folds___eq__ : FnScope N_sc_Folds___eq__ ["self", "other"] (defScope s_Folds___eq__) := ⟨rfl, rfl, rfl, by decide +kernel, rfl, by decide +kernel, by decide +kernel⟩
theorem ok_Folds_eq (F : FnP K "__eq__" "Folds.__eq__" s_Folds___eq__ f fd) (T : Tx K mg) (I : IsC K C) (no : NoAttr K C "_folds") (hm : mg "Folds" = some (.ref C)) : FnOk P w K mg base CX0 1 f fd ["self", "other"] (spD K (mEqF C)) :=
  FnD F sc_Folds___eq__ (fun ds Kk h => by obtain ⟨_, _, _, rfl, _⟩ := h; rfl) fun cdv A outer s H Fz E hr => ⟨_, 
(ds_one (ds_ret (de_and (de_isC T.b_isinstance hm I (de_v (i := 1))) (de_one (de_cm (c_eq hr) (de_fld (C := C) I.cls no (de_v (i := 0))) (de_fld (C := C) I.cls no (de_v (i := 1))))))))
  , fun ds Kk h => by
    obtain ⟨xs, y, b, rfl, hx, hdx, he, k⟩ := h
    rcases he with ⟨ys, rfl, hy, rfl⟩ | ⟨⟨t, ht⟩, rfl⟩
    · have hi : isCD C (oFolds C ys) = some (.bl true) := by simp [isCD, oFolds]
      refine ⟨_, rfl, _, hi, true, rfl, itT ⟨_, rfl, _, _, .tup xs, rfl, rfl, _, rfl, _, _, .tup ys, rfl, rfl, .bl (deqs xs ys), ?_, k⟩⟩
      unfold eqD
      rw [if_pos ⟨by simpa [isDat] using hx, by simpa [isDat] using hy, by simp only [dep]; omega⟩, eq_tup_tup]
      rfl
    · have hi : isCD C y = some (.bl false) := by cases y <;> simp [kD2] at ht <;> simp [isCD, kD2]
      exact ⟨_, rfl, _, hi, false, rfl, itF k⟩⟩
end
end L31

set_option Elab.async false
set_option linter.all false
set_option maxRecDepth 100000
set_option maxHeartbeats 4000000
namespace L31
open PySem PySem.Spec PyProof.Rows L2 Q
def bentD (d : D) : Prop := asFold d = .non ∧ tmB d = true
def mBent (TT : TbL) : WMR (Strm TT) := fun ds g Kk => ∃ d, ds = [.raw (.ref g.st), d] ∧ gFold d ∧ g.c ≤ 900000 ∧ ∀ e, bentD e → Kk e (⟨g.st, g.L, g.c + 1⟩ : SG)
theorem bent4 {a h b p : D} (o : (∀ w, a = .str w → isWord w = false) ∨ (isNon (asAtom h) || decide (6 < tupLen (asAtom h))) = true ∨ isNon (asBy b) = true ∨ isNon (asBody p) = true) : asFold (.tup [a, h, b, p]) = .non := by
  unfold asFold
  simp only [sqOf]
  split
  · rename_i w h' b' p' e
    simp only [Option.some.injEq, List.cons.injEq, and_true] at e
    obtain ⟨rfl, rfl, rfl, rfl⟩ := e
    rw [if_neg]
    intro hc
    simp only [Bool.and_eq_true, Bool.not_eq_true', decide_eq_true_eq] at hc
    obtain ⟨⟨⟨⟨c1, c2⟩, c3⟩, c4⟩, c5⟩ := hc
    rcases o with o | o | o | o
    · rw [o w rfl] at c1; cases c1
    · rw [c2, Bool.false_or, decide_eq_true_eq] at o
      omega
    · rw [c3] at o; cases o
    · rw [c4] at o; cases o
  · rfl
theorem tm_strs (zs : List Str) (h : ∀ z ∈ zs, z ∈ sLETT) : tmBs (zs.map D.str) = true := tmBs_iff.mpr fun x hx => by
  obtain ⟨z, hz, rfl⟩ := List.mem_map.mp hx
  exact isTm_tmB (dTerm_tm _ (dTerm_str (h z hz)))
theorem dAtom.tm {d : D} (h : dAtom d) : tmB d = true := by
  obtain ⟨z, ts, rfl, hz, h1, h2, h3⟩ := h
  have a : tmB (.str z) = true := (by decide +kernel : ∀ z ∈ sNAME, tmB (.str z) = true) z hz
  have b : tmBs ts = true := tmBs_iff.mpr fun t ht => isTm_tmB (dTerm_tm t (h3 t ht))
  rw [tmB_tup, tmBs_cons, a, b]
  simp; omega
theorem gExt.tm {ms : List Str} (hm : ∀ z ∈ ms, z ∈ sLETT) {p : D} (h : gExt ms p) : tmB p = true := by
  have tl : ∀ z ∈ ms, tmB (.str z) = true := fun z hz => isTm_tmB (dTerm_tm _ (dTerm_str (hm z hz)))
  rcases h with ⟨a, b, rfl, ha, hb⟩ | ⟨z, zs, rfl, hz, z1, z2, z3⟩
  · have e : tmB (.str "unlike") = true := by decide +kernel
    rw [tmB_tup, tmBs_cons, tmBs_cons, tmBs_cons, tl a ha, tl b hb, e]
    simp
  · have e : tmB (.str "not") = true := by decide +kernel
    have a : tmB (.str z) = true := (by decide +kernel : ∀ z ∈ sNAME, tmB (.str z) = true) z hz
    have b : tmBs (zs.map D.str) = true := tm_strs zs fun y hy => hm y (z3 y hy)
    rw [tmB_tup, tmBs_cons, tmBs_cons, tmB_tup, tmBs_cons, e, a, b]
    simp; omega
section
variable {P : Program} {w : World} {K : PySem.W.Frag} {mg : Str → Option Value} {base : Heap} {f : Addr} {fd : FuncData} {TT : TbL}
-- _law_bent: slots 0 _law_stream, 1 _law_fold, 2 _law_some, 3 _law_heads, 4 _law_bodies, 5 _law_word, 6 _law_head, 7 _law_by, 8 _law_body_here, 9 _law_odd
abbrev s_L_bent : Stmt := (top 52)
abbrev N_sc_L_bent : List Str := ["_law_stream", "_law_fold", "_law_some", "_law_heads", "_law_bodies", "_law_word", "_law_head", "_law_by", "_law_body_here", "_law_odd"]
theorem sc_L_bent : FnScope N_sc_L_bent ["_law_stream", "_law_fold"] (defScope s_L_bent) := ⟨rfl, rfl, rfl, by decide +kernel, rfl, by decide +kernel, by decide +kernel⟩
theorem ok_L_bent (F : FnP K "_law_bent" "_law_bent" s_L_bent f fd) (T : Tx K mg) (C__law_pick : Cal P w K mg base "_law_pick" 2 ["_law_stream", "_law_some"] (spR (Strm TT) K (mPick TT))) :
    FnOk P w K mg base CX0 3 f fd ["_law_stream", "_law_fold"] (spR (Strm TT) K (mBent TT)) :=
  FnR F sc_L_bent (fun ds g Kk h => by obtain ⟨_, rfl, _⟩ := h; rfl) fun cdv A outer s H Fz Z E hr => ⟨_, 
(ds_cons (ds_asg (de_v (i := 1)) (dg_tup (n := 4) (dgs_cons (dg_name (i := 5) sc_L_bent.nd) (dgs_cons (dg_name (i := 6) sc_L_bent.nd) (dgs_cons (dg_name (i := 7) sc_L_bent.nd) (dgs_cons (dg_name (i := 8) sc_L_bent.nd) dgs_nil))))))
 (ds_cons (ds_newP (i := 2) (ps_lc (own := [("_law_odd", 9)]) sc_L_bent.nd (di_seq (FE.de (fe_lst (da_cons de_non (da_cons de_int (da_cons de_str (da_cons de_str (da_cons de_bl (da_cons (FE.de (fe_lst (da_cons de_str da_nil))) (da_cons (de_tup (da_cons de_str da_nil)) da_nil)))))))))) (blkOk_by (own := [("_law_odd", 9)]) (N := N_sc_L_bent) (sc := defScope s_L_bent) (by decide +kernel)) (fun _ _ _ _ _ => (dg_name (i := 9) sc_L_bent.nd)) (fun _ _ _ _ _ => dts_nil) (fun _ _ _ _ _ => (de_tup (da_cons (de_v (i := 9)) (da_cons (de_v (i := 6)) (da_cons (de_v (i := 7)) (da_cons (de_v (i := 8)) da_nil)))))) (sw_true rfl rfl rfl (by decide +kernel))))
 (ds_cons (ds_set (i := 3) sc_L_bent.nd (FE.de (fe_lst (da_cons de_non (da_cons de_int (da_cons de_str (da_cons (FE.de fe_d0) (da_cons (de_tup da_nil) (da_cons (de_tup (da_cons de_str (da_cons de_str da_nil))) (da_cons (de_tup (da_cons de_str (da_cons de_str da_nil))) (da_cons (de_add (de_tup (da_cons de_str da_nil)) (de_mul (de_tup (da_cons de_str da_nil)) de_int)) (da_cons (de_tup (da_cons de_str (da_cons de_non da_nil))) da_nil))))))))))))
 (ds_cons (ds_ext (i := 2) (FE.de (fe_lc (own := [("_law_odd", 9)]) sc_L_bent.nd (di_seq (de_v (i := 3))) (blkOk_by (own := [("_law_odd", 9)]) (N := N_sc_L_bent) (sc := defScope s_L_bent) (by decide +kernel)) (fun _ _ _ _ _ => (dg_name (i := 9) sc_L_bent.nd)) (fun _ _ _ _ _ => dts_nil) (fun _ _ _ _ _ => (de_tup (da_cons (de_v (i := 5)) (da_cons (de_v (i := 9)) (da_cons (de_v (i := 7)) (da_cons (de_v (i := 8)) da_nil)))))))))
 (ds_cons (ds_ext (i := 2) (FE.de (fe_lc (own := [("_law_odd", 9)]) sc_L_bent.nd (di_seq (FE.de (fe_lst (da_cons de_non (da_cons de_int (da_cons de_str (da_cons (FE.de fe_d0) (da_cons (FE.de (fe_lst da_nil)) (da_cons (FE.de (fe_lst (da_cons de_str da_nil))) (da_cons (FE.de (fe_lst (da_cons de_str (da_cons de_str da_nil)))) (da_cons (FE.de (fe_lst (da_cons de_int da_nil))) (da_cons (FE.de (fe_lst (da_cons (FE.de (fe_lst (da_cons de_str da_nil))) da_nil))) (da_cons (FE.de (fe_lst (da_cons de_non da_nil))) da_nil))))))))))))) (blkOk_by (own := [("_law_odd", 9)]) (N := N_sc_L_bent) (sc := defScope s_L_bent) (by decide +kernel)) (fun _ _ _ _ _ => (dg_name (i := 9) sc_L_bent.nd)) (fun _ _ _ _ _ => dts_nil) (fun _ _ _ _ _ => (de_tup (da_cons (de_v (i := 5)) (da_cons (de_v (i := 6)) (da_cons (de_v (i := 9)) (da_cons (de_v (i := 8)) da_nil)))))))))
 (ds_cons (ds_set (i := 4) sc_L_bent.nd (FE.de (fe_lst (da_cons de_non (da_cons de_int (da_cons de_str (da_cons (FE.de fe_d0) (da_cons (FE.de (fe_lst (da_cons de_int da_nil))) (da_cons (FE.de (fe_lst (da_cons (de_tup (da_cons de_str da_nil)) da_nil))) (da_cons (FE.de (fe_lst (da_cons (de_tup (da_cons de_str (da_cons de_str da_nil))) da_nil))) (da_cons (FE.de (fe_lst (da_cons (de_tup da_nil) da_nil))) (da_cons (FE.de (fe_lst (da_cons (de_tup (da_cons de_str (da_cons de_str da_nil))) da_nil))) da_nil))))))))))))
 (ds_cons (ds_ext (i := 2) (FE.de (fe_lc (own := [("_law_odd", 9)]) sc_L_bent.nd (di_seq (de_v (i := 4))) (blkOk_by (own := [("_law_odd", 9)]) (N := N_sc_L_bent) (sc := defScope s_L_bent) (by decide +kernel)) (fun _ _ _ _ _ => (dg_name (i := 9) sc_L_bent.nd)) (fun _ _ _ _ _ => dts_nil) (fun _ _ _ _ _ => (de_tup (da_cons (de_v (i := 5)) (da_cons (de_v (i := 6)) (da_cons (de_v (i := 7)) (da_cons (de_v (i := 9)) da_nil)))))))))
 (ds_one (ds_ret (de_callR C__law_pick hr (da_cons (de_v (i := 0)) (da_cons (de_add (de_b (i := 2)) (FE.de (fe_lst (da_cons de_non (da_cons de_int (da_cons de_str (da_cons (FE.de fe_d0) (da_cons (de_tup da_nil) (da_cons (de_tup (da_cons (de_v (i := 5)) (da_cons (de_v (i := 6)) (da_cons (de_v (i := 7)) da_nil)))) (da_cons (de_tup (da_cons (de_v (i := 5)) (da_cons (de_v (i := 6)) (da_cons (de_v (i := 7)) (da_cons (de_v (i := 8)) (da_cons (de_v (i := 8)) da_nil)))))) da_nil)))))))))) da_nil))))))))))))
  , fun ds g Kk h => by
    obtain ⟨d, rfl, hg, hc, k⟩ := h
    obtain ⟨wd, hz, ts, bs, ps, ex, ms, rfl, hwd, hhz, hts, hts2, b1, b2, b3, b4, hmet, e1, e2⟩ := hg
    obtain ⟨g1, g2, g3, g4, g5, g6, g7, g8⟩ := id hmet
    have tW : tmB (.str wd) = true := (by decide +kernel : ∀ z ∈ sWORD, tmB (.str z) = true) wd hwd
    have tH : tmB (.tup (.str hz :: ts)) = true := by
      have a : tmB (.str hz) = true := (by decide +kernel : ∀ z ∈ sHEAD, tmB (.str z) = true) hz hhz
      have b : tmBs ts = true := tmBs_iff.mpr fun t ht => isTm_tmB (by
        rcases hts2 t ht with ⟨z, hz, rfl⟩ | h
        · exact dTerm_tm _ (dTerm_str (g7 z hz))
        · exact dTerm_tm _ (.inr h))
      rw [tmB_tup, tmBs_cons, a, b]
      simp; omega
    have tB : tmB (.tup (bs.map .str)) = true := by
      rw [tmB_tup, tm_strs bs fun z hz => g7 z (b4 z hz)]
      simp; omega
    have tP : tmB (.tup (ps ++ ex)) = true := by
      have : tmBs (ps ++ ex) = true := tmBs_iff.mpr fun p hp => by
        rcases List.mem_append.mp hp with h | h
        · exact (g3 p h).tm
        · exact (e2 p h).tm g7
      rw [tmB_tup, this]
      simp; omega
    generalize D.tup (.str hz :: ts) = Hd at tH ⊢
    generalize D.tup (bs.map .str) = By at tB ⊢
    generalize D.tup (ps ++ ex) = Bd at tP ⊢
    have tW' : tmB (.str wd) = true := tW
    let mk : Option DV → Option DV → Option DV → DS (Strm TT) := fun x2 x3 x4 => ⟨(⟨g.st, g.L, g.c⟩ : SG), [some (.fz (.raw (.ref g.st))), some (.fz (.tup [.str wd, Hd, By, Bd])), x2, x3, x4, some (.fz (.str wd)), some (.fz Hd), some (.fz By), some (.fz Bd), none]⟩
    refine seq_cut (fun ρ => ρ = mk none none none) (fun N hN => ⟨_, rfl, _, rfl, rfl, _, _, rfl, _, _, rfl, _, _, rfl, _, _, rfl, rfl, hN _ rfl⟩) ?_
    rintro ρ rfl
    let l1 : List D := [.non, .int 5, .str "", .str "sums", .bl true, .lst [.str "count"], .tup [.str "least"]]
    let l2 : List D := [.non, .int 5, .str "n1", .dct [] [], .tup [], .tup [.str "N", .str "X"], .tup [.str "not", .str "X"], .tup [.str "n1", .str "X", .str "X", .str "X", .str "X", .str "X", .str "X"], .tup [.str "n1", .non]]
    let l3 : List D := [.non, .int 5, .str "X", .dct [] [], .lst [], .lst [.str "x"], .lst [.str "X", .str "X"], .lst [.int 5], .lst [.lst [.str "X"]], .lst [.non]]
    let l4 : List D := [.non, .int 5, .str "ab", .dct [] [], .lst [.int 5], .lst [.tup [.str "not"]], .lst [.tup [.str "unlike", .str "X"]], .lst [.tup []], .lst [.tup [.str "not", .str "X"]]]
    let l5 : List D := [.non, .int 5, .str "fold", .dct [] [], .tup [], .tup [.str wd, Hd, By], .tup [.str wd, Hd, By, Bd, Bd]]
    let m1 : List D := l1.map fun q => .tup [q, Hd, By, Bd]
    let m2 : List D := l2.map fun q => .tup [.str wd, q, By, Bd]
    let m3 : List D := l3.map fun q => .tup [.str wd, Hd, q, Bd]
    let m4 : List D := l4.map fun q => .tup [.str wd, Hd, By, q]
    refine seq_cut (fun ρ => ρ = mk (some (.own (.lst m1))) none none) (fun N hN => ?_) ?_
    · show wLc _ _ _ _ _ (mk none none none) _
      refine wLc_m (α := D) (h := id) (xs := l1) (f := fun q => .tup [q, Hd, By, Bd]) (x := none) (fun K k => ⟨by simp, by simp, by simp, l1, rfl, by simpa using k⟩) (by decide) rfl (fun _ h => by cases h) (fun q _ K k => ⟨_, rfl, _, rfl, _, rfl, _, rfl, by simp, k⟩) _ ?_
      exact hN _ rfl
    rintro ρ rfl
    refine seq_cut (fun ρ => ρ = mk (some (.own (.lst m1))) (some (.fz (.lst l2))) none) (fun N hN => ?_) ?_
    · refine ⟨by simp, by simp, by simp, by simp, by simp, .tup (List.replicate 6 (.str "X")), by simp [mulD], .tup (.str "n1" :: List.replicate 6 (.str "X")), by simp, by simp, by simp, hN _ rfl⟩
    rintro ρ rfl
    refine seq_cut (fun ρ => ρ = mk (some (.own (.lst (m1 ++ m2)))) (some (.fz (.lst l2))) none) (fun N hN => ?_) ?_
    · refine ⟨⟨_, rfl⟩, ?_⟩
      show wLc _ _ _ _ _ (mk (some (.own (.lst m1))) (some (.fz (.lst l2))) none) _
      refine wLc_m (α := D) (h := id) (xs := l2) (f := fun q => .tup [.str wd, q, By, Bd]) (x := none) (fun K k => ⟨_, rfl, l2, rfl, by simpa using k⟩) (by decide) rfl (fun _ h => by cases h) (fun q _ K k => ⟨_, rfl, _, rfl, _, rfl, _, rfl, by simp, k⟩) _ ?_
      exact ⟨m1, m2, rfl, rfl, by simp [m1, m2, l1, l2], hN _ rfl⟩
    rintro ρ rfl
    refine seq_cut (fun ρ => ρ = mk (some (.own (.lst (m1 ++ m2 ++ m3)))) (some (.fz (.lst l2))) none) (fun N hN => ?_) ?_
    · refine ⟨⟨_, rfl⟩, ?_⟩
      show wLc _ _ _ _ _ (mk (some (.own (.lst (m1 ++ m2)))) (some (.fz (.lst l2))) none) _
      refine wLc_m (α := D) (h := id) (xs := l3) (f := fun q => .tup [.str wd, Hd, q, Bd]) (x := none) (fun K k => ⟨by simp, by simp, by simp, by simp, by simp, by simp, by simp, by simp, l3, rfl, by simpa using k⟩) (by decide) rfl (fun _ h => by cases h) (fun q _ K k => ⟨_, rfl, _, rfl, _, rfl, _, rfl, by simp, k⟩) _ ?_
      exact ⟨m1 ++ m2, m3, rfl, rfl, by simp [m1, m2, m3, l1, l2, l3], hN _ rfl⟩
    rintro ρ rfl
    refine seq_cut (fun ρ => ρ = mk (some (.own (.lst (m1 ++ m2 ++ m3)))) (some (.fz (.lst l2))) (some (.fz (.lst l4)))) (fun N hN => ?_) ?_
    · refine ⟨by simp, by simp, by simp, by simp, by simp, by simp, by simp, by simp, by simp, by simp, hN _ rfl⟩
    rintro ρ rfl
    refine seq_cut (fun ρ => ρ = mk (some (.own (.lst (m1 ++ m2 ++ m3 ++ m4)))) (some (.fz (.lst l2))) (some (.fz (.lst l4)))) (fun N hN => ?_) ?_
    · refine ⟨⟨_, rfl⟩, ?_⟩
      show wLc _ _ _ _ _ (mk (some (.own (.lst (m1 ++ m2 ++ m3)))) (some (.fz (.lst l2))) (some (.fz (.lst l4)))) _
      refine wLc_m (α := D) (h := id) (xs := l4) (f := fun q => .tup [.str wd, Hd, By, q]) (x := none) (fun K k => ⟨_, rfl, l4, rfl, by simpa using k⟩) (by decide) rfl (fun _ h => by cases h) (fun q _ K k => ⟨_, rfl, _, rfl, _, rfl, _, rfl, by simp, k⟩) _ ?_
      exact ⟨m1 ++ m2 ++ m3, m4, rfl, rfl, by simp [m1, m2, m3, m4, l1, l2, l3, l4], hN _ rfl⟩
    rintro ρ rfl
    refine ⟨_, rfl, .inr ⟨_, rfl, by simp, _, rfl, _, rfl, _, rfl, by simp, _, rfl, _, rfl, _, rfl, _, rfl, _, rfl, by simp, by simp, .lst (m1 ++ m2 ++ m3 ++ m4 ++ l5), ?_, ⟨_, m1 ++ m2 ++ m3 ++ m4 ++ l5, rfl, rfl, ?_, ?_, by show g.c ≤ 1000000; omega, fun e he => k e ?_⟩⟩⟩
    · rw [ad_lst, if_pos (by simp [m1, m2, m3, m4, l1, l2, l3, l4])]
    · simp [m1, m2, m3, m4, l1, l2, l3, l4, l5]
    · simp [m1, m2, m3, m4, l1, l2, l3, l4, l5]
    have tm4 : ∀ {a b c d : D}, tmB a = true → tmB b = true → tmB c = true → tmB d = true → tmB (.tup [a, b, c, d]) = true := fun h1 h2 h3 h4 => by simp [h1, h2, h3, h4, -tmB_lst, -tmB_tup, tmB_tup]
    rcases List.mem_append.mp he with he | he
    · rcases List.mem_append.mp he with he | he
      · rcases List.mem_append.mp he with he | he
        · rcases List.mem_append.mp he with he | he
          · obtain ⟨q, hq, rfl⟩ := List.mem_map.mp he
            have t1 : tmB q = true := (by decide +kernel : ∀ q ∈ l1, tmB q = true) q hq
            refine ⟨bent4 (.inl fun w e => ?_), tm4 t1 tH tB tP⟩
            simp only [l1, List.mem_cons, List.not_mem_nil, or_false] at hq
            rcases hq with rfl | rfl | rfl | rfl | rfl | rfl | rfl <;> first | (cases e; done) | (cases e; decide +kernel)
          · obtain ⟨q, hq, rfl⟩ := List.mem_map.mp he
            have t1 : tmB q = true := (by decide +kernel : ∀ q ∈ l2, tmB q = true) q hq
            exact ⟨bent4 (.inr (.inl ((by decide +kernel : ∀ q ∈ l2, (isNon (asAtom q) || decide (6 < tupLen (asAtom q))) = true) q hq))), tm4 tW t1 tB tP⟩
        · obtain ⟨q, hq, rfl⟩ := List.mem_map.mp he
          have t1 : tmB q = true := (by decide +kernel : ∀ q ∈ l3, tmB q = true) q hq
          exact ⟨bent4 (.inr (.inr (.inl ((by decide +kernel : ∀ q ∈ l3, isNon (asBy q) = true) q hq)))), tm4 tW tH t1 tP⟩
      · obtain ⟨q, hq, rfl⟩ := List.mem_map.mp he
        have t1 : tmB q = true := (by decide +kernel : ∀ q ∈ l4, tmB q = true) q hq
        exact ⟨bent4 (.inr (.inr (.inr ((by decide +kernel : ∀ q ∈ l4, isNon (asBody q) = true) q hq)))), tm4 tW tH tB t1⟩
    · simp only [l5, List.mem_cons, List.not_mem_nil, or_false] at he
      rcases he with rfl | rfl | rfl | rfl | rfl | rfl | rfl
      · exact ⟨rfl, rfl⟩
      · exact ⟨rfl, rfl⟩
      · exact ⟨rfl, by decide +kernel⟩
      · exact ⟨rfl, rfl⟩
      · exact ⟨rfl, by decide +kernel⟩
      · exact ⟨rfl, by simp [tW, tH, tB, -tmB_str]⟩
      · exact ⟨rfl, by simp [tW, tH, tB, tP, -tmB_str]⟩⟩
end
end L31

set_option Elab.async false
set_option linter.all false
set_option maxRecDepth 100000
set_option maxHeartbeats 4000000
namespace L31
open PySem PySem.Spec PyProof.Rows L2 Q
/-! drawn folds are folds; what is loose in them -/
theorem once_filter (q : Str → Bool) (zs : List Str) : (onceS zs).filter q = onceS (zs.filter q) := by
  have go : ∀ (zs acc : List Str), (zs.foldl addS acc).filter q = (zs.filter q).foldl addS (acc.filter q) := by
    intro zs
    induction zs with
    | nil => intro acc; rfl
    | cons z zs ih =>
      intro acc
      rw [List.foldl_cons, ih]
      cases hz : q z with
      | true =>
        rw [List.filter_cons_of_pos hz, List.foldl_cons]
        congr 1
        unfold addS
        by_cases m : z ∈ acc
        · rw [if_pos m, if_pos (List.mem_filter.mpr ⟨m, hz⟩)]
        · rw [if_neg m, if_neg (fun h => m (List.mem_filter.mp h).1), List.filter_append]
          simp [hz]
      | false =>
        rw [List.filter_cons_of_neg (by rw [hz]; decide)]
        congr 1
        unfold addS
        by_cases m : z ∈ acc
        · rw [if_pos m]
        · rw [if_neg m, List.filter_append]
          simp [hz]
  have := go zs []
  simpa [onceS] using this
theorem once_nodup {zs : List Str} (h : zs.Nodup) : onceS zs = zs := by
  have go : ∀ (zs acc : List Str), (acc ++ zs).Nodup → zs.foldl addS acc = acc ++ zs := by
    intro zs
    induction zs with
    | nil => intro acc _; simp
    | cons z zs ih =>
      intro acc nd
      have nm : z ∉ acc := fun m => (List.nodup_append.mp nd).2.2 z m z List.mem_cons_self rfl
      rw [List.foldl_cons]
      have e : addS acc z = acc ++ [z] := if_neg nm
      rw [e, ih (acc ++ [z]) (by simpa using nd)]
      simp
  exact go zs [] h
/-- the letters in their order, as often as they stand -/
def rawL (ps : List D) : List Str := ((ps.flatMap termsP).filter isLt).map strOf
theorem rawL_app (ps qs : List D) : rawL (ps ++ qs) = rawL ps ++ rawL qs := by simp [rawL]
theorem rawL_cons (p : D) (qs : List D) : rawL (p :: qs) = rawL [p] ++ rawL qs := by rw [← rawL_app]; rfl
theorem mem_raw {ps : List D} {z : Str} : z ∈ rawL ps ↔ z ∈ lettersP ps := by rw [lettersP_once, onceS_mem]; rfl
theorem looseP_raw (ps body : List D) : looseP ps body = onceS ((rawL ps).filter fun z => !decide (z ∈ lettersP (body.filter plainP))) := by
  unfold looseP
  rw [lettersP_once ps, once_filter]
  rfl
theorem isLt_lett {t : D} (h : t ∈ dTHING) : isLt t = false := (by decide +kernel : ∀ t ∈ dTHING, isLt t = false) t h
theorem raw_terms {p : D} {z : Str} (h : z ∈ rawL [p]) : .str z ∈ termsP p := by
  obtain ⟨t, ht, rfl⟩ := List.mem_map.mp h
  obtain ⟨h1, h2⟩ := List.mem_filter.mp ht
  have h1 : t ∈ termsP p := by simpa using h1
  cases t <;> simp [isLt] at h2
  exact h1
theorem raw_lett {ps : List D} (h : ∀ p ∈ ps, dAtom p) : ∀ z ∈ lettersP ps, z ∈ sLETT := fun z hz => by
  rw [lettersP_once, onceS_mem] at hz
  obtain ⟨t, ht, rfl⟩ := List.mem_map.mp hz
  obtain ⟨h1, h2⟩ := List.mem_filter.mp ht
  obtain ⟨p, hp, h3⟩ := List.mem_flatMap.mp h1
  obtain ⟨_, ts, rfl, h4, _, _, _, h5⟩ := (h p hp).terms
  rw [h4] at h3
  obtain ⟨z', hz', rfl⟩ := List.mem_map.mp (dTerm_lett t (h5 t h3) h2)
  exact hz'
theorem gExt.okp {ms : List Str} (hm : ∀ z ∈ ms, z ∈ sLETT) {p : D} (h : gExt ms p) : okPart p ∧ plainP p = false ∧ (∀ z ∈ rawL [p], z ∈ ms) ∧ asPart p = p ∧ isNon p = false := by
  have lt : ∀ z ∈ ms, isTm (.str z) = true := fun z hz => dTerm_tm _ (dTerm_str (hm z hz))
  rcases h with ⟨a, b, rfl, ha, hb⟩ | ⟨z, zs, rfl, hz, z1, z2, z3⟩
  · have hne : ("unlike" : Str) ≠ "not" := by decide +kernel
    refine ⟨.inr (.inr ⟨_, _, rfl, lt a ha, lt b hb⟩), by simp [plainP], fun z hz => ?_, ?_, rfl⟩
    · have := raw_terms hz
      simp [termsP, hne] at this
      rcases this with rfl | rfl <;> assumption
    · simp [asPart, asUnl, hne, lt a ha, lt b hb]
  · have ok : okRow (.str z :: zs.map .str) := ⟨z, _, rfl, name_nm z hz, by rw [List.length_map]; omega, List.all_eq_true.mpr fun t ht => by
      obtain ⟨y, hy, rfl⟩ := List.mem_map.mp ht
      exact lt y (z3 y hy)⟩
    refine ⟨.inr (.inl ⟨_, rfl, ok⟩), by simp [plainP], fun y hy => ?_, ?_, rfl⟩
    · have := raw_terms hy
      simp [termsP] at this
      exact z3 y this
    · have e := asAtom_ok (d := .tup (.str z :: zs.map .str)) rfl ok
      simp only [asPart, sqOf, asNot]
      simp [e]
theorem dAtom.okp {p : D} (h : dAtom p) : asPart p = p ∧ isNon p = false := by
  obtain ⟨z, ts, rfl, hz, h1, h2, h3⟩ := h
  obtain ⟨n1, n2⟩ := nm_not (name_nm z hz)
  refine ⟨?_, rfl⟩
  have e := asAtom_ok (d := .tup (.str z :: ts)) rfl (dAtom.okRow hz h2 h3)
  simp only [asPart, sqOf]
  simp [n1, n2, e]
theorem asBody_ok {body : List D} (h : ∀ p ∈ body, asPart p = p ∧ isNon p = false) : asBody (.tup body) = .tup body := by
  have h1 : body.any (fun x => isNon (asPart x)) = false := by
    rw [List.any_eq_false]
    intro p hp
    rw [(h p hp).1, (h p hp).2]
    decide
  have h2 : body.map asPart = body := by
    conv => rhs; rw [← List.map_id body]
    exact List.map_congr_left fun p hp => (h p hp).1
  simp only [asBody, sqOf, h1, h2]
  rfl
theorem asBy_ok {bs : List Str} (h0 : bs ≠ []) (nd : bs.Nodup) (h : ∀ z ∈ bs, strLt z = true) : asBy (.tup (bs.map .str)) = .tup (bs.map .str) := by
  have e1 : (bs.map D.str).map strOf = bs := by rw [List.map_map]; exact List.map_id' bs
  have e2 : (bs.map D.str).all isLt = true := List.all_eq_true.mpr fun t ht => by
    obtain ⟨z, hz, rfl⟩ := List.mem_map.mp ht
    exact h z hz
  have e3 : (onceS bs).length = bs.length := by rw [once_nodup nd]
  simp only [asBy, sqOf]
  rw [if_pos ⟨by rw [List.length_map]; exact fun q => h0 (List.length_eq_zero_iff.mp q), e2, by rw [e1, e3, List.length_map]⟩]
theorem asFold_ok {wd : Str} {hd body : List D} {bs : List Str} (hw : isWord wd = true) (oh : okRow hd) (hl : hd.length ≤ 6) (h0 : bs ≠ []) (nd : bs.Nodup) (hb : ∀ z ∈ bs, strLt z = true) (hp : ∀ p ∈ body, asPart p = p ∧ isNon p = false) :
    asFold (.tup [.str wd, .tup hd, .tup (bs.map .str), .tup body]) = .tup [.str wd, .tup hd, .tup (bs.map .str), .tup body] := by
  unfold asFold
  simp only [sqOf, asAtom_ok (d := .tup hd) rfl oh, asBy_ok h0 nd hb, asBody_ok hp, hw]
  simp [isNon, tupLen, hl]
/-- what is loose in a fold, part by part -/
theorem looseF_eq (wd : D) (hd : D) (bs : List Str) (body : List D) : looseF (.tup [wd, hd, .tup (bs.map .str), .tup body]) =
    (onceS ((rawL [hd]).filter fun z => !decide (z ∈ lettersP (body.filter plainP))) ++ bs.filter fun z => !decide (z ∈ lettersP (body.filter plainP))) ++
      onceS ((rawL (body.filter fun p => !plainP p)).filter fun z => !decide (z ∈ lettersP (body.filter plainP))) := by
  have e1 : (bs.map D.str).map strOf = bs := by rw [List.map_map]; exact List.map_id' bs
  simp only [looseF, looseP_raw, e1]
/-- a drawn fold, part by part -/
structure GF (wd hz : Str) (ts : List D) (bs : List Str) (ps ex : List D) (ms : List Str) : Prop where
  w : wd ∈ sWORD
  h : hz ∈ sHEAD
  t2 : ts.length ≤ 2
  tm : ∀ t ∈ ts, (∃ z ∈ ms, t = .str z) ∨ t ∈ dTHING
  b0 : bs ≠ []
  b2 : bs.length ≤ 2
  bn : bs.Nodup
  bm : ∀ z ∈ bs, z ∈ ms
  m : gMet ps ms
  e2 : ex.length ≤ 2
  ee : ∀ p ∈ ex, gExt ms p
section
variable {wd hz : Str} {ts : List D} {bs : List Str} {ps ex : List D} {ms : List Str}
theorem GF.isW (G : GF wd hz ts bs ps ex ms) : isWord wd = true := (by decide +kernel : ∀ z ∈ sWORD, isWord z = true) wd G.w
theorem GF.nm (G : GF wd hz ts bs ps ex ms) : strNm hz = true := (by decide +kernel : ∀ z ∈ sHEAD, strNm z = true) hz G.h
theorem GF.lett (G : GF wd hz ts bs ps ex ms) : ∀ z ∈ ms, z ∈ sLETT := G.m.2.2.2.2.2.2.1
theorem GF.inL (G : GF wd hz ts bs ps ex ms) : ∀ z ∈ ms, z ∈ lettersP ps := G.m.2.2.2.2.2.2.2
theorem GF.at_ (G : GF wd hz ts bs ps ex ms) : ∀ p ∈ ps, dAtom p := G.m.2.2.1
theorem GF.tms (G : GF wd hz ts bs ps ex ms) : ∀ t ∈ ts, isTm t = true := fun t ht => by
  rcases G.tm t ht with ⟨z, hz, rfl⟩ | h
  · exact dTerm_tm _ (dTerm_str (G.lett z hz))
  · exact dTerm_tm _ (.inr h)
theorem GF.row (G : GF wd hz ts bs ps ex ms) : okRow (.str hz :: ts) := ⟨hz, ts, rfl, G.nm, by have := G.t2; omega, List.all_eq_true.mpr G.tms⟩
theorem GF.parts (G : GF wd hz ts bs ps ex ms) : ∀ p ∈ ps ++ ex, asPart p = p ∧ isNon p = false := fun p hp => by
  rcases List.mem_append.mp hp with h | h
  · exact (G.at_ p h).okp
  · exact ((G.ee p h).okp G.lett).2.2.2
theorem GF.plain (G : GF wd hz ts bs ps ex ms) : ps.filter plainP = ps ∧ ex.filter plainP = [] ∧ (ps.filter fun p => !plainP p) = [] ∧ (ex.filter fun p => !plainP p) = ex := by
  refine ⟨List.filter_eq_self.mpr fun p hp => (G.at_ p hp).ok.2, List.filter_eq_nil_iff.mpr fun p hp => ?_, List.filter_eq_nil_iff.mpr fun p hp => ?_, List.filter_eq_self.mpr fun p hp => ?_⟩
  · rw [((G.ee p hp).okp G.lett).2.1]; decide
  · rw [(G.at_ p hp).ok.2]; decide
  · rw [((G.ee p hp).okp G.lett).2.1]; rfl
theorem GF.headL (G : GF wd hz ts bs ps ex ms) : ((rawL [.tup (.str hz :: ts)]).filter fun z => !decide (z ∈ lettersP ps)) = [] := List.filter_eq_nil_iff.mpr fun z hz' => by
  have h := raw_terms hz'
  have n : hz ≠ "not" := (nm_not G.nm).1
  have h : D.str z ∈ ts := by simpa [termsP, n] using h
  have hl : z ∈ lettersP ps := by
    rcases G.tm _ h with ⟨y, hy, e⟩ | h
    · rw [D.str.inj e]; exact G.inL y hy
    · exfalso
      obtain ⟨t, ht, e⟩ := List.mem_map.mp hz'
      have h1 := (List.mem_filter.mp ht).2
      have : t = .str z := by
        cases t <;> simp [isLt] at h1
        simp [strOf] at e
        rw [e]
      rw [this, isLt_lett h] at h1
      cases h1
  simp [hl]
theorem GF.byL (G : GF wd hz ts bs ps ex ms) : (bs.filter fun z => !decide (z ∈ lettersP ps)) = [] := List.filter_eq_nil_iff.mpr fun z h => by simp [G.inL z (G.bm z h)]
theorem GF.exL (G : GF wd hz ts bs ps ex ms) : ((rawL ex).filter fun z => !decide (z ∈ lettersP ps)) = [] := List.filter_eq_nil_iff.mpr fun z h => by
  obtain ⟨t, ht, rfl⟩ := List.mem_map.mp h
  obtain ⟨h1, h2⟩ := List.mem_filter.mp ht
  obtain ⟨p, hp, h3⟩ := List.mem_flatMap.mp h1
  have := ((G.ee p hp).okp G.lett).2.2.1 (strOf t) (List.mem_map.mpr ⟨t, List.mem_filter.mpr ⟨by simpa using h3, h2⟩, rfl⟩)
  simp [G.inL _ this]
theorem GF.notL (G : GF wd hz ts bs ps ex ms) {z : Str} (h : z ∉ sLETT) : z ∉ lettersP ps := fun q => h (raw_lett G.at_ z q)
theorem GF.self (G : GF wd hz ts bs ps ex ms) : asFold (.tup [.str wd, .tup (.str hz :: ts), .tup (bs.map .str), .tup (ps ++ ex)]) = .tup [.str wd, .tup (.str hz :: ts), .tup (bs.map .str), .tup (ps ++ ex)] ∧
    looseF (.tup [.str wd, .tup (.str hz :: ts), .tup (bs.map .str), .tup (ps ++ ex)]) = [] := by
  obtain ⟨p1, p2, p3, p4⟩ := G.plain
  refine ⟨asFold_ok G.isW G.row (by have := G.t2; simp; omega) G.b0 G.bn (fun z h => lett_lt z (G.lett z (G.bm z h))) G.parts, ?_⟩
  rw [looseF_eq, List.filter_append, List.filter_append, p1, p2, p3, p4, List.append_nil, List.nil_append, G.headL, G.byL, G.exL]
  rfl
end
end L31

set_option Elab.async false
set_option linter.all false
set_option maxRecDepth 100000
set_option maxHeartbeats 4000000
namespace L31
open PySem PySem.Spec PyProof.Rows L2 Q
/-- a fold written out: it is told as it stands -/
def litF (e : D) : Prop := asFold e = e ∧ tmB e = true ∧ ∃ wd hd bs body, e = .tup [.str wd, .tup hd, .tup bs, .tup body] ∧ bs.length ≤ 100 ∧ body.length ≤ 100
theorem litF.small {e : D} (h : litF e) : smallF e := fun w hd by' body q => by
  obtain ⟨e1, _, _, _, _, _, e2, l1, l2⟩ := h
  rw [e1, e2] at q
  simp at q
  obtain ⟨_, _, rfl, rfl⟩ := q
  omega
theorem row_tm {xs : List D} (h : okRow xs) : tmB (.tup xs) = true := by
  obtain ⟨z, ts, rfl, h1, h2, h3⟩ := h
  have a : tmB (.str z) = true := isTm_tmB (by simp [isTm, isTh, isNm, h1])
  rw [tmB_tup, tmBs_cons, a, tms_tmB h3]
  simp; omega
theorem part_tm {p : D} (h : okPart p) : tmB p = true := by
  have e1 : tmB (.str "not") = true := by decide +kernel
  have e2 : tmB (.str "unlike") = true := by decide +kernel
  rcases h with ⟨xs, rfl, o⟩ | ⟨xs, rfl, o⟩ | ⟨a, b, rfl, h1, h2⟩
  · exact row_tm o
  · rw [tmB_tup, tmBs_cons, tmBs_cons, e1, row_tm o]; simp
  · rw [tmB_tup, tmBs_cons, tmBs_cons, tmBs_cons, e2, isTm_tmB h1, isTm_tmB h2]; simp
theorem lt_tm {z : Str} (h : strLt z = true) : isTm (.str z) = true := by simp [isTm, isLt, h]
theorem lit_of {wd : Str} {hd body : List D} {bs : List Str} (hw : wd ∈ sWORD) (oh : okRow hd) (hl : hd.length ≤ 6) (h0 : bs ≠ []) (nd : bs.Nodup) (hb : ∀ z ∈ bs, strLt z = true) (hp : ∀ p ∈ body, okPart p ∧ asPart p = p ∧ isNon p = false) (l1 : bs.length ≤ 100) (l2 : body.length ≤ 100) :
    litF (.tup [.str wd, .tup hd, .tup (bs.map .str), .tup body]) := by
  refine ⟨asFold_ok ((by decide +kernel : ∀ z ∈ sWORD, isWord z = true) wd hw) oh hl h0 nd hb fun p h => (hp p h).2, ?_, _, _, _, _, rfl, by rw [List.length_map]; exact l1, l2⟩
  have a : tmB (.str wd) = true := (by decide +kernel : ∀ z ∈ sWORD, tmB (.str z) = true) wd hw
  have b : tmBs (bs.map D.str) = true := tmBs_iff.mpr fun x hx => by
    obtain ⟨z, hz, rfl⟩ := List.mem_map.mp hx
    exact isTm_tmB (lt_tm (hb z hz))
  have c : tmBs body = true := tmBs_iff.mpr fun p h => part_tm (hp p h).1
  rw [tmB_tup, tmBs_cons, tmBs_cons, tmBs_cons, tmBs_cons, a, row_tm oh, tmB_tup, tmB_tup, b, c]
  simp; omega
/-- the first loose letter -/
def looseD (e : D) (z : Str) : Prop := litF e ∧ ∃ r, looseF e = z :: r
section
variable {wd hz : Str} {ts : List D} {bs : List Str} {ps ex : List D} {ms : List Str}
theorem GF.parts2 (G : GF wd hz ts bs ps ex ms) : ∀ p ∈ ps ++ ex, okPart p ∧ asPart p = p ∧ isNon p = false := fun p hp => ⟨by
  rcases List.mem_append.mp hp with h | h
  · exact (G.at_ p h).ok.1
  · exact ((G.ee p h).okp G.lett).1, G.parts p hp⟩
theorem GF.len (G : GF wd hz ts bs ps ex ms) : (ps ++ ex).length ≤ 4 := by
  have := G.m.2.1
  have := G.e2
  rw [List.length_append]; omega
theorem GF.lit (G : GF wd hz ts bs ps ex ms) : litF (.tup [.str wd, .tup (.str hz :: ts), .tup (bs.map .str), .tup (ps ++ ex)]) :=
  lit_of G.w G.row (by have := G.t2; simp; omega) G.b0 G.bn (fun z h => lett_lt z (G.lett z (G.bm z h))) G.parts2 (by have := G.b2; omega) (by have := G.len; omega)
theorem GF.byV (G : GF wd hz ts bs ps ex ms) : bs ++ [("V" : Str)] ≠ [] ∧ (bs ++ [("V" : Str)]).Nodup ∧ (∀ z ∈ bs ++ [("V" : Str)], strLt z = true) ∧ (bs ++ [("V" : Str)]).length ≤ 100 := by
  refine ⟨by simp, ?_, fun z h => ?_, by have := G.b2; simp; omega⟩
  · rw [List.nodup_append]
    refine ⟨G.bn, by simp, fun a ha b hb e => ?_⟩
    rw [List.mem_singleton.mp hb] at e
    have := G.lett a (G.bm a ha)
    rw [e] at this
    exact absurd this (by decide)
  · rcases List.mem_append.mp h with h | h
    · exact lett_lt z (G.lett z (G.bm z h))
    · rw [List.mem_singleton.mp h]; decide +kernel
theorem okRow_lts {hz : Str} (h : strNm hz = true) (zs : List Str) (hl : zs.length ≤ 6) (ht : ∀ z ∈ zs, strLt z = true) : okRow (.str hz :: zs.map .str) := ⟨hz, _, rfl, h, by rw [List.length_map]; exact hl, List.all_eq_true.mpr fun t m => by
  obtain ⟨z, hz, rfl⟩ := List.mem_map.mp m
  exact lt_tm (ht z hz)⟩
theorem rawL_row {hz : Str} (h : strNm hz = true) (zs : List Str) (ht : ∀ z ∈ zs, strLt z = true) : rawL [.tup (.str hz :: zs.map .str)] = zs := by
  have n : hz ≠ "not" := (nm_not h).1
  have e : termsP (.tup (.str hz :: zs.map .str)) = zs.map .str := by simp [termsP, n]
  unfold rawL
  rw [List.flatMap_cons, List.flatMap_nil, List.append_nil, e, List.filter_eq_self.mpr fun t m => ?_, List.map_map]
  · exact List.map_id' zs
  · obtain ⟨z, hz, rfl⟩ := List.mem_map.mp m
    exact ht z hz
theorem GF.loose1 (G : GF wd hz ts bs ps ex ms) : looseD (.tup [.str wd, .tup [.str hz, .str "W"], .tup ((bs ++ [("V" : Str)]).map .str), .tup (ps ++ ex)]) "W" := by
  obtain ⟨v1, v2, v3, v4⟩ := G.byV
  obtain ⟨p1, p2, p3, p4⟩ := G.plain
  have hw : ∀ z ∈ [("W" : Str)], strLt z = true := by decide +kernel
  refine ⟨lit_of G.w (okRow_lts G.nm ["W"] (by decide) hw) (by simp) v1 v2 v3 G.parts2 v4 (by have := G.len; omega), ?_⟩
  rw [looseF_eq, List.filter_append, p1, p2, List.append_nil]
  have : rawL [.tup [.str hz, .str "W"]] = [("W" : Str)] := rawL_row G.nm ["W"] hw
  rw [this, List.filter_cons_of_pos (by simp [G.notL (z := "W") (by decide)])]
  exact ⟨_, rfl⟩
theorem GF.loose2 (G : GF wd hz ts bs ps ex ms) : looseD (.tup [.str wd, .tup (.str hz :: ts), .tup ((bs ++ [("V" : Str)]).map .str), .tup (ps ++ ex)]) "V" := by
  obtain ⟨v1, v2, v3, v4⟩ := G.byV
  obtain ⟨p1, p2, p3, p4⟩ := G.plain
  refine ⟨lit_of G.w G.row (by have := G.t2; simp; omega) v1 v2 v3 G.parts2 v4 (by have := G.len; omega), ?_⟩
  rw [looseF_eq, List.filter_append, p1, p2, List.append_nil, G.headL, List.filter_append, G.byL, List.filter_cons_of_pos (by simp [G.notL (z := "V") (by decide)])]
  exact ⟨_, rfl⟩
theorem GF.loose3 (G : GF wd hz ts bs ps ex ms) : looseD (.tup [.str wd, .tup (.str hz :: ts), .tup (bs.map .str), .tup (ps ++ ex ++ [.tup [.str "not", .tup [.str "p", .str "U", .str "T"]]])]) "U" := by
  obtain ⟨p1, p2, p3, p4⟩ := G.plain
  have hp : okPart (.tup [.str "not", .tup [.str "p", .str "U", .str "T"]]) ∧ asPart (.tup [.str "not", .tup [.str "p", .str "U", .str "T"]]) = .tup [.str "not", .tup [.str "p", .str "U", .str "T"]] ∧ isNon (.tup [.str "not", .tup [.str "p", .str "U", .str "T"]]) = false := by
    have ok : okRow [.str "p", .str "U", .str "T"] := okRow_lts (hz := "p") (by decide +kernel) ["U", "T"] (by decide) (by decide +kernel)
    refine ⟨.inr (.inl ⟨_, rfl, ok⟩), ?_, rfl⟩
    have e := asAtom_ok (d := .tup [.str "p", .str "U", .str "T"]) rfl ok
    simp only [asPart, sqOf, asNot]
    simp [e]
  refine ⟨lit_of G.w G.row (by have := G.t2; simp; omega) G.b0 G.bn (fun z h => lett_lt z (G.lett z (G.bm z h))) (fun p h => ?_) (by have := G.b2; omega) (by have := G.len; rw [List.length_append]; simp; simp at this; omega), ?_⟩
  · rcases List.mem_append.mp h with h | h
    · exact G.parts2 p h
    · rw [List.mem_singleton.mp h]; exact hp
  have q1 : plainP (.tup [.str "not", .tup [.str "p", .str "U", .str "T"]]) = false := by simp [plainP]
  rw [looseF_eq, List.filter_append, List.filter_append, List.filter_append, List.filter_append, p1, p2, p3, p4, List.filter_cons_of_neg (by rw [q1]; decide), List.filter_cons_of_pos (by rw [q1]; rfl), List.filter_nil, List.filter_nil, List.append_nil, List.append_nil, List.nil_append, G.headL, G.byL, rawL_app, List.filter_append, G.exL]
  have : rawL [.tup [.str "not", .tup [.str "p", .str "U", .str "T"]]] = [("U" : Str), "T"] := by decide +kernel
  rw [this, List.filter_cons_of_pos (by simp [G.notL (z := "U") (by decide)]), List.filter_cons_of_pos (by simp [G.notL (z := "T") (by decide)])]
  exact ⟨["T"], rfl⟩
theorem GF.loose4 (G : GF wd hz ts bs ps ex ms) {b : Str} (hb : b ∈ bs) : looseD (.tup [.str wd, .tup (.str hz :: ts), .tup (bs.map .str), .tup (.tup [.str "unlike", .str b, .str "T"] :: (ps ++ ex))]) "T" := by
  obtain ⟨p1, p2, p3, p4⟩ := G.plain
  have hne : ("unlike" : Str) ≠ "not" := by decide +kernel
  have lb : strLt b = true := lett_lt b (G.lett b (G.bm b hb))
  have lT : strLt "T" = true := by decide +kernel
  have hp : okPart (.tup [.str "unlike", .str b, .str "T"]) ∧ asPart (.tup [.str "unlike", .str b, .str "T"]) = .tup [.str "unlike", .str b, .str "T"] ∧ isNon (.tup [.str "unlike", .str b, .str "T"]) = false := by
    refine ⟨.inr (.inr ⟨_, _, rfl, lt_tm lb, lt_tm lT⟩), ?_, rfl⟩
    simp [asPart, asUnl, hne, lt_tm lb, lt_tm lT]
  refine ⟨lit_of G.w G.row (by have := G.t2; simp; omega) G.b0 G.bn (fun z h => lett_lt z (G.lett z (G.bm z h))) (fun p h => ?_) (by have := G.b2; omega) (by have := G.len; simp at this ⊢; omega), ?_⟩
  · rcases List.mem_cons.mp h with rfl | h
    · exact hp
    · exact G.parts2 p h
  have q1 : plainP (.tup [.str "unlike", .str b, .str "T"]) = false := by simp [plainP]
  rw [looseF_eq, List.filter_cons_of_neg (by rw [q1]; decide), List.filter_cons_of_pos (by rw [q1]; rfl), List.filter_append, List.filter_append, p1, p2, p3, p4, List.append_nil, List.nil_append, G.headL, G.byL, rawL_cons, List.filter_append, G.exL]
  have : rawL [.tup [.str "unlike", .str b, .str "T"]] = [b, ("T" : Str)] := by simp [rawL, termsP, hne, isLt, lb, lT, strOf]
  rw [this, List.filter_cons_of_neg (by simp [G.inL b (G.bm b hb)]), List.filter_cons_of_pos (by simp [G.notL (z := "T") (by decide)])]
  exact ⟨[], rfl⟩
theorem GF.loose5 (G : GF wd hz ts bs ps ex ms) : looseD (.tup [.str wd, .tup [.str hz, .str "W", .str "V"], .tup [.str "W"], .tup []]) "W" := by
  have hw : ∀ z ∈ [("W" : Str), "V"], strLt z = true := by decide +kernel
  refine ⟨lit_of (bs := ["W"]) (body := []) G.w (okRow_lts G.nm ["W", "V"] (by decide) hw) (by simp) (by simp) (by simp) (by decide +kernel) (by simp) (by simp) (by simp), ?_⟩
  have e := looseF_eq (.str wd) (.tup [.str hz, .str "W", .str "V"]) ["W"] []
  have : rawL [.tup [.str hz, .str "W", .str "V"]] = [("W" : Str), "V"] := rawL_row G.nm ["W", "V"] hw
  rw [this] at e
  exact ⟨_, e⟩
end
end L31

set_option Elab.async false
set_option linter.all false
set_option maxRecDepth 100000
set_option maxHeartbeats 4000000
namespace L31
open PySem PySem.Spec PyProof.Rows L2 Q
theorem gFold.gf {d : D} (h : gFold d) : ∃ wd hz ts bs ps ex ms, d = .tup [.str wd, .tup (.str hz :: ts), .tup (bs.map .str), .tup (ps ++ ex)] ∧ GF wd hz ts bs ps ex ms := by
  obtain ⟨wd, hz, ts, bs, ps, ex, ms, rfl, a, b, c, d, e, f, g, h, i, j, k⟩ := h
  exact ⟨wd, hz, ts, bs, ps, ex, ms, rfl, ⟨a, b, c, d, e, f, g, h, i, j, k⟩⟩
def mLooseF (TT : TbL) : WMR (Strm TT) := fun ds g Kk => ∃ d, ds = [.raw (.ref g.st), d] ∧ gFold d ∧ g.c ≤ 900000 ∧ ∀ e z, looseD e z → Kk (.tup [e, .str z]) (⟨g.st, g.L, g.c + 1⟩ : SG)
section
variable {P : Program} {w : World} {K : PySem.W.Frag} {mg : Str → Option Value} {base : Heap} {f : Addr} {fd : FuncData} {TT : TbL}
-- _law_loose: slots 0 _law_stream, 1 _law_fold, 2 _law_some, 3 _law_word, 4 _law_head, 5 _law_by, 6 _law_body_here
abbrev s_L_loose : Stmt := (top 53)
abbrev N_sc_L_loose : List Str := ["_law_stream", "_law_fold", "_law_some", "_law_word", "_law_head", "_law_by", "_law_body_here"]
theorem sc_L_loose : FnScope N_sc_L_loose ["_law_stream", "_law_fold"] (defScope s_L_loose) := ⟨rfl, rfl, rfl, by decide +kernel, rfl, by decide +kernel, by decide +kernel⟩
theorem ok_L_loose (F : FnP K "_law_loose" "_law_loose" s_L_loose f fd) (T : Tx K mg) (C__law_pick : Cal P w K mg base "_law_pick" 2 ["_law_stream", "_law_some"] (spR (Strm TT) K (mPick TT))) :
    FnOk P w K mg base CX0 3 f fd ["_law_stream", "_law_fold"] (spR (Strm TT) K (mLooseF TT)) :=
  FnR F sc_L_loose (fun ds g Kk h => by obtain ⟨_, rfl, _⟩ := h; rfl) fun cdv A outer s H Fz Z E hr => ⟨_, 
(ds_cons (ds_asg (de_v (i := 1)) (dg_tup (n := 4) (dgs_cons (dg_name (i := 3) sc_L_loose.nd) (dgs_cons (dg_name (i := 4) sc_L_loose.nd) (dgs_cons (dg_name (i := 5) sc_L_loose.nd) (dgs_cons (dg_name (i := 6) sc_L_loose.nd) dgs_nil))))))
 (ds_cons (ds_new (i := 2) sc_L_loose.nd (fe_lst (da_cons (de_tup (da_cons (de_tup (da_cons (de_v (i := 3)) (da_cons (de_tup (da_cons (de_ixA (de_v (i := 4)) de_int) (da_cons de_str da_nil))) (da_cons (de_add (de_v (i := 5)) (de_tup (da_cons de_str da_nil))) (da_cons (de_v (i := 6)) da_nil))))) (da_cons de_str da_nil))) (da_cons (de_tup (da_cons (de_tup (da_cons (de_v (i := 3)) (da_cons (de_v (i := 4)) (da_cons (de_add (de_v (i := 5)) (de_tup (da_cons de_str da_nil))) (da_cons (de_v (i := 6)) da_nil))))) (da_cons de_str da_nil))) da_nil))))
 (ds_cons (ds_app (i := 2) (de_tup (da_cons (de_tup (da_cons (de_v (i := 3)) (da_cons (de_v (i := 4)) (da_cons (de_v (i := 5)) (da_cons (de_add (de_v (i := 6)) (de_tup (da_cons (de_tup (da_cons de_str (da_cons (de_tup (da_cons de_str (da_cons de_str (da_cons de_str da_nil)))) da_nil))) da_nil))) da_nil))))) (da_cons de_str da_nil))))
 (ds_cons (ds_app (i := 2) (de_tup (da_cons (de_tup (da_cons (de_v (i := 3)) (da_cons (de_v (i := 4)) (da_cons (de_v (i := 5)) (da_cons (de_add (de_tup (da_cons (de_tup (da_cons de_str (da_cons (de_ixA (de_v (i := 5)) de_int) (da_cons de_str da_nil)))) da_nil)) (de_v (i := 6))) da_nil))))) (da_cons de_str da_nil))))
 (ds_one (ds_ret (de_callR C__law_pick hr (da_cons (de_v (i := 0)) (da_cons (de_add (de_b (i := 2)) (FE.de (fe_lst (da_cons (de_tup (da_cons (de_tup (da_cons (de_v (i := 3)) (da_cons (de_tup (da_cons (de_ixA (de_v (i := 4)) de_int) (da_cons de_str (da_cons de_str da_nil)))) (da_cons (de_tup (da_cons de_str da_nil)) (da_cons (de_tup da_nil) da_nil))))) (da_cons de_str da_nil))) da_nil)))) da_nil)))))))))
  , fun ds g Kk h => by
    obtain ⟨d, rfl, hg, hc, k⟩ := h
    obtain ⟨wd, hz, ts, bs, ps, ex, ms, rfl, G⟩ := hg.gf
    obtain ⟨b0, br, hbs⟩ := List.exists_cons_of_ne_nil G.b0
    have lb : bs.length ≤ 2 := G.b2
    have lp := G.len
    have lt := G.t2
    let B : D := .tup (bs.map .str)
    let f1 : D := .tup [.str wd, .tup [.str hz, .str "W"], .tup ((bs ++ [("V" : Str)]).map .str), .tup (ps ++ ex)]
    let f2 : D := .tup [.str wd, .tup (.str hz :: ts), .tup ((bs ++ [("V" : Str)]).map .str), .tup (ps ++ ex)]
    let f3 : D := .tup [.str wd, .tup (.str hz :: ts), .tup (bs.map .str), .tup (ps ++ ex ++ [.tup [.str "not", .tup [.str "p", .str "U", .str "T"]]])]
    let f4 : D := .tup [.str wd, .tup (.str hz :: ts), .tup (bs.map .str), .tup (.tup [.str "unlike", .str b0, .str "T"] :: (ps ++ ex))]
    let f5 : D := .tup [.str wd, .tup [.str hz, .str "W", .str "V"], .tup [.str "W"], .tup []]
    let mk : Option DV → DS (Strm TT) := fun x2 => ⟨(⟨g.st, g.L, g.c⟩ : SG), [some (.fz (.raw (.ref g.st))), some (.fz (.tup [.str wd, .tup (.str hz :: ts), .tup (bs.map .str), .tup (ps ++ ex)])), x2, some (.fz (.str wd)), some (.fz (.tup (.str hz :: ts))), some (.fz (.tup (bs.map .str))), some (.fz (.tup (ps ++ ex)))]⟩
    have byV : addD (.tup (bs.map .str)) (.tup [.str "V"]) = some (.tup ((bs ++ [("V" : Str)]).map .str)) := by
      rw [ad_tup, if_pos (by simp; omega), List.map_append]; rfl
    refine seq_cut (fun ρ => ρ = mk none) (fun N hN => ⟨_, rfl, _, rfl, rfl, _, _, rfl, _, _, rfl, _, _, rfl, _, _, rfl, rfl, hN _ rfl⟩) ?_
    rintro ρ rfl
    refine seq_cut (fun ρ => ρ = mk (some (.own (.lst [.tup [f1, .str "W"], .tup [f2, .str "V"]])))) (fun N hN => ?_) ?_
    · refine ⟨_, rfl, _, rfl, .str hz, ?_, by simp, _, rfl, by simp, .tup ((bs ++ [("V" : Str)]).map .str), byV, _, rfl, by simp, by simp, _, rfl, _, rfl, _, rfl, by simp, .tup ((bs ++ [("V" : Str)]).map .str), byV, _, rfl, by simp, by simp, by simp, hN _ rfl⟩
      simp [ixN]
    rintro ρ rfl
    refine seq_cut (fun ρ => ρ = mk (some (.own (.lst [.tup [f1, .str "W"], .tup [f2, .str "V"], .tup [f3, .str "U"]])))) (fun N hN => ?_) ?_
    · refine ⟨⟨_, rfl⟩, _, rfl, _, rfl, _, rfl, _, rfl, by simp, by simp, by simp, .tup (ps ++ ex ++ [.tup [.str "not", .tup [.str "p", .str "U", .str "T"]]]), ?_, by simp, by simp, _, rfl, by simp, hN _ rfl⟩
      rw [ad_tup, if_pos (by simp; simp at lp; omega)]
    rintro ρ rfl
    refine seq_cut (fun ρ => ρ = mk (some (.own (.lst [.tup [f1, .str "W"], .tup [f2, .str "V"], .tup [f3, .str "U"], .tup [f4, .str "T"]])))) (fun N hN => ?_) ?_
    · refine ⟨⟨_, rfl⟩, _, rfl, _, rfl, _, rfl, _, rfl, .str b0, ?_, by simp, by simp, _, rfl, .tup (.tup [.str "unlike", .str b0, .str "T"] :: (ps ++ ex)), ?_, by simp, by simp, _, rfl, by simp, hN _ rfl⟩
      · rw [hbs]
        simp [ixN]
      · rw [ad_tup, if_pos (by simp; simp at lp; omega)]
        rfl
    rintro ρ rfl
    refine ⟨_, rfl, .inr ⟨_, rfl, _, rfl, _, rfl, .str hz, ?_, by simp, by simp, by simp, by simp, by simp, by simp, .lst [.tup [f1, .str "W"], .tup [f2, .str "V"], .tup [f3, .str "U"], .tup [f4, .str "T"], .tup [f5, .str "W"]], ?_, ⟨_, [.tup [f1, .str "W"], .tup [f2, .str "V"], .tup [f3, .str "U"], .tup [f4, .str "T"], .tup [f5, .str "W"]], rfl, rfl, by simp, by simp, by show g.c ≤ 1000000; omega, fun y hy => ?_⟩⟩⟩
    · simp [ixN]
    · rw [ad_lst, if_pos (by simp)]
      rfl
    simp only [List.mem_cons, List.not_mem_nil, or_false] at hy
    rcases hy with rfl | rfl | rfl | rfl | rfl
    · exact k _ _ G.loose1
    · exact k _ _ G.loose2
    · exact k _ _ G.loose3
    · exact k _ _ (G.loose4 (by rw [hbs]; exact List.mem_cons_self))
    · exact k _ _ G.loose5⟩
end
end L31

set_option Elab.async false
set_option linter.all false
set_option maxRecDepth 100000
set_option maxHeartbeats 4000000
namespace L31
open PySem PySem.Spec PyProof.Rows L2 Q
def hsOf : List Stmt → List ExceptHandler
  | .Try _ hs _ _ _ :: _ => hs
  | _ => []
/-- the classes of errors that are caught -/
structure Er (K : PySem.W.Frag) (mg : Str → Option Value) (CB CU : Addr) : Prop where
  mB : mg "BadFold" = some (.ref CB)
  mU : mg "Unsafe" = some (.ref CU)
  xB : XfC K CB
  xU : XfC K CU
  nB : PySem.W.findIn K (.ref CB) "index" = some none
  nU : PySem.W.findIn K (.ref CU) "index" = some none
  nV : PySem.W.findIn K (.ref CU) "letter" = some none
  ne : CB ≠ CU
  bb : PySem.W.exmOne K (.ref CB) (.ref CB) = some true
  bu : PySem.W.exmOne K (.ref CB) (.ref CU) = some false
  ub : PySem.W.exmOne K (.ref CU) (.ref CB) = some false
  uu : PySem.W.exmOne K (.ref CU) (.ref CU) = some true
def clsL (CB CU : Addr) : List Cl := [⟨CB, 1, "fold", ["index"]⟩, ⟨CU, 1, "unsafe", ["index", "letter"]⟩]
-- _law_tried: slots 0 _law_ask, 1 e
abbrev s_L_tried : Stmt := (top 51)
abbrev N_sc_L_tried : List Str := ["_law_ask", "e"]
theorem sc_L_tried : FnScope N_sc_L_tried ["_law_ask"] (defScope s_L_tried) := ⟨rfl, rfl, rfl, by decide +kernel, rfl, by decide +kernel, by decide +kernel⟩
theorem clauses_L {P : Program} {w : World} {K : PySem.W.Frag} {mg : Str → Option Value} {base : Heap} {CB CU : Addr} (R : Er K mg CB CU) {g : Addr} {A : Around} {outer : List Env} (cdg : Value) (s : Shared) (H : Hp) :
    Clauses (cxOf C8.CX0 P w K mg base N_sc_L_tried "_law_tried" (defScope s_L_tried) g cdg A outer s H C8.E0).nox (hsOf (defBody s_L_tried)) ((clsL CB CU).map Cl.told) := by
  refine .cons (x := "BadFold") (n := "e") ⟨by rfl, by decide, .inl R.mB⟩ rfl rfl (fun a oe cls d pn hz hf => pss_one (ps_ret (pe_tup (pa_cons pe_str (pa_cons (pe_xf R.xB R.nB hz hf (pv 1)) pa_nil))))) ?_
  refine .cons (x := "Unsafe") (n := "e") ⟨by rfl, by decide, .inl R.mU⟩ rfl rfl (fun a oe cls d pn hz hf => pss_one (ps_ret (pe_tup (pa_cons pe_str (pa_cons (pe_xf R.xU R.nU hz hf (pv 1)) (pa_cons (pe_xf R.xU R.nV hz hf (pv 1)) pa_nil)))))) .nil
end L31

set_option Elab.async false
set_option linter.all false
set_option maxRecDepth 100000
set_option maxHeartbeats 4000000
namespace L31
open PySem PySem.Spec PyProof.Rows L2 Q
/-! lists for tuples: the same fold -/
theorem sq_norm (d : D) : sqOf (norm d) = (sqOf d).map norms := by cases d <;> simp [norm, sqOf]
theorem norms_len (xs : List D) : (norms xs).length = xs.length := by rw [norms_map, List.length_map]
theorem tm_norm (t : D) : isTm (norm t) = isTm t := by cases t <;> simp [norm, isTm, isTh, isInt, isNm, isLt]
theorem tm_self {t : D} (h : isTm t = true) : norm t = t := by cases t <;> simp [isTm, isTh, isInt, isNm, isLt] at h <;> simp [norm]
theorem tms_self : ∀ {ts : List D}, ts.all isTm = true → norms ts = ts
  | [], _ => by rw [norms]
  | t :: ts, h => by
    rw [List.all_cons, Bool.and_eq_true] at h
    rw [norms, tm_self h.1, tms_self h.2]
theorem tms_norm (ts : List D) : (norms ts).all isTm = ts.all isTm := by
  rw [norms_map, List.all_map]
  congr 1
  funext t
  exact tm_norm t
theorem rowB_norm (xs : List D) : rowB (norms xs) = rowB xs := by
  cases xs with
  | nil => rw [norms]
  | cons a r =>
    rw [norms]
    have := norms_len r
    cases a <;> simp [norm, rowB, isNm, this]
theorem asAtom_norm (d : D) : asAtom (norm d) = asAtom d := by
  unfold asAtom
  rw [sq_norm]
  cases sqOf d with
  | none => rfl
  | some xs =>
    have ht : (norms xs).tail = norms xs.tail := by cases xs <;> simp [norms]
    simp only [Option.map_some, rowB_norm, ht, tms_norm]
    by_cases h : (rowB xs && xs.tail.all isTm) = true
    · rw [if_pos h, if_pos h]
      rw [Bool.and_eq_true] at h
      have ok := okRow_of h.1 h.2
      obtain ⟨z, ts, rfl, _, _, h3⟩ := ok
      rw [norms, tms_self h3, norm]
    · rw [if_neg h, if_neg h]
theorem getD_norm (xs : List D) (i : Nat) : (norms xs).getD i .non = norm (xs.getD i .non) := by
  rw [norms_map, List.getD_eq_getElem?_getD, List.getD_eq_getElem?_getD, List.getElem?_map]
  cases xs[i]? <;> simp [norm]
theorem asNot_norm (xs : List D) : asNot (norms xs) = asNot xs := by
  unfold asNot
  rw [norms_len, getD_norm, asAtom_norm]
theorem asUnl_norm (z : Str) (r : List D) : asUnl (.str z :: norms r) = asUnl (.str z :: r) := by
  unfold asUnl
  have e : (.str z :: norms r : List D) = norms (.str z :: r) := by rw [norms, norm]
  rw [e, norms_len, getD_norm, getD_norm, tm_norm, tm_norm]
  by_cases h : (D.str z :: r).length = 3 ∧ isTm ((D.str z :: r).getD 1 .non) = true ∧ isTm ((D.str z :: r).getD 2 .non) = true
  · rw [if_pos h, if_pos h]
    obtain ⟨h1, h2, h3⟩ := h
    match r, h1 with
    | [a, b], _ =>
      simp at h2 h3
      simp [norms, norm, tm_self h2, tm_self h3]
  · rw [if_neg h, if_neg h]
theorem asPart_norm (d : D) : asPart (norm d) = asPart d := by
  unfold asPart
  rw [sq_norm]
  cases hs : sqOf d with
  | none => rfl
  | some xs =>
    cases xs with
    | nil => simp [norms]
    | cons a r =>
      cases a <;> simp [norms, norm]
      rename_i z
      rw [asUnl_norm, asAtom_norm]
      have e : (.str z :: norms r : List D) = norms (.str z :: r) := by rw [norms, norm]
      rw [e, asNot_norm]
theorem asBody_norm (d : D) : asBody (norm d) = asBody d := by
  unfold asBody
  rw [sq_norm]
  cases hs : sqOf d with
  | none => rfl
  | some xs =>
    simp only [Option.map_some, norms_map]
    rw [List.any_map, List.map_map]
    have e1 : ((fun x => isNon (asPart x)) ∘ norm) = fun x => isNon (asPart x) := by funext x; simp [asPart_norm]
    have e2 : (asPart ∘ norm) = asPart := by funext x; simp [asPart_norm]
    rw [e1, e2]
theorem lt_self {t : D} (h : isLt t = true) : norm t = t := by cases t <;> simp [isLt] at h <;> simp [norm]
theorem asBy_norm (d : D) : asBy (norm d) = asBy d := by
  unfold asBy
  rw [sq_norm]
  cases hs : sqOf d with
  | none => rfl
  | some xs =>
    have h1 : (norms xs).all isLt = xs.all isLt := by
      rw [norms_map, List.all_map]
      congr 1
      funext t
      cases t <;> simp [norm, isLt]
    have h2 : (norms xs).map strOf = xs.map strOf := by
      rw [norms_map, List.map_map]
      congr 1
      funext t
      cases t <;> simp [norm, strOf]
    simp only [Option.map_some, norms_len, h1, h2]
    by_cases h : xs.length ≠ 0 ∧ xs.all isLt = true ∧ (onceS (xs.map strOf)).length = xs.length
    · rw [if_pos h, if_pos h]
      have : norms xs = xs := by
        rw [norms_map]
        conv => rhs; rw [← List.map_id xs]
        exact List.map_congr_left fun t ht => lt_self (List.all_eq_true.mp h.2.1 t ht)
      rw [this]
    · rw [if_neg h, if_neg h]
theorem asFold_norm (d : D) : asFold (norm d) = asFold d := by
  unfold asFold
  rw [sq_norm]
  cases hs : sqOf d with
  | none => rfl
  | some xs =>
    match xs with
    | [] => simp [norms]
    | [a] => cases a <;> simp [norms, norm]
    | [a, b] => cases a <;> simp [norms, norm]
    | [a, b, c] => cases a <;> simp [norms, norm]
    | [a, b, c, e] => cases a <;> simp [norms, norm, asAtom_norm, asBy_norm, asBody_norm]
    | a :: b :: c :: e :: g :: r => cases a <;> simp [norms, norm]
mutual
theorem tmB_norm : ∀ d : D, tmB (norm d) = tmB d
  | .lst xs => by rw [norm, tmB_lst, tmB_lst, norms_len, tmBs_norm xs]
  | .tup xs => by rw [norm, tmB_lst, tmB_tup, norms_len, tmBs_norm xs]
  | .non => by rw [norm]
  | .bl _ => by rw [norm]
  | .int _ => by rw [norm]
  | .str _ => by rw [norm]
  | .dct _ _ => by rw [norm]
  | .dtt _ _ => by rw [norm]
  | .ins _ _ _ => by rw [norm]
  | .raw _ => by rw [norm]
theorem tmBs_norm : ∀ xs : List D, tmBs (norms xs) = tmBs xs
  | [] => by rw [norms]
  | x :: xs => by rw [norms, tmBs_cons, tmBs_cons, tmB_norm x, tmBs_norm xs]
end
/-- folds that are there as they are -/
def goodF (d : D) : Prop := litF d ∧ looseF d = []
theorem gFold.good {d : D} (h : gFold d) : goodF d := by
  obtain ⟨wd, hz, ts, bs, ps, ex, ms, rfl, G⟩ := h.gf
  exact ⟨G.lit, G.self.2⟩
theorem small_of {d e : D} (h : litF d) (q : asFold e = asFold d) : smallF e := fun w hd by' body z => h.small w hd by' body (by rw [← q]; exact z)
/-- what is like good folds, checked -/
theorem init_good {CB CU C : Addr} {x : D} {xs fs : List D} {Kk : D → Prop} {Xk : XW} (hx : sqOf x = some xs) (hn : norms xs = norms fs) (hf : ∀ d ∈ fs, goodF d) (hl : fs.length ≤ 1000) (k : Kk (oFolds C fs)) : mInit CB CU C [x] Kk Xk := by
  have len : xs.length = fs.length := by rw [← norms_len xs, hn, norms_len]
  have asx : ∀ (xs fs : List D), norms xs = norms fs → (∀ d ∈ fs, goodF d) → (∀ t ∈ xs, ∃ d ∈ fs, asFold t = asFold d ∧ tmB t = tmB d) ∧ xs.map asFold = fs := by
    intro xs
    induction xs with
    | nil =>
      intro fs e _
      cases fs with
      | nil => exact ⟨fun t h => (nomatch h), rfl⟩
      | cons f fs => rw [norms, norms] at e; cases e
    | cons x xs ih =>
      intro fs e hf
      cases fs with
      | nil => rw [norms, norms] at e; cases e
      | cons f fs =>
        rw [norms, norms] at e
        obtain ⟨e1, e2⟩ := List.cons.inj e
        obtain ⟨i1, i2⟩ := ih fs e2 fun d h => hf d (List.mem_cons_of_mem _ h)
        have q : asFold x = asFold f := by rw [← asFold_norm x, e1, asFold_norm]
        refine ⟨fun t h => ?_, ?_⟩
        · rcases List.mem_cons.mp h with rfl | h
          · exact ⟨f, List.mem_cons_self, q, by rw [← tmB_norm t, e1, tmB_norm]⟩
          · obtain ⟨d, h1, h2⟩ := i1 t h
            exact ⟨d, List.mem_cons_of_mem _ h1, h2⟩
        · rw [List.map_cons, i2, q, (hf f List.mem_cons_self).1.1]
  obtain ⟨a1, a2⟩ := asx xs fs hn hf
  have tx : tmB x = true := by
    have : tmBs xs = true := tmBs_iff.mpr fun t ht => by
      obtain ⟨d, h1, _, h3⟩ := a1 t ht
      rw [h3]; exact (hf d h1).1.2.1
    rcases sq_cases hx with rfl | rfl
    · rw [tmB_lst, this]; simp; omega
    · rw [tmB_tup, this]; simp; omega
  refine ⟨x, rfl, tx, fun ys hy => ?_, ?_⟩
  · rw [hx] at hy
    cases hy
    refine ⟨by omega, fun t ht => ?_⟩
    obtain ⟨d, h1, h2, _⟩ := a1 t ht
    exact small_of (hf d h1).1 h2
  · unfold foldsRes
    simp only [hx]
    have n1 : (xs.findIdx? fun t => isNon (asFold t)) = none := List.findIdx?_eq_none_iff.mpr fun t ht => by
      obtain ⟨d, h1, h2, _⟩ := a1 t ht
      obtain ⟨l1, _, _, _, _, _, l2, _⟩ := (hf d h1).1
      rw [h2, l1, l2]; rfl
    have n2 : (xs.findIdx? fun t => !(looseF (asFold t)).isEmpty) = none := List.findIdx?_eq_none_iff.mpr fun t ht => by
      obtain ⟨d, h1, h2, _⟩ := a1 t ht
      rw [h2, (hf d h1).1.1, (hf d h1).2]; rfl
    simp only [n1, n2, a2]
    exact k
/-- one that is bent among folds -/
theorem init_bent {CB CU C : Addr} {pre post : List D} {e : D} {Kk : D → Prop} {Xk : XW} (h1 : ∀ d ∈ pre, litF d) (he : bentD e) (h2 : ∀ d ∈ post, tmB d = true ∧ smallF d) (hl : pre.length + post.length ≤ 900) (k : Xk CB ["index"] [.int (pre.length : Nat)]) :
    mInit CB CU C [.lst (pre ++ e :: post)] Kk Xk := by
  have se : smallF e := fun w hd by' body z => by rw [he.1] at z; cases z
  refine ⟨_, rfl, ?_, fun ys hy => ?_, ?_⟩
  · have : tmBs (pre ++ e :: post) = true := tmBs_iff.mpr fun t ht => by
      rcases List.mem_append.mp ht with h | h
      · exact (h1 t h).2.1
      · rcases List.mem_cons.mp h with rfl | h
        · exact he.2
        · exact (h2 t h).1
    rw [tmB_lst, this]; simp; omega
  · cases hy
    refine ⟨by simp; omega, fun t ht => ?_⟩
    rcases List.mem_append.mp ht with h | h
    · exact (h1 t h).small
    · rcases List.mem_cons.mp h with rfl | h
      · exact se
      · exact (h2 t h).2
  · unfold foldsRes
    simp only [sqOf]
    have n1 : ((pre ++ e :: post).findIdx? fun t => isNon (asFold t)) = some pre.length := by
      rw [List.findIdx?_append]
      have : (pre.findIdx? fun t => isNon (asFold t)) = none := List.findIdx?_eq_none_iff.mpr fun t ht => by
        obtain ⟨l1, _, _, _, _, _, l2, _⟩ := h1 t ht
        rw [l1, l2]; rfl
      rw [this, List.findIdx?_cons, he.1]
      simp [isNon]
    simp only [n1]
    exact k
/-- one that is loose among folds -/
theorem init_loose {CB CU C : Addr} {pre post : List D} {e : D} {z : Str} {Kk : D → Prop} {Xk : XW} (h1 : ∀ d ∈ pre, goodF d) (he : looseD e z) (h2 : ∀ d ∈ post, litF d) (hl : pre.length + post.length ≤ 900) (k : Xk CU ["letter", "index"] [.str z, .int (pre.length : Nat)]) :
    mInit CB CU C [.lst (pre ++ e :: post)] Kk Xk := by
  have lit : ∀ t ∈ pre ++ e :: post, litF t := fun t ht => by
    rcases List.mem_append.mp ht with h | h
    · exact (h1 t h).1
    · rcases List.mem_cons.mp h with rfl | h
      · exact he.1
      · exact h2 t h
  obtain ⟨le, r, hr⟩ := he
  refine ⟨_, rfl, ?_, fun ys hy => ?_, ?_⟩
  · have : tmBs (pre ++ e :: post) = true := tmBs_iff.mpr fun t ht => (lit t ht).2.1
    rw [tmB_lst, this]; simp; omega
  · cases hy
    exact ⟨by simp; omega, fun t ht => (lit t ht).small⟩
  · unfold foldsRes
    simp only [sqOf]
    have n1 : ((pre ++ e :: post).findIdx? fun t => isNon (asFold t)) = none := List.findIdx?_eq_none_iff.mpr fun t ht => by
      obtain ⟨l1, _, _, _, _, _, l2, _⟩ := lit t ht
      rw [l1, l2]; rfl
    have n2 : ((pre ++ e :: post).findIdx? fun t => !(looseF (asFold t)).isEmpty) = some pre.length := by
      rw [List.findIdx?_append]
      have : (pre.findIdx? fun t => !(looseF (asFold t)).isEmpty) = none := List.findIdx?_eq_none_iff.mpr fun t ht => by
        rw [(h1 t ht).1.1, (h1 t ht).2]; rfl
      rw [this, List.findIdx?_cons, le.1, hr]
      simp
    have g : (pre ++ e :: post).getD pre.length .non = e := by simp
    simp only [n1, n2, g, le.1, hr]
    exact k
end L31

set_option Elab.async false
set_option linter.all false
set_option maxRecDepth 100000
set_option maxHeartbeats 4000000
namespace L31
open PySem PySem.Spec PyProof.Rows L2 Q
/-- plain, flat enough, small enough, without lists -/
def pf (n k : Nat) (d : D) : Prop := isDat d = true ∧ dep d ≤ n ∧ wid d = true ∧ cnt d ≤ k ∧ noL d = true
def pfs (n k : Nat) (xs : List D) : Prop := isDats xs = true ∧ deps xs ≤ n ∧ wids xs = true ∧ cnts xs ≤ xs.length * k ∧ noLs xs = true
theorem pf.mono {n k n' k' : Nat} {d : D} (h : pf n k d) (h1 : n ≤ n') (h2 : k ≤ k') : pf n' k' d := ⟨h.1, Nat.le_trans h.2.1 h1, h.2.2.1, Nat.le_trans h.2.2.2.1 h2, h.2.2.2.2⟩
theorem pfs_of {n k : Nat} : ∀ {xs : List D}, (∀ x ∈ xs, pf n k x) → pfs n k xs
  | [], _ => by simp [pfs, isDats, deps, wids, cnts, noLs]
  | x :: xs, h => by
    obtain ⟨a1, a2, a3, a4, a5⟩ := h x List.mem_cons_self
    obtain ⟨b1, b2, b3, b4, b5⟩ := pfs_of (n := n) (k := k) fun y hy => h y (List.mem_cons_of_mem _ hy)
    refine ⟨by rw [isDats, a1, b1]; rfl, by rw [deps]; omega, by rw [wids, a3, b3]; rfl, ?_, by rw [noLs, a5, b5]; rfl⟩
    rw [cnts, List.length_cons, Nat.add_mul]
    omega
theorem pf_tup {n k : Nat} {xs : List D} (h : ∀ x ∈ xs, pf n k x) (l : xs.length ≤ 1000) : pf (n + 1) (xs.length * k + 1) (.tup xs) := by
  obtain ⟨a1, a2, a3, a4, a5⟩ := pfs_of h
  exact ⟨by rw [isDat]; exact a1, by rw [dep]; omega, by rw [wid, a3]; simp; omega, by rw [cnt]; omega, by rw [noL]; exact a5⟩
theorem pf_tm {t : D} (h : isTm t = true) : pf 0 0 t := by
  cases t <;> simp [isTm, isTh, isInt, isNm, isLt] at h <;> simp [pf, isDat, dep, wid, cnt, noL]
theorem pf_str (z : Str) : pf 0 0 (.str z) := by simp [pf, isDat, dep, wid, cnt, noL]
theorem pf_row {xs : List D} (h : okRow xs) : pf 1 1 (.tup xs) := by
  obtain ⟨z, ts, rfl, h1, h2, h3⟩ := h
  refine (pf_tup (n := 0) (k := 0) (fun x hx => ?_) (by simp; omega)).mono (by omega) (by simp)
  rcases List.mem_cons.mp hx with rfl | hx
  · exact pf_str z
  · exact pf_tm (List.all_eq_true.mp h3 x hx)
theorem pf_part {p : D} (h : okPart p) : pf 2 3 p := by
  rcases h with ⟨xs, rfl, o⟩ | ⟨xs, rfl, o⟩ | ⟨a, b, rfl, h1, h2⟩
  · exact (pf_row o).mono (by omega) (by omega)
  · refine (pf_tup (n := 1) (k := 1) (fun x hx => ?_) (by simp)).mono (by omega) (by simp)
    rcases List.mem_cons.mp hx with rfl | hx
    · exact (pf_str _).mono (by omega) (by omega)
    · rw [List.mem_singleton.mp hx]; exact pf_row o
  · refine (pf_tup (n := 0) (k := 0) (fun x hx => ?_) (by simp)).mono (by omega) (by simp)
    simp only [List.mem_cons, List.not_mem_nil, or_false] at hx
    rcases hx with rfl | rfl | rfl
    · exact pf_str _
    · exact pf_tm h1
    · exact pf_tm h2
theorem gFold.pf {d : D} (h : gFold d) : pf 4 53 d := by
  obtain ⟨wd, hz, ts, bs, ps, ex, ms, rfl, G⟩ := h.gf
  refine (pf_tup (n := 3) (k := 13) (fun x hx => ?_) (by simp)).mono (by omega) (by simp)
  simp only [List.mem_cons, List.not_mem_nil, or_false] at hx
  rcases hx with rfl | rfl | rfl | rfl
  · exact (pf_str _).mono (by omega) (by omega)
  · exact (pf_row G.row).mono (by omega) (by omega)
  · refine (pf_tup (n := 0) (k := 0) (fun x hx => ?_) (by have := G.b2; simp; omega)).mono (by omega) (by simp)
    obtain ⟨z, _, rfl⟩ := List.mem_map.mp hx
    exact pf_str z
  · have l := G.len
    refine (pf_tup (n := 2) (k := 3) (fun x hx => pf_part (G.parts2 x hx).1) (by omega)).mono (by omega) (by omega)
/-- some drawn folds -/
structure Fs (fs : List D) : Prop where
  g : ∀ d ∈ fs, gFold d
  l0 : 1 ≤ fs.length
  l3 : fs.length ≤ 3
theorem Fs.pfs {fs : List D} (h : Fs fs) : pfs 4 53 fs := pfs_of fun d hd => (h.g d hd).pf
theorem Fs.good {fs : List D} (h : Fs fs) : ∀ d ∈ fs, goodF d := fun d hd => (h.g d hd).good
theorem Fs.lst {fs : List D} (h : Fs fs) : isDat (.lst fs) = true ∧ dep (.lst fs) ≤ 5 ∧ wid (.lst fs) = true ∧ cnt (.lst fs) ≤ 160 := by
  obtain ⟨a1, a2, a3, a4, a5⟩ := h.pfs
  have := h.l3
  exact ⟨by rw [isDat]; exact a1, by rw [dep]; omega, by rw [wid, a3]; simp; omega, by rw [cnt]; omega⟩
mutual
theorem deq_self : ∀ {d : D}, isDat d = true → deq d d = true
  | .lst xs, h => by rw [eq_lst_lst]; exact deqs_self (by simpa [isDat] using h)
  | .tup xs, h => by rw [eq_tup_tup]; exact deqs_self (by simpa [isDat] using h)
  | .non, _ => by simp
  | .bl _, _ => by simp
  | .int _, _ => by simp
  | .str _, _ => by simp
  | .dct _ _, h => by simp [isDat] at h
  | .dtt _ _, h => by simp [isDat] at h
  | .ins _ _ _, h => by simp [isDat] at h
  | .raw _, h => by simp [isDat] at h
theorem deqs_self : ∀ {xs : List D}, isDats xs = true → deqs xs xs = true
  | [], _ => by simp [deqs]
  | x :: xs, h => by
    rw [isDats, Bool.and_eq_true] at h
    rw [deqs, deq_self h.1, deqs_self h.2]
    rfl
end
theorem deqs_len : ∀ {xs ys : List D}, deqs xs ys = true → xs.length = ys.length
  | [], [], _ => rfl
  | [], _ :: _, h => by simp [deqs] at h
  | _ :: _, [], h => by simp [deqs] at h
  | x :: xs, y :: ys, h => by
    rw [deqs, Bool.and_eq_true] at h
    rw [List.length_cons, List.length_cons, deqs_len h.2]
theorem deqs_ne {xs ys : List D} (h : xs.length ≠ ys.length) : deqs xs ys = false := by
  cases q : deqs xs ys with
  | false => rfl
  | true => exact absurd (deqs_len q) h
theorem cut_from (ys : List D) (n : Nat) (h : n ≤ ys.length) : Q.cutD ys (some (n : Int)) none = ys.drop n := by
  unfold Q.cutD
  rw [HT.sIx_none, HT.sIx_nat, Nat.min_eq_left h, List.take_of_length_le (by rw [List.length_drop]; omega)]
end L31

set_option Elab.async false
set_option linter.all false
set_option maxRecDepth 100000
set_option maxHeartbeats 8000000
namespace L31
open PySem PySem.Spec PyProof.Rows L2 Q
theorem takes_lam {X : Cx} {A : Around} {outer : List Env} {s : Shared} {H : Hp} {E : XK} {scope : Scope} {f c' : Addr} : Takes (LamX.lamCx X A outer s H E scope f c') (fun cls d _ H => E cls d H) := takes_of rfl rfl rfl rfl
theorem pass_lam {X : Cx} {A : Around} {outer : List Env} {s : Shared} {H : Hp} {E : XK} {scope : Scope} {f c' : Addr} : Passes (L2.CX (LamX.lamCx X A outer s H E scope f c').prog (LamX.lamCx X A outer s H E scope f c').w) (LamX.lamCx X A outer s H E scope f c') E := passes_call takes_lam fun _ _ _ _ h => h
theorem lst_listed {R : Rgn} {C : Addr} {i : Nat} (ρ : DS R) (Kk : D → DS R → Prop) (h : wMeth C "listed" (mOwn C .lst) (wV i) ρ Kk) : wMeth C "listed" (mOwn C .lst) (wV i) ρ fun d ρ1 => Kk d ρ1 ∧ ∃ ds, d = .lst ds := by
  obtain ⟨d, e, ns, xs, e2, nf, ys, e3, a, b, k⟩ := h
  exact ⟨d, e, ns, xs, e2, nf, ys, e3, a, b, k, _, rfl⟩
theorem wNil_k {R : Rgn} {ρ : DS R} {K : List D → DS R → Prop} (h : K [] ρ) : wNil ρ K := h
theorem tAny_k {R : Rgn} {ρ : DS R} {w : WE R} {K : Bool → DS R → Prop} (h : w ρ fun x ρ1 => ∃ z, anyD x = some z ∧ ∃ b, truD z = some b ∧ K b ρ1) : wTruth (wUn anyD w) ρ K := h
theorem cl_fold {R : Rgn} {CB CU : Addr} {K : D → DS R → Prop} {ρ : DS R} {i : Int} (k : K (.tup [.str "fold", .int i]) ρ) : wClauses K (clsL CB CU) CB ["index"] [.int i] ρ := by
  unfold clsL wClauses
  rw [if_pos rfl]
  exact ⟨[.int i], rfl, by simp, k⟩
theorem cl_unsafe {R : Rgn} {CB CU : Addr} (ne : CB ≠ CU) {K : D → DS R → Prop} {ρ : DS R} {z : Str} {i : Int} (k : K (.tup [.str "unsafe", .int i, .str z]) ρ) : wClauses K (clsL CB CU) CU ["letter", "index"] [.str z, .int i] ρ := by
  unfold clsL wClauses
  rw [if_neg (fun e => ne e.symm)]
  unfold wClauses
  rw [if_pos rfl]
  exact ⟨[.int i, .str z], rfl, by simp, k⟩
abbrev qLam : Str := "law.<locals>.<lambda>"
section
variable {P : Program} {w : World} {K : PySem.W.Frag} {mg : Str → Option Value} {base : Heap} {f g : Addr} {fd gd : FuncData} {C CB CU co PT : Addr}
-- law: slots 0 _law_script, 1 _law_stream, 2 _law_turn, 3 _law_folds, 4 _law_others, 5 _law_at, 6 _law_bent_here, 7 _law_found, 8 _law_rows, 9 _law_kept, 10 _law_given, 11 _law_made, 12 _law_one, 13 _law_other, 14 _law_loose_here, 15 _law_letter, 16 _law_k, 17 _law_x
abbrev s_law : Stmt := (top 54)
abbrev N_sc_law : List Str := ["_law_script", "_law_stream", "_law_turn", "_law_folds", "_law_others", "_law_at", "_law_bent_here", "_law_found", "_law_rows", "_law_kept", "_law_given", "_law_made", "_law_one", "_law_other", "_law_loose_here", "_law_letter", "_law_k", "_law_x"]
theorem sc_law : FnScope N_sc_law ["_law_script"] (defScope s_law) := ⟨rfl, rfl, rfl, by decide +kernel, rfl, by decide +kernel, by decide +kernel⟩
theorem law_rest (T : Tx K mg) (RE : Er K mg CB CU) (I_Folds : IsC K C) (O_ex : ∃ g, PySem.W.findIn K (.ref C) "__eq__" = some (some (.ref g)) ∧ PySem.W.isFn K (.ref g) = true ∧ L2.FnR P w K mg base CX0 1 g (spD K (mEqF C)))
    (O_ne : PySem.W.findIn K (.ref C) "__ne__" = some (some (.builtin "object.__ne__"))) (L_ex : ∃ g, PySem.W.findIn K (.ref C) "__len__" = some (some (.ref g)) ∧ PySem.W.isFn K (.ref g) = true ∧ L2.FnR P w K mg base CX0 1 g (spD K (mOwn C fun xs => .int (xs.length : Nat))))
    (M_listed : CalM P w K mg base C "listed" 1 ["self"] (spF K (mOwn C .lst))) (C_Folds : CalK P w K mg base "Folds" C 10 ["self", "folds"] (mInit CB CU C))
    (hmT : mg "_law_tried" = some (.ref g)) (FT : FnP K "_law_tried" "_law_tried" s_L_tried g gd) (bT : L2.Binds K gd ["_law_ask"] []) (TB : LamX.TabB base mg co PT)
    (C__law_shape : Cal P w K mg base "_law_shape" 3 ["_law_stream"] (spR (Strm [(PT, qLam)]) K (mShape [(PT, qLam)]))) (C__law_draw : Cal P w K mg base "_law_draw" 1 ["_law_stream", "_law_many"] (spR (Strm [(PT, qLam)]) K (mDraw [(PT, qLam)])))
    (C__law_w_fold : Cal P w K mg base "_law_w_fold" 4 ["_law_stream", "_law_shape_here", "_law_things_here", "_law_has_nots"] (spR (Strm [(PT, qLam)]) K (mWFold [(PT, qLam)]))) (C__law_things : Cal P w K mg base "_law_things" 3 ["_law_stream", "_law_many"] (spR (Strm [(PT, qLam)]) K (mThings [(PT, qLam)])))
    (C__law_pick : Cal P w K mg base "_law_pick" 2 ["_law_stream", "_law_some"] (spR (Strm [(PT, qLam)]) K (mPick [(PT, qLam)]))) (C__law_w_loose : Cal P w K mg base "_law_w_loose" 7 ["_law_stream", "_law_thing"] (spR (Strm [(PT, qLam)]) K (mLoose [(PT, qLam)] 6)))
    (C__law_same : Cal P w K mg base "_law_same" 7 ["_law_found", "_law_due"] (spD K (mSame 6))) (C__law_bent : Cal P w K mg base "_law_bent" 3 ["_law_stream", "_law_fold"] (spR (Strm [(PT, qLam)]) K (mBent [(PT, qLam)])))
    (C__law_loose : Cal P w K mg base "_law_loose" 3 ["_law_stream", "_law_fold"] (spR (Strm [(PT, qLam)]) K (mLooseF [(PT, qLam)])))
    {A : Around} {outer : List Env} {s : Shared} {H F0 H0 : Hp} {Z0 : Addr → Prop} {E : XK} (hr : Room 13 (A.deeper (envOfC "law" (defScope s_law) s.heap.objs.size f (.ref co)))) :
    ∃ w' : WS (Strm [(PT, qLam)]), DSs (bodyX P w K mg base N_sc_law "law" s_law f (.ref co) A outer s H E) ⟨K, Strm [(PT, qLam)], H0, F0, Z0⟩ false ((defBody s_law).drop 1) w' ∧
      ∀ (Dk : DEnds (Strm [(PT, qLam)])) (st L a0 : Addr), (∀ g', Dk.rt (.bl true) g') → w' Dk ⟨(⟨st, L, 0⟩ : SG), [some (.fz (.raw (.ref a0))), some (.fz (.raw (.ref st)))] ++ List.replicate 16 none⟩ := by
  have tr : ∀ {params : Arguments} {body : Expr} {scope : Scope} {w' : WEX (Strm [(PT, qLam)])} {p lpos pos : Pos}, LamX.LamS (defScope s_law) scope → defaultsOf params (bodyX P w K mg base N_sc_law "law" s_law f (.ref co) A outer s H E).env = ([], []) →
      (∀ (q : Str) (cl : List (Str × Addr)) (pm cv ctv : Value), bindArgs (PySem.W.kla_fn "<lambda>" q params body scope cl pm cv ctv) ⟨[], []⟩ = pure []) →
      (∀ (A' : Around) (outer' : List Env) (s' : Shared) (H' : Hp) (E' : XK) (f' c' : Addr), Room 11 (A'.deeper (LamX.lamEnv (bodyX P w K mg base N_sc_law "law" s_law f (.ref co) A outer s H E) scope s'.heap.objs.size f' c')) →
        DX (LamX.lamCx (bodyX P w K mg base N_sc_law "law" s_law f (.ref co) A outer s H E) A' outer' s' H' E' scope f' c') ⟨K, Strm [(PT, qLam)], H0, F0, Z0⟩ body w' E') →
      DE (bodyX P w K mg base N_sc_law "law" s_law f (.ref co) A outer s H E) ⟨K, Strm [(PT, qLam)], H0, F0, Z0⟩ false false (.Call (.Name "_law_tried" p) [.Lambda params body scope lpos] [] pos) (wTried (clsL CB CU) w') := fun L nodef hbind hbody =>
    de_tried (n := 0) (k := 11) (cs := clsL CB CU) (T := [(PT, qLam)]) hmT FT bT sc_L_tried rfl (by first | exact .inl rfl | exact .inr (.inl rfl) | exact .inr (.inr rfl)) rfl (fun cdg s H => clauses_L RE cdg s H) (fun f => rfl) (fun k hk => by
      simp only [clsL, List.mem_cons, List.not_mem_nil, or_false] at hk
      rcases hk with rfl | rfl
      · show 1 < 2; decide
      · show 1 < 2; decide) (fun k hk k' hk' => by
      simp only [clsL, List.mem_cons, List.not_mem_nil, or_false] at hk hk'
      rcases hk with rfl | rfl <;> rcases hk' with rfl | rfl
      · rw [decide_eq_true rfl]; exact RE.bb
      · rw [decide_eq_false RE.ne]; exact RE.bu
      · rw [decide_eq_false (fun e => RE.ne e.symm)]; exact RE.ub
      · rw [decide_eq_true rfl]; exact RE.uu) TB rfl (List.mem_singleton.mpr rfl) (fun p hp _ => by rw [List.mem_singleton.mp hp]; rfl) (lam_strm _) hr L nodef hbind hbody
  refine ⟨_, 
(ds_cons (ds_for (di_rng T.b_range de_int) (dg_name (i := 2) sc_law.nd)
  (ds_cons (ds_asg (de_callR C__law_shape hr (da_cons (de_v (i := 1)) da_nil)) (dg_tup (n := 2) (dgs_cons (dg_name (i := 10) sc_law.nd) (dgs_cons (dg_name (i := 11) sc_law.nd) dgs_nil))))
 (ds_cons (ds_set (i := 3) sc_law.nd (FE.de (fe_lc (own := [("_law_k", 16)]) sc_law.nd (di_rng T.b_range (de_add de_int (de_callR C__law_draw hr (da_cons (de_v (i := 1)) (da_cons de_int da_nil))))) (blkOk_by (own := [("_law_k", 16)]) (N := N_sc_law) (sc := defScope s_law) (by decide +kernel)) (fun _ _ _ _ _ => (dg_name (i := 16) sc_law.nd)) (fun _ _ _ _ _ => dts_nil) (fun _ _ _ _ _ => (de_callR C__law_w_fold hr (da_cons (de_v (i := 1)) (da_cons (de_v (i := 10)) (da_cons (de_callR C__law_things hr (da_cons (de_v (i := 1)) (da_cons de_int da_nil))) (da_cons de_bl da_nil)))))))))
 (ds_cons (ds_asg (de_tup (da_cons (DX.de (dx_make C_Folds passF hr (da_cons (de_callR C__law_pick hr (da_cons (de_v (i := 1)) (da_cons (FE.de (fe_lst (da_cons (de_callR C__law_w_loose hr (da_cons (de_v (i := 1)) (da_cons (de_v (i := 3)) da_nil))) (da_cons (de_v (i := 3)) da_nil)))) da_nil))) da_nil))) (da_cons (DX.de (dx_make C_Folds passF hr (da_cons (de_tuple T.b_tuple (de_v (i := 3))) da_nil))) da_nil))) (dg_tup (n := 2) (dgs_cons (dg_name (i := 12) sc_law.nd) (dgs_cons (dg_name (i := 13) sc_law.nd) dgs_nil))))
 (ds_cons (ds_appF (fe_meth M_listed hr (de_v (i := 12))) de_str (lst := lst_listed))
 (ds_cons (ds_if (DW.dt (dw_or (dt_not (dt_truth (de_call C__law_same hr (da_cons (FE.de (fe_meth M_listed hr (de_v (i := 12)))) (da_cons (de_v (i := 3)) da_nil))))) (dw_or1 (dt_cm (c_ne hr) (de_lenO T.b_len ⟨L_ex⟩ hr (de_v (i := 12))) (de_len T.b_len (de_v (i := 3))))))) (ds_one (ds_ret de_bl)) ds_nil)
 (ds_cons (ds_set (i := 4) sc_law.nd (FE.de (fe_lst (da_cons de_non (da_cons (de_v (i := 3)) (da_cons (DX.de (dx_make C_Folds passF hr (da_cons (de_add (de_v (i := 3)) (de_sl (de_v (i := 3)) dp_no (dp_at de_int))) da_nil))) (da_cons (DX.de (dx_make C_Folds passF hr (da_cons (de_sl (de_v (i := 3)) (dp_at de_int) dp_no) da_nil))) da_nil)))))))
 (ds_cons (ds_if (DW.dt (dw_or (dt_ownN I_Folds ⟨O_ex, O_ne⟩ hr (de_v (i := 12)) (de_v (i := 13))) (dw_or (dt_not (dt_ownE I_Folds ⟨O_ex, O_ne⟩ hr (de_v (i := 12)) (de_v (i := 13)))) (dw_or1 (dt_truth (de_any T.b_any (FE.de (fe_lc (own := [("_law_x", 17)]) sc_law.nd (di_seq (de_v (i := 4))) (blkOk_by (own := [("_law_x", 17)]) (N := N_sc_law) (sc := defScope s_law) (by decide +kernel)) (fun _ _ _ _ _ => (dg_name (i := 17) sc_law.nd)) (fun _ _ _ _ _ => dts_nil) (fun _ _ _ _ _ => (de_or (de_ownE I_Folds ⟨O_ex, O_ne⟩ hr (de_v (i := 12)) (de_v (i := 17))) (de_one (de_not (de_ownN I_Folds ⟨O_ex, O_ne⟩ hr (de_v (i := 12)) (de_v (i := 17))))))))))))))) (ds_one (ds_ret de_bl)) ds_nil)
 (ds_cons (ds_set (i := 5) sc_law.nd (de_callR C__law_draw hr (da_cons (de_v (i := 1)) (da_cons (de_add (de_len T.b_len (de_v (i := 3))) de_int) da_nil))))
 (ds_cons (ds_set (i := 6) sc_law.nd (de_callR C__law_bent hr (da_cons (de_v (i := 1)) (da_cons (de_callR C__law_pick hr (da_cons (de_v (i := 1)) (da_cons (de_v (i := 3)) da_nil))) da_nil))))
 (ds_cons (ds_asg (de_callR C__law_loose hr (da_cons (de_v (i := 1)) (da_cons (de_callR C__law_pick hr (da_cons (de_v (i := 1)) (da_cons (de_v (i := 3)) da_nil))) da_nil))) (dg_tup (n := 2) (dgs_cons (dg_name (i := 14) sc_law.nd) (dgs_cons (dg_name (i := 15) sc_law.nd) dgs_nil))))
 (ds_cons (ds_new (i := 7) sc_law.nd (fe_lst (da_cons (tr (LamX.lamS_by (by decide +kernel)) rfl (fun _ _ _ _ _ => rfl) (fun A outer s H E f c' room => (dx_make C_Folds pass_lam room (da_cons (de_add (de_add (de_add (de_sl (de_v (i := 3)) dp_no (dp_at (de_v (i := 5)))) (FE.de (fe_lst (da_cons (de_v (i := 6)) da_nil)))) (de_sl (de_v (i := 3)) (dp_at (de_v (i := 5))) dp_no)) (FE.de (fe_lst (da_cons de_non da_nil)))) da_nil)))) da_nil)))
 (ds_cons (ds_app (i := 7) (tr (LamX.lamS_by (by decide +kernel)) rfl (fun _ _ _ _ _ => rfl) (fun A outer s H E f c' room => (dx_make C_Folds pass_lam room (da_cons (de_add (de_add (FE.de (fe_lst (da_cons (de_v (i := 14)) da_nil))) (de_sl (de_v (i := 3)) dp_no (dp_at (de_v (i := 5))))) (FE.de (fe_lst (da_cons (de_v (i := 6)) da_nil)))) da_nil)))))
 (ds_cons (ds_app (i := 7) (tr (LamX.lamS_by (by decide +kernel)) rfl (fun _ _ _ _ _ => rfl) (fun A outer s H E f c' room => (dx_make C_Folds pass_lam room (da_cons (de_add (de_add (de_add (de_sl (de_v (i := 3)) dp_no (dp_at (de_v (i := 5)))) (FE.de (fe_lst (da_cons (de_v (i := 14)) da_nil)))) (de_sl (de_v (i := 3)) (dp_at (de_v (i := 5))) dp_no)) (FE.de (fe_lst (da_cons (de_v (i := 14)) da_nil)))) da_nil)))))
 (ds_cons (ds_app (i := 7) (tr (LamX.lamS_by (by decide +kernel)) rfl (fun _ _ _ _ _ => rfl) (fun A outer s H E f c' room => (dx_make C_Folds pass_lam room (da_cons (de_callR C__law_pick room (da_cons (de_v (i := 1)) (da_cons (FE.de (fe_lst (da_cons de_non (da_cons de_int (da_cons de_str (da_cons (FE.de fe_d0) (da_cons de_bl da_nil))))))) da_nil))) da_nil)))))
 (ds_cons (ds_if (dt_cm (c_ne hr) (de_b (i := 7)) (FE.de (fe_lst (da_cons (de_tup (da_cons de_str (da_cons (de_v (i := 5)) da_nil))) (da_cons (de_tup (da_cons de_str (da_cons (de_add (de_v (i := 5)) de_int) da_nil))) (da_cons (de_tup (da_cons de_str (da_cons (de_v (i := 5)) (da_cons (de_v (i := 15)) da_nil)))) (da_cons (de_tup (da_cons de_str (da_cons de_int da_nil))) da_nil))))))) (ds_one (ds_ret de_bl)) ds_nil)
 (ds_cons (ds_new (i := 8) sc_law.nd (fe_list T.b_list (de_callR C__law_w_loose hr (da_cons (de_v (i := 1)) (da_cons (de_v (i := 3)) da_nil)))))
 (ds_cons (ds_set (i := 9) sc_law.nd (de_makeB (i := 8) C_Folds hr))
 (ds_cons (ds_app (i := 8) de_str)
 (ds_one (ds_if (dt_ownN I_Folds ⟨O_ex, O_ne⟩ hr (de_v (i := 9)) (de_v (i := 12))) (ds_one (ds_ret de_bl)) ds_nil)))))))))))))))))))))
 (ds_one (ds_ret de_bl)))
  , fun Dk st L a0 k => ?_⟩
  let mk : Nat → Option DV → Option DV → Option DV → Option DV → Option DV → Option DV → Option DV → Option DV → Option DV → Option DV → Option DV → Option DV → Option DV → Option DV → DS (Strm [(PT, qLam)]) := fun c x2 x3 x4 x5 x6 x7 x8 x9 x10 x11 x12 x13 x14 x15 => ⟨(⟨st, L, c⟩ : SG), [some (.fz (.raw (.ref a0))), some (.fz (.raw (.ref st))), x2, x3, x4, x5, x6, x7, x8, x9, x10, x11, x12, x13, x14, x15, none, none]⟩
  refine seq_cut (fun _ => True) (fun N hN => ?_) (fun ρ' _ => k _)
  refine ⟨4, rfl, by decide, by decide, ?_⟩
  refine forGo_ind (fun rest ρ => ∃ c x2 x3 x4 x5 x6 x7 x8 x9 x10 x11 x12 x13 x14 x15, c + 1000 * rest.length ≤ 4000 ∧ ρ = mk c x2 x3 x4 x5 x6 x7 x8 x9 x10 x11 x12 x13 x14 x15) ?_ ?_ _ _ ⟨0, none, none, none, none, none, none, none, none, none, none, none, none, none, none, by simp [rngD], rfl⟩
  · rintro d rest N2 ρ hN2 ⟨c, x2, x3, x4, x5, x6, x7, x8, x9, x10, x11, x12, x13, x14, x15, hc, rfl⟩
    rw [List.length_cons] at hc
    have hc0 : c ≤ 4000 := by omega
    show sSeq _ _ _ (mk c (some (.fz d)) x3 x4 x5 x6 x7 x8 x9 x10 x11 x12 x13 x14 x15)
    refine seq_cut (fun ρ => ∃ a b, dShape a ∧ ρ = mk (c + 10) (some (.fz d)) x3 x4 x5 x6 x7 x8 x9 (some (.fz a)) (some (.fz b)) x12 x13 x14 x15) (fun N hN => ?_) ?_
    · exact ⟨_, rfl, rfl, by show c ≤ 900000; omega, fun a b ha => ⟨_, rfl, rfl, _, _, rfl, _, _, rfl, rfl, hN _ ⟨a, b, ha, rfl⟩⟩⟩
    clear x10 x11
    rintro ρ ⟨sh, x11, hsh, rfl⟩
    refine seq_cut (fun ρ => ∃ fs c', Fs fs ∧ c' ≤ c + 341 ∧ ρ = mk c' (some (.fz d)) (some (.fz (.lst fs))) x4 x5 x6 x7 x8 x9 (some (.fz sh)) (some (.fz x11)) x12 x13 x14 x15) (fun N hN => ?_) ?_
    · refine ⟨_, rfl, 3, rfl, by show c + 10 ≤ 1000000; omega, by decide, by decide, fun i i0 i1 => ?_⟩
      refine ⟨_, rfl, 1 + i, rfl, by omega, by omega, ?_⟩
      refine ⟨by simp [rngD]; omega, fun j m d' q => ?_, ?_⟩
      · have e : j = 16 := by simpa using m
        subst e
        cases q
      refine lcGo_ind (fun rest acc ρ => ∃ c', (∀ d ∈ acc, gFold d) ∧ acc.length + rest.length = (1 + i).toNat ∧ c' ≤ c + 11 + 110 * acc.length ∧ ρ = mk c' (some (.fz d)) x3 x4 x5 x6 x7 x8 x9 (some (.fz sh)) (some (.fz x11)) x12 x13 x14 x15) ?_ ?_ _ _ _ ⟨c + 11, by simp, by simp [rngD], by simp, rfl⟩
      · rintro d' rest' acc N' ρ hN' ⟨c', h1, h2, h3, rfl⟩
        rw [List.length_cons] at h2
        refine ⟨_, rfl, _, rfl, _, rfl, 3, rfl, by decide, by show c' ≤ 900000; omega, fun ths t1 t2 => ?_⟩
        refine ⟨sh, ths, rfl, hsh, (fun e => by rw [e] at t1; cases t1), by omega, t2, by show c' + 10 ≤ 700000; omega, fun y c2 hy hc2 => hN' _ _ ⟨c2, fun q hq => ?_, by rw [List.length_append]; simp; omega, ?_, rfl⟩⟩
        · rcases List.mem_append.mp hq with h | h
          · exact h1 q h
          · rw [List.mem_singleton.mp h]; exact hy
        · have hc2 : c2 ≤ c' + 10 + 100 := hc2
          rw [List.length_append]; simp; omega
      · rintro acc ρ ⟨c', h1, h2, h3, rfl⟩
        have h2 : acc.length = (1 + i).toNat := by simpa using h2
        exact hN _ ⟨acc, c', ⟨h1, by omega, by omega⟩, by omega, rfl⟩
    rintro ρ ⟨fs, c1, hfs, hc1, rfl⟩
    obtain ⟨f1, f2, f3, f4⟩ := hfs.lst
    have fl := hfs.l3
    have fl0 := hfs.l0
    have init : ∀ {x : D} {xs gs : List D} {Kk : D → Prop} {Xk : XW}, sqOf x = some xs → norms xs = norms gs → (∀ d ∈ gs, d ∈ fs) → gs.length ≤ 1000 → Kk (oFolds C gs) → mInit CB CU C [x] Kk Xk := fun h1 h2 h3 h4 h5 => init_good h1 h2 (fun d hd => hfs.good d (h3 d hd)) h4 h5
    -- what is like the folds
    have like : ∀ {y : D}, norm y = norm (.lst fs) → ∃ ys, sqOf y = some ys ∧ norms ys = norms fs := fun {y} h => by
      rw [norm] at h
      cases y <;> rw [norm] at h <;> first | (cases h; done) | skip
      · exact ⟨_, rfl, D.lst.inj h⟩
      · exact ⟨_, rfl, D.lst.inj h⟩
    refine seq_cut (fun ρ => ∃ c', c' ≤ c + 502 ∧ ρ = mk c' (some (.fz d)) (some (.fz (.lst fs))) x4 x5 x6 x7 x8 x9 (some (.fz sh)) (some (.fz x11)) (some (.fz (oFolds C fs))) (some (.fz (oFolds C fs))) x14 x15) (fun N hN => ?_) ?_
    · refine ⟨_, rfl, _, rfl, _, rfl, _, rfl, by omega, f3, f1, by show c1 + cnt (.lst fs) ≤ 900000; omega, fun y c2 hy hc2 => ?_⟩
      have hc2 : c2 ≤ c1 + cnt (.lst fs) := hc2
      refine ⟨_, rfl, by simp, ⟨_, [y, .lst fs], rfl, rfl, by simp, by simp, by show c2 ≤ 1000000; omega, fun z hz => ?_⟩⟩
      obtain ⟨zs, z1, z2⟩ : ∃ zs, sqOf z = some zs ∧ norms zs = norms fs := by
        rcases List.mem_cons.mp hz with rfl | hz
        · exact like hy
        · rw [List.mem_singleton.mp hz]; exact ⟨fs, rfl, rfl⟩
      refine wNil_k (init z1 z2 (fun d h => h) (by omega) ?_)
      refine ⟨_, rfl, .tup fs, rfl, ?_⟩
      refine wNil_k (init (xs := fs) rfl rfl (fun d h => h) (by omega) ?_)
      exact ⟨by simp, _, rfl, rfl, _, _, rfl, _, _, rfl, rfl, hN _ ⟨c2 + 1, by omega, rfl⟩⟩
    clear hc1
    clear c1 x12 x13
    rintro ρ ⟨c1, hc1, rfl⟩
    refine seq_cut (fun ρ => ρ = mk c1 (some (.fz d)) (some (.fz (.lst fs))) x4 x5 x6 x7 x8 x9 (some (.fz sh)) (some (.fz x11)) (some (.fz (oFolds C fs))) (some (.fz (oFolds C fs))) x14 x15) (fun N hN => ?_) ?_
    · exact ⟨_, rfl, _, _, rfl, by decide +kernel, fs, rfl, by omega, hfs.pfs.1, fs, rfl, by omega, hN _ rfl⟩
    rintro ρ rfl
    refine seq_cut (fun ρ => ρ = mk c1 (some (.fz d)) (some (.fz (.lst fs))) x4 x5 x6 x7 x8 x9 (some (.fz sh)) (some (.fz x11)) (some (.fz (oFolds C fs))) (some (.fz (oFolds C fs))) x14 x15) (fun N hN => ?_) ?_
    · refine ⟨_, rfl, _, _, rfl, by decide +kernel, fs, rfl, by omega, hfs.pfs.1, _, rfl, ?_⟩
      refine wNil_k ⟨.lst fs, rfl, by omega, f3, f1, by omega, true, rfl, ?_⟩
      refine ⟨_, rfl, ⟨_, _, rfl⟩, fs, rfl, by omega, hfs.pfs.1, (fs.length : Nat), rfl, by omega, by omega, ?_⟩
      exact ⟨_, rfl, _, rfl, .bl false, by simp [eqD, xr], false, rfl, itF (hN _ rfl)⟩
    rintro ρ rfl
    let others : D := .lst [.non, .lst fs, oFolds C (fs ++ fs.take 1), oFolds C (fs.drop 1)]
    refine seq_cut (fun ρ => ρ = mk c1 (some (.fz d)) (some (.fz (.lst fs))) (some (.fz others)) x5 x6 x7 x8 x9 (some (.fz sh)) (some (.fz x11)) (some (.fz (oFolds C fs))) (some (.fz (oFolds C fs))) x14 x15) (fun N hN => ?_) ?_
    · refine ⟨_, rfl, _, rfl, _, rfl, 1, rfl, rfl, .lst (fs.take 1), congrArg (fun q => some (D.lst q)) (cut_to fs 1 fl0), .lst (fs ++ fs.take 1), ?_, ?_⟩
      · rw [ad_lst, if_pos (by simp; omega)]
      refine wNil_k (init (gs := fs ++ fs.take 1) rfl rfl (fun d h => ?_) (by simp; omega) ?_)
      · rcases List.mem_append.mp h with h | h
        · exact h
        · exact List.mem_of_mem_take h
      refine ⟨_, rfl, 1, rfl, rfl, .lst (fs.drop 1), congrArg (fun q => some (D.lst q)) (cut_from fs 1 fl0), ?_⟩
      refine wNil_k (init (gs := fs.drop 1) rfl rfl (fun d h => List.mem_of_mem_drop h) (by simp; omega) ?_)
      exact ⟨by simp, hN _ rfl⟩
    rintro ρ rfl
    have dfs := hfs.pfs.1
    have d50 : deps fs ≤ 50 := Nat.le_trans hfs.pfs.2.1 (by omega)
    refine seq_cut (fun ρ => ρ = mk c1 (some (.fz d)) (some (.fz (.lst fs))) (some (.fz others)) x5 x6 x7 x8 x9 (some (.fz sh)) (some (.fz x11)) (some (.fz (oFolds C fs))) (some (.fz (oFolds C fs))) x14 x15) (fun N hN => ?_) ?_
    · have selfE : eqFo C fs (oFolds C fs) true := .inl ⟨fs, rfl, dfs, (deqs_self dfs).symm⟩
      refine ⟨_, rfl, _, rfl, ⟨_, _, rfl⟩, .inl ⟨_, _, rfl⟩, fs, oFolds C fs, true, rfl, dfs, d50, selfE, true, rfl, false, rfl, itF ?_⟩
      refine ⟨_, rfl, _, rfl, ⟨_, _, rfl⟩, .inl ⟨_, _, rfl⟩, fs, oFolds C fs, true, rfl, dfs, d50, selfE, true, rfl, true, rfl, itF ?_⟩
      refine tAny_k ?_
      refine wLc_m (α := D) (h := id) (xs := [.non, .lst fs, oFolds C (fs ++ fs.take 1), oFolds C (fs.drop 1)]) (f := fun _ => .bl false) (x := none) (fun K k => ⟨_, rfl, _, rfl, by simpa using k⟩) (by simp) rfl (fun _ h => by cases h) (fun y hy K k => ?_) _ ?_
      · obtain ⟨q1, q2⟩ : ((∃ ns xs, y = D.ins C ns xs) ∨ ∃ t, kD2 y = some t) ∧ eqFo C fs y false := by
          simp only [List.mem_cons, List.not_mem_nil, or_false] at hy
          rcases hy with rfl | rfl | rfl | rfl
          · exact ⟨.inr ⟨_, rfl⟩, .inr ⟨⟨_, rfl⟩, rfl⟩⟩
          · exact ⟨.inr ⟨_, rfl⟩, .inr ⟨⟨_, rfl⟩, rfl⟩⟩
          · refine ⟨.inl ⟨_, _, rfl⟩, .inl ⟨_, rfl, isDats_iff.mpr fun x hx => ?_, (deqs_ne (by rw [List.length_append, List.length_take]; omega)).symm⟩⟩
            rcases List.mem_append.mp hx with h | h
            · exact isDats_iff.mp dfs x h
            · exact isDats_iff.mp dfs x (List.mem_of_mem_take h)
          · exact ⟨.inl ⟨_, _, rfl⟩, .inl ⟨_, rfl, isDats_iff.mpr fun x hx => isDats_iff.mp dfs x (List.mem_of_mem_drop hx), (deqs_ne (by simp; omega)).symm⟩⟩
        exact ⟨_, rfl, _, rfl, ⟨_, _, rfl⟩, q1, fs, y, false, rfl, dfs, d50, q2, false, rfl, false, rfl, itF ⟨_, rfl, _, rfl, ⟨_, _, rfl⟩, q1, fs, y, false, rfl, dfs, d50, q2, false, rfl, true, rfl, k⟩⟩
      · exact ⟨.bl false, rfl, false, rfl, itF (hN _ rfl)⟩
    rintro ρ rfl
    refine seq_cut (fun ρ => ∃ n : Nat, n ≤ fs.length ∧ ρ = mk (c1 + 1) (some (.fz d)) (some (.fz (.lst fs))) (some (.fz others)) (some (.fz (.int (n : Int)))) x6 x7 x8 x9 (some (.fz sh)) (some (.fz x11)) (some (.fz (oFolds C fs))) (some (.fz (oFolds C fs))) x14 x15) (fun N hN => ?_) ?_
    · refine ⟨_, rfl, _, rfl, _, rfl, _, rfl, (fs.length : Nat) + 1, rfl, by show c1 ≤ 1000000; omega, by omega, by omega, fun i i0 i1 => hN _ ⟨i.toNat, by omega, ?_⟩⟩
      have : ((i.toNat : Nat) : Int) = i := by omega
      rw [this]
      rfl
    clear x5
    rintro ρ ⟨n, hn, rfl⟩
    refine seq_cut (fun ρ => ∃ e, bentD e ∧ ρ = mk (c1 + 3) (some (.fz d)) (some (.fz (.lst fs))) (some (.fz others)) (some (.fz (.int (n : Int)))) (some (.fz e)) x7 x8 x9 (some (.fz sh)) (some (.fz x11)) (some (.fz (oFolds C fs))) (some (.fz (oFolds C fs))) x14 x15) (fun N hN => ?_) ?_
    · refine ⟨_, rfl, _, rfl, _, rfl, ⟨_, fs, rfl, rfl, by omega, by omega, by show c1 + 1 ≤ 1000000; omega, fun y hy => ?_⟩⟩
      exact wNil_k ⟨y, rfl, hfs.g y hy, by show c1 + 1 + 1 ≤ 900000; omega, fun e he => hN _ ⟨e, he, rfl⟩⟩
    clear x6
    rintro ρ ⟨be, hbe, rfl⟩
    refine seq_cut (fun ρ => ∃ e z, looseD e z ∧ ρ = mk (c1 + 5) (some (.fz d)) (some (.fz (.lst fs))) (some (.fz others)) (some (.fz (.int (n : Int)))) (some (.fz be)) x7 x8 x9 (some (.fz sh)) (some (.fz x11)) (some (.fz (oFolds C fs))) (some (.fz (oFolds C fs))) (some (.fz e)) (some (.fz (.str z)))) (fun N hN => ?_) ?_
    · refine ⟨_, rfl, _, rfl, _, rfl, ⟨_, fs, rfl, rfl, by omega, by omega, by show c1 + 3 ≤ 1000000; omega, fun y hy => ?_⟩⟩
      exact wNil_k ⟨y, rfl, hfs.g y hy, by show c1 + 3 + 1 ≤ 900000; omega, fun e z he => ⟨_, rfl, rfl, _, _, rfl, _, _, rfl, rfl, hN _ ⟨e, z, he, rfl⟩⟩⟩
    clear x14 x15
    rintro ρ ⟨le, lz, hle, rfl⟩
    have sTo : slD none (some (n : Int)) (.lst fs) = some (.lst (fs.take n)) := congrArg (fun q => some (D.lst q)) (cut_to fs n hn)
    have sFrom : slD (some (n : Int)) none (.lst fs) = some (.lst (fs.drop n)) := congrArg (fun q => some (D.lst q)) (cut_from fs n hn)
    have lT : (fs.take n).length = n := by rw [List.length_take]; omega
    have lD : (fs.drop n).length ≤ 3 := by rw [List.length_drop]; omega
    have gT : ∀ d ∈ fs.take n, goodF d := fun d h => hfs.good d (List.mem_of_mem_take h)
    have gD : ∀ d ∈ fs.drop n, goodF d := fun d h => hfs.good d (List.mem_of_mem_drop h)
    have addL : ∀ xs ys : List D, xs.length ≤ 100 → ys.length ≤ 100 → addD (.lst xs) (.lst ys) = some (.lst (xs ++ ys)) := fun xs ys h1 h2 => by rw [ad_lst, if_pos (by omega)]
    let st : Option DV → Nat → Option DV → Option DV → DS (Strm [(PT, qLam)]) := fun x7 c x8 x9 => mk c (some (.fz d)) (some (.fz (.lst fs))) (some (.fz others)) (some (.fz (.int (n : Int)))) (some (.fz be)) x7 x8 x9 (some (.fz sh)) (some (.fz x11)) (some (.fz (oFolds C fs))) (some (.fz (oFolds C fs))) (some (.fz le)) (some (.fz (.str lz)))
    let r1 : D := .tup [.str "fold", .int (n : Int)]
    let r2 : D := .tup [.str "fold", .int (n + 1 : Int)]
    let r3 : D := .tup [.str "unsafe", .int (n : Int), .str lz]
    let r4 : D := .tup [.str "fold", .int 0]
    refine seq_cut (fun ρ => ρ = st (some (.own (.lst [r1]))) (c1 + 5) x8 x9) (fun N hN => ?_) ?_
    · refine ⟨_, rfl, _, rfl, (n : Int), rfl, rfl, _, sTo, _, rfl, by simp, _, addL _ [be] (by omega) (by simp), _, rfl, _, rfl, (n : Int), rfl, rfl, _, sFrom, _, addL _ _ (by simp; omega) (by omega), by simp, _, addL _ [.non] (by simp; omega) (by simp), ?_⟩
      refine wNil_k ?_
      have e : fs.take n ++ [be] ++ fs.drop n ++ [.non] = fs.take n ++ be :: (fs.drop n ++ [.non]) := by simp
      rw [e]
      refine init_bent (fun d h => (gT d h).1) hbe (fun d h => ?_) (by simp; omega) ?_
      · rcases List.mem_append.mp h with h | h
        · exact ⟨(gD d h).1.2.1, (gD d h).1.small⟩
        · rw [List.mem_singleton.mp h]
          exact ⟨rfl, fun w hd by' body z => by cases z⟩
      · rw [lT]
        exact cl_fold ⟨by simp, hN _ rfl⟩
    rintro ρ rfl
    refine seq_cut (fun ρ => ρ = st (some (.own (.lst [r1, r2]))) (c1 + 5) x8 x9) (fun N hN => ?_) ?_
    · refine ⟨⟨_, rfl⟩, _, rfl, by simp, _, rfl, _, rfl, (n : Int), rfl, rfl, _, sTo, _, addL [le] _ (by simp) (by omega), _, rfl, by simp, _, addL _ [be] (by simp; omega) (by simp), ?_⟩
      refine wNil_k ?_
      have e : [le] ++ fs.take n ++ [be] = (le :: fs.take n) ++ be :: [] := by simp
      rw [e]
      refine init_bent (fun d h => ?_) hbe (fun d h => (nomatch h)) (by simp; omega) ?_
      · rcases List.mem_cons.mp h with rfl | h
        · exact hle.1
        · exact (gT d h).1
      · have e2 : (((le :: fs.take n).length : Nat) : Int) = (n : Int) + 1 := by rw [List.length_cons, lT]; omega
        rw [e2]
        exact cl_fold ⟨_, rfl, by simp, hN _ rfl⟩
    rintro ρ rfl
    refine seq_cut (fun ρ => ρ = st (some (.own (.lst [r1, r2, r3]))) (c1 + 5) x8 x9) (fun N hN => ?_) ?_
    · refine ⟨⟨_, rfl⟩, _, rfl, _, rfl, (n : Int), rfl, rfl, _, sTo, _, rfl, by simp, _, addL _ [le] (by omega) (by simp), _, rfl, _, rfl, (n : Int), rfl, rfl, _, sFrom, _, addL _ _ (by simp; omega) (by omega), _, rfl, by simp, _, addL _ [le] (by simp; omega) (by simp), ?_⟩
      refine wNil_k ?_
      have e : fs.take n ++ [le] ++ fs.drop n ++ [le] = fs.take n ++ le :: (fs.drop n ++ [le]) := by simp
      rw [e]
      refine init_loose gT hle (fun d h => ?_) (by simp; omega) ?_
      · rcases List.mem_append.mp h with h | h
        · exact (gD d h).1
        · rw [List.mem_singleton.mp h]; exact hle.1
      · rw [lT]
        exact cl_unsafe RE.ne ⟨_, rfl, by simp, hN _ rfl⟩
    rintro ρ rfl
    refine seq_cut (fun ρ => ρ = st (some (.own (.lst [r1, r2, r3, r4]))) (c1 + 6) x8 x9) (fun N hN => ?_) ?_
    · refine ⟨⟨_, rfl⟩, _, rfl, by simp, ⟨_, [.non, .int 5, .str "ab", .dct [] [], .bl true], rfl, rfl, by simp, by simp, by show c1 + 5 ≤ 1000000; omega, fun y hy => ?_⟩⟩
      have no : sqOf y = none ∧ tmB y = true := by
        simp only [List.mem_cons, List.not_mem_nil, or_false] at hy
        rcases hy with rfl | rfl | rfl | rfl | rfl <;> exact ⟨rfl, by decide +kernel⟩
      refine wNil_k ⟨y, rfl, no.2, (fun xs h => by rw [no.1] at h; cases h), ?_⟩
      unfold foldsRes
      simp only [no.1]
      exact cl_fold ⟨_, rfl, by simp, hN _ rfl⟩
    rintro ρ rfl
    refine seq_cut (fun ρ => ρ = st (some (.own (.lst [r1, r2, r3, r4]))) (c1 + 6) x8 x9) (fun N hN => ?_) ?_
    · refine .inr ⟨_, rfl, _, rfl, by simp, _, rfl, _, rfl, by simp, _, rfl, _, rfl, by simp, by simp, by simp, .bl false, ?_, false, rfl, itF (hN _ rfl)⟩
      have dd : isDat (.lst [r1, r2, r3, r4]) = true := rfl
      have e : eqD true (.lst [r1, r2, r3, r4]) (.lst [r1, r2, r3, r4]) = some (.bl false) := by
        unfold eqD
        rw [if_pos ⟨dd, dd, by show min 2 2 ≤ 60; decide⟩, deq_self dd]
        rfl
      exact e
    rintro ρ rfl
    refine seq_cut (fun ρ => ∃ ys c', norms ys = norms fs ∧ c' ≤ c + 670 ∧ ρ = st (some (.own (.lst [r1, r2, r3, r4]))) c' (some (.own (.lst ys))) x9) (fun N hN => ?_) ?_
    · refine ⟨_, rfl, _, rfl, _, rfl, by omega, f3, f1, by show c1 + 6 + cnt (.lst fs) ≤ 900000; omega, fun y c2 hy hc2 => ?_⟩
      have hc2 : c2 ≤ c1 + 6 + cnt (.lst fs) := hc2
      obtain ⟨ys, y1, y2⟩ := like hy
      exact ⟨.lst ys, by cases y <;> cases y1 <;> rfl, hN _ ⟨ys, c2, y2, by omega, rfl⟩⟩
    clear hc1
    rintro ρ ⟨ys, c2, hys, hc2, rfl⟩
    have ly : ys.length = fs.length := by rw [← norms_len ys, hys, norms_len]
    refine seq_cut (fun ρ => ρ = st (some (.own (.lst [r1, r2, r3, r4]))) c2 (some (.own (.lst ys))) (some (.fz (oFolds C fs)))) (fun N hN => ?_) ?_
    · refine ⟨ys, rfl, init (gs := fs) rfl hys (fun d h => h) (by omega) ⟨?_, hN _ rfl⟩⟩
      have := hfs.pfs.2.2.2.2
      simp [oFolds, noL, noLs, this]
    rintro ρ rfl
    refine seq_cut (fun ρ => ρ = st (some (.own (.lst [r1, r2, r3, r4]))) c2 (some (.own (.lst (ys ++ [.str "late"])))) (some (.fz (oFolds C fs)))) (fun N hN => ?_) ?_
    · exact ⟨⟨_, rfl⟩, ys, rfl, by omega, hN _ rfl⟩
    rintro ρ rfl
    have selfE : eqFo C fs (oFolds C fs) true := .inl ⟨fs, rfl, dfs, (deqs_self dfs).symm⟩
    exact ⟨_, rfl, _, rfl, ⟨_, _, rfl⟩, .inl ⟨_, _, rfl⟩, fs, oFolds C fs, true, rfl, dfs, d50, selfE, true, rfl, false, rfl, itF (hN2 _ ⟨c2, _, _, _, _, _, _, _, _, _, _, _, _, _, _, by omega, rfl⟩)⟩
  · rintro ρ _
    exact hN _ trivial
end
end L31

set_option Elab.async false
set_option linter.all false
set_option maxRecDepth 100000
set_option maxHeartbeats 4000000
namespace L31
open PySem PySem.Spec PyProof.Rows L2 Q
/-- the law, its table empty -/
def spLaw (K : PySem.W.Frag) (PT : Addr) : Sp := fun vs H Q _ => ∃ (a : Addr) (ns : List Int), vs = [.ref a] ∧ SqL K H a (ns.map V.int) ∧ ns.length ≤ 63 ∧ H PT = some (.tbl #[]) ∧ ∀ H', Q (.bl true) H'
section
variable {P : Program} {w : World} {K : PySem.W.Frag} {mg : Str → Option Value} {base : Heap} {f g : Addr} {fd gd : FuncData} {C CB CU co PT : Addr}
theorem ok_law (F : FnP K "law" "law" s_law f fd) (hco : fd.code = .ref co) (C__law_start : Cal P w K mg base "_law_start" 1 ["_law_script"] (spStart K))
    (rest : ∀ {A : Around} {outer : List Env} {s : Shared} {H F0 H0 : Hp} {Z0 : Addr → Prop} {E : XK}, Room 13 (A.deeper (envOfC "law" (defScope s_law) s.heap.objs.size f (.ref co))) →
      ∃ w' : WS (Strm [(PT, qLam)]), DSs (bodyX P w K mg base N_sc_law "law" s_law f (.ref co) A outer s H E) ⟨K, Strm [(PT, qLam)], H0, F0, Z0⟩ false ((defBody s_law).drop 1) w' ∧
        ∀ (Dk : DEnds (Strm [(PT, qLam)])) (st L a0 : Addr), (∀ g', Dk.rt (.bl true) g') → w' Dk ⟨(⟨st, L, 0⟩ : SG), [some (.fz (.raw (.ref a0))), some (.fz (.raw (.ref st)))] ++ List.replicate 16 none⟩) :
    FnOk P w K mg base CX0 14 f fd ["_law_script"] (spLaw K PT) := by
  obtain ⟨oc, od, dV, kV, doc, pm, an, cdv, ct, osl, rfl, lk, hcd, _, _⟩ := F.ex
  have hco : cdv = .ref co := hco
  subst hco
  refine fn_of lk hcd sc_law (fun vs H Q E h => ?_) fun A outer s H vs Q E hr h => ?_
  · obtain ⟨_, _, rfl, _⟩ := h
    rfl
  · obtain ⟨a, ns, rfl, hS, hl, hT, k⟩ := h
    obtain ⟨w', hw, run⟩ := rest (A := A) (outer := outer) (s := s) (H := H) (H0 := H) (F0 := fun _ => none) (Z0 := fun b => b = PT) (E := E) hr
    refine ⟨_, PSs.nox (pss_cons (ps_set (i := 1) sc_law.nd rfl (by first | exact Or.inl rfl | exact Or.inr rfl) (pe_cal C__law_start hr (pa_cons (pv 0) pa_nil))) hw.ps), ?_⟩
    refine ⟨_, rfl, a, ns, rfl, hS, hl, fun H' st L e sm hst hL => ?_⟩
    have tab' : H' PT = some (.tbl #[]) := (dat_sub (e _ _ hT)).1
    have keep : ∀ b o, H b = some o → H' b = some o := fun b o q => (dat_sub (e _ _ q)).1
    obtain ⟨ne, cell, n, seed, cs, h1, h2, _⟩ := id sm
    have ok : SmOk [(PT, qLam)] ⟨st, L, 0⟩ (fun b => b = PT ∨ b = st ∨ b = L) H' := by
      refine ⟨sm, .inr (.inl rfl), .inr (.inr rfl), fun p hp => ?_, fun p hp => ?_, fun p hp ps pos d q am => ?_, fun b hb => ?_⟩
      · rw [List.mem_singleton.mp hp]
        exact ⟨#[], tab', by simp [TriplesOk], fun pos cv am => by simp [codeAmong] at am⟩
      · rw [List.mem_singleton.mp hp]; exact .inl rfl
      · rw [List.mem_singleton.mp hp] at q
        have q : H' PT = some (.tbl ps) := q
        rw [tab'] at q
        cases q
        simp [codeAmong] at am
      · rcases hb with rfl | rfl | rfl
        · rw [tab']; exact fun z => by cases z
        · rw [h1]; exact fun z => by cases z
        · rw [h2]; exact fun z => by cases z
    let sl : List (Option DV) := [some (.fz (.raw (.ref a))), some (.fz (.raw (.ref st)))] ++ List.replicate 16 none
    have noOwn : ∀ σ i b, ¬ Owns σ sl i b := fun σ i b h => by
      obtain ⟨_, d, q⟩ := h
      have m := List.mem_of_getElem? q
      simp [sl] at m
    have S : St ⟨K, Strm [(PT, qLam)], H, fun _ => none, fun b => b = PT⟩ (fun _ => none) [] ((L2.start N_sc_law [.ref a]).set 1 (some (.ref st))) ⟨(⟨st, L, 0⟩ : SG), sl⟩ H' := by
      refine ⟨rfl, (fun b o q => by cases q), (fun b o q => by cases q), fun b n => absurd rfl n, fun b o q _ => keep b o q, fun b n => ?_, fun i => ?_, fun i b h => absurd h (noOwn _ i b), fun i j b h => absurd h (noOwn _ i b), (fun b h => by cases h), ⟨_, ok, fun b _ => rfl, fun b hb n => ?_, (fun b h => by cases h), fun i b h => absurd h (noOwn _ i b)⟩⟩
      · cases q : H b with
        | none => exact absurd q n
        | some o => rw [keep b o q]; exact fun z => by cases z
      · show SlotOk K _ H' _ i sl[i]?
        match i with
        | 0 => exact ⟨.ref a, rfl, .raw _⟩
        | 1 => exact ⟨.ref st, rfl, .raw _⟩
        | i + 2 =>
          have : sl[i + 2]? = (List.replicate 16 (none : Option DV))[i]? := rfl
          rw [this, List.getElem?_replicate]
          by_cases z : i < 16
          · rw [if_pos z]; trivial
          · rw [if_neg z]; trivial
      · rcases hb with rfl | rfl | rfl
        · exact absurd rfl n
        · exact hst
        · exact hL
    refine ⟨_, _, { nx := fun _ => False, rt := fun d _ => d = .bl true }, S, run _ st L a (fun _ => rfl), (fun _ _ _ _ h => h.elim), (fun _ _ _ _ h => h.elim), (fun _ _ _ _ h => h.elim), fun d g hd v F' H2 _ rp => ?_⟩
    have hd : d = .bl true := hd
    subst hd
    cases rp
    exact k _
end
end L31

set_option Elab.async false
set_option linter.all false
set_option maxRecDepth 100000
set_option maxHeartbeats 4000000
namespace L31
open PySem PySem.Spec PyProof.Rows L2 Q
/-! the inits of the two errors -/
def spEx1 (C : Addr) : Sp := fun vs H Q _ => ∃ a v, vs = [.ref a, v] ∧ H a = some (exo a C none) ∧ ∀ d, H d = none → d ≠ a → Q .non (upd (upd H d (exd d [("index", v)])) a (exo a C (some d)))
def spEx2 (C : Addr) : Sp := fun vs H Q _ => ∃ a v u, vs = [.ref a, v, u] ∧ H a = some (exo a C none) ∧ ∀ d, H d = none → d ≠ a → Q .non (upd (upd H d (exd d [("letter", u), ("index", v)])) a (exo a C (some d)))
section
variable {P : Program} {w : World} {K : PySem.W.Frag} {mg : Str → Option Value} {base : Heap} {f : Addr} {fd : FuncData} {C : Addr}
-- BadFold.__init__: slots 0 self, 1 index
abbrev s_BadFold___init__ : Stmt := (inClass (top 2) 0)
abbrev N_sc_BadFold___init__ : List Str := ["self", "index"]
theorem sc_BadFold___init__ : FnScope N_sc_BadFold___init__ ["self", "index"] (defScope s_BadFold___init__) := ⟨rfl, rfl, rfl, by decide +kernel, rfl, by decide +kernel, by decide +kernel⟩
theorem ok_BadFold_init (F : FnP K "__init__" "BadFold.__init__" s_BadFold___init__ f fd) (O : OexC K C) (n1 : PySem.W.findIn K (.ref C) "index" = some none) : FnOk P w K mg base CX0 1 f fd ["self", "index"] (spEx1 C) := by
  refine F.ok sc_BadFold___init__ (fun vs H Q E h => ?_) (fun cdv A outer s H vs Q E hr h => ?_)
  · obtain ⟨_, _, rfl, _⟩ := h
    rfl
  · obtain ⟨a, v, rfl, ha, k⟩ := h
    exact ⟨_, PSs.nox (pss_one (ps_ost (pv 0) (pv 1))), _, rfl, _, rfl, a, C, rfl, O, n1, .inl ⟨ha, fun d hd nd => k d hd nd⟩⟩
-- Unsafe.__init__: slots 0 self, 1 index, 2 letter
abbrev s_Unsafe___init__ : Stmt := (inClass (top 3) 0)
abbrev N_sc_Unsafe___init__ : List Str := ["self", "index", "letter"]
theorem sc_Unsafe___init__ : FnScope N_sc_Unsafe___init__ ["self", "index", "letter"] (defScope s_Unsafe___init__) := ⟨rfl, rfl, rfl, by decide +kernel, rfl, by decide +kernel, by decide +kernel⟩
theorem ok_Unsafe_init (F : FnP K "__init__" "Unsafe.__init__" s_Unsafe___init__ f fd) (O : OexC K C) (n1 : PySem.W.findIn K (.ref C) "index" = some none) (n2 : PySem.W.findIn K (.ref C) "letter" = some none) : FnOk P w K mg base CX0 1 f fd ["self", "index", "letter"] (spEx2 C) := by
  refine F.ok sc_Unsafe___init__ (fun vs H Q E h => ?_) (fun cdv A outer s H vs Q E hr h => ?_)
  · obtain ⟨_, _, _, rfl, _⟩ := h
    rfl
  · obtain ⟨a, v, u, rfl, ha, k⟩ := h
    refine ⟨_, PSs.nox (pss_cons (ps_ost (pv 0) (pv 1)) (pss_one (ps_ost (pv 0) (pv 2)))), _, rfl, _, rfl, a, C, rfl, O, n1, .inl ⟨ha, fun d hd nd => ?_⟩⟩
    refine ⟨_, rfl, _, rfl, a, C, rfl, O, n2, .inr ⟨d, [("index", v)], upd_same, by rw [upd_ne nd, upd_same], by simp, ?_⟩⟩
    have e : upd (upd (upd H d (exd d [("index", v)])) a (exo a C (some d))) d (exd d [("letter", u), ("index", v)]) = upd (upd H d (exd d [("letter", u), ("index", v)])) a (exo a C (some d)) := by
      funext b
      by_cases z : b = d
      · rw [z, upd_same, upd_ne nd, upd_same]
      · rw [upd_ne z]
        by_cases y : b = a
        · rw [y, upd_same, upd_same]
        · rw [upd_ne y, upd_ne y, upd_ne z, upd_ne z]
    show Q _ (upd _ _ _)
    rw [e]
    exact k d hd nd
theorem ex1 {x : Str} (O : OexC K C) (hm : mg x = some (.ref C)) (h1 : PySem.W.findIn K (.ref C) "__init__" = some (some (.ref f))) (h2 : PySem.W.typeIn K (.ref f) = some (.type "function")) (G : FnOk P w K mg base CX0 1 f fd ["self", "index"] (spEx1 C)) (hb : Binds K fd ["self", "index"] []) : ExCl P w K mg base x C 1 ["index"] :=
  ⟨O, hm, f, fd, _, _, h1, h2, G, hb, fun a us H Q hl ha k => by
    match us, hl with
    | [v], _ => exact ⟨a, v, rfl, ha, k⟩⟩
theorem ex2 {x : Str} (O : OexC K C) (hm : mg x = some (.ref C)) (h1 : PySem.W.findIn K (.ref C) "__init__" = some (some (.ref f))) (h2 : PySem.W.typeIn K (.ref f) = some (.type "function")) (G : FnOk P w K mg base CX0 1 f fd ["self", "index", "letter"] (spEx2 C)) (hb : Binds K fd ["self", "index", "letter"] []) : ExCl P w K mg base x C 1 ["index", "letter"] :=
  ⟨O, hm, f, fd, _, _, h1, h2, G, hb, fun a us H Q hl ha k => by
    match us, hl with
    | [v, u], _ => exact ⟨a, v, u, rfl, ha, k⟩⟩
end
end L31

set_option Elab.async false
set_option linter.all false
set_option maxRecDepth 100000
set_option maxHeartbeats 4000000
namespace L31
open PySem PySem.Spec PyProof.Rows L2 Q
/-! facts of the top, by names -/
theorem gld_str {K : PySem.W.Frag} {mg : Str → Option Value} {x z : Str} (h : ∃ t, mg x = some (.str z t)) : GlD K mg x (.str z) := by
  obtain ⟨t, e⟩ := h
  exact ⟨_, .str z, e, ⟨t, rfl⟩, fun F => .str z⟩
theorem gld_int {K : PySem.W.Frag} {mg : Str → Option Value} {x : Str} {i : Int} (h : ∃ t, mg x = some (.int i t)) : GlD K mg x (.int i) := by
  obtain ⟨t, e⟩ := h
  exact ⟨_, .int i, e, ⟨t, rfl⟩, fun F => .int i⟩
theorem reps_strs {K : PySem.W.Frag} {F : Hp} : ∀ zs : List Str, Reps K F (zs.map V.str) (zs.map D.str)
  | [] => .nil
  | z :: zs => .cons (.str z) (reps_strs zs)
theorem gld_tup {K : PySem.W.Frag} {mg : Str → Option Value} {x : Str} {a : Addr} {zs : List Str} (e : mg x = some (.ref a)) (h : ∀ H, SqT K H a (zs.map V.str)) : GlD K mg x (.tup (zs.map .str)) :=
  ⟨_, .ref a, e, rfl, fun F => .tup (h F) (reps_strs zs)⟩
/-- an error class, as it lies there -/
def errB (K : PySem.W.Frag) (C : Addr) : Bool := (match K.lookup C with
  | some ⟨.type k, _, .cls d, sl⟩ => decide (k = "type") && (match d.mro, sl.toList with
    | .ref C1 :: up, [_, _, _, _, some (.builtin mk), _] => decide (C1 = C) && (decide (mk = "ValueError.__new__") && (!d.hasDel && (d.hasDict && PySem.HandSPX.refsVE up)))
    | _, _ => false)
  | _ => false) && (decide (PySem.W.findIn K (.ref C) "__setattr__" = some (some (.builtin "object.__setattr__"))) && (decide (PySem.W.subIn K (.ref C) (.type "BaseException") = some true) && (decide (PySem.W.typeIn K (.ref C) = some (.type "type")) && PySem.W.keepIn K (.ref C))))
theorem errB_ok {K : PySem.W.Frag} {C : Addr} (b : errB K C = true) : OexC K C := by
  obtain ⟨b1, b⟩ := Bool.and_eq_true_iff.mp b
  obtain ⟨b2, b⟩ := Bool.and_eq_true_iff.mp b
  obtain ⟨b3, b⟩ := Bool.and_eq_true_iff.mp b
  obtain ⟨b4, b5⟩ := Bool.and_eq_true_iff.mp b
  refine ⟨?_, of_decide_eq_true b2, of_decide_eq_true b3, of_decide_eq_true b4, b5⟩
  split at b1
  · rename_i k dd d sl at_
    obtain ⟨e1, b1⟩ := Bool.and_eq_true_iff.mp b1
    have e1 := of_decide_eq_true e1
    subst e1
    split at b1
    · rename_i C1 up k0 k1 k2 k3 mk k5 hm hs
      simp only [Bool.and_eq_true, decide_eq_true_eq, Bool.not_eq_true'] at b1
      obtain ⟨_, rfl, rfl, hdel, hdict, hv⟩ := b1
      obtain ⟨nm, bs, mro, ns, qn, hd, sn, sub, ab, col, del⟩ := d
      dsimp only at hm hdel hdict
      subst hm hdel hdict
      have hsl : sl = #[k0, k1, k2, k3, some (.builtin "ValueError.__new__"), k5] := by
        obtain ⟨l⟩ := sl
        simp only at hs
        rw [hs]
      subst hsl
      exact ⟨nm, qn, ns, bs, up, sn, sub, ab, col, dd, k0, k1, k2, k3, k5, at_, hv⟩
    · cases b1
  · cases b1
def allTy : List Ty := [.non, .bool, .int, .str, .list, .tuple, .dict]
theorem allTy_mem (t : Ty) : t ∈ allTy := by cases t <;> decide
/-- what more one wants of the classes, and the tuples -/
def extra (K : PySem.W.Frag) : Bool := He.tupB K "BARRED_NAMES" [.str "not", .str "unlike", .str "if"] && (He.tupB K "WORDS" [.str "count", .str "sum", .str "least", .str "most"] && (errB K (He.ga K "BadFold") && (errB K (He.ga K "Unsafe") && (xfB K (He.ga K "BadFold") && (xfB K (He.ga K "Unsafe") && (decide (He.ga K "BadFold" ≠ He.ga K "Unsafe") &&
  (decide (PySem.W.findIn K (.ref (He.ga K "BadFold")) "__init__" = some (some (.ref (He.ma K (He.ga K "BadFold") "__init__")))) && (decide (PySem.W.findIn K (.ref (He.ga K "Unsafe")) "__init__" = some (some (.ref (He.ma K (He.ga K "Unsafe") "__init__")))) &&
  (decide (PySem.W.typeIn K (.ref (He.ma K (He.ga K "BadFold") "__init__")) = some (.type "function")) && (decide (PySem.W.typeIn K (.ref (He.ma K (He.ga K "Unsafe") "__init__")) = some (.type "function")) &&
  (He.eqO (PySem.W.findIn K (.ref (He.ga K "Folds")) "__class__") (some (some (.builtin "object.__class__"))) && (He.eqO (PySem.W.specialIn K (.builtin "object.__class__") "__get__") (some (some (.builtin "getset_descriptor.__get__"))) && (decide (PySem.W.takesIn K (.builtin "object.__class__") = some true) &&
  (decide (PySem.W.mroIn K (He.ga K "Folds") (.type "object") = some true) && (He.eqO (PySem.W.findIn K (.ref (He.ga K "Folds")) "__ne__") (some (some (.builtin "object.__ne__"))) &&
  ((allTy.all fun t => decide (PySem.W.kitOne K (.type t.nm) (.ref (He.ga K "Folds")) = some false)) && (allTy.all fun t => PySem.W.notFirst K (He.ga K "Folds") (.type t.nm))))))))))))))))))

def d_is_integer : He.DefD := ⟨("is_integer", none), "is_integer", "is_integer", defArgs (top 12), defBody (top 12), defScope (top 12), [], []⟩
def d_is_name : He.DefD := ⟨("is_name", none), "is_name", "is_name", defArgs (top 13), defBody (top 13), defScope (top 13), [], []⟩
def d_is_letter : He.DefD := ⟨("is_letter", none), "is_letter", "is_letter", defArgs (top 15), defBody (top 15), defScope (top 15), [], []⟩
def d_is_thing : He.DefD := ⟨("is_thing", none), "is_thing", "is_thing", defArgs (top 14), defBody (top 14), defScope (top 14), [], []⟩
def d_is_term : He.DefD := ⟨("is_term", none), "is_term", "is_term", defArgs (top 16), defBody (top 16), defScope (top 16), [], []⟩
def d__is_row : He.DefD := ⟨("_is_row", none), "_is_row", "_is_row", defArgs (top 19), defBody (top 19), defScope (top 19), [], []⟩
def d_as_atom : He.DefD := ⟨("as_atom", none), "as_atom", "as_atom", defArgs (top 20), defBody (top 20), defScope (top 20), [], []⟩
def d__as_not : He.DefD := ⟨("_as_not", none), "_as_not", "_as_not", defArgs (top 21), defBody (top 21), defScope (top 21), [], []⟩
def d__as_unlike : He.DefD := ⟨("_as_unlike", none), "_as_unlike", "_as_unlike", defArgs (top 22), defBody (top 22), defScope (top 22), [], []⟩
def d_as_part : He.DefD := ⟨("as_part", none), "as_part", "as_part", defArgs (top 23), defBody (top 23), defScope (top 23), [], []⟩
def d_as_body : He.DefD := ⟨("as_body", none), "as_body", "as_body", defArgs (top 24), defBody (top 24), defScope (top 24), [], []⟩
def d_is_plain : He.DefD := ⟨("is_plain", none), "is_plain", "is_plain", defArgs (top 25), defBody (top 25), defScope (top 25), [], []⟩
def d_terms_of : He.DefD := ⟨("terms_of", none), "terms_of", "terms_of", defArgs (top 26), defBody (top 26), defScope (top 26), [], []⟩
def d_letters_in : He.DefD := ⟨("letters_in", none), "letters_in", "letters_in", defArgs (top 27), defBody (top 27), defScope (top 27), [], []⟩
def d_loose_letters : He.DefD := ⟨("loose_letters", none), "loose_letters", "loose_letters", defArgs (top 28), defBody (top 28), defScope (top 28), [], []⟩
def d__as_by : He.DefD := ⟨("_as_by", none), "_as_by", "_as_by", defArgs (top 32), defBody (top 32), defScope (top 32), [], []⟩
def d__as_fold : He.DefD := ⟨("_as_fold", none), "_as_fold", "_as_fold", defArgs (top 33), defBody (top 33), defScope (top 33), [], []⟩
def d__loose_in_fold : He.DefD := ⟨("_loose_in_fold", none), "_loose_in_fold", "_loose_in_fold", defArgs (top 34), defBody (top 34), defScope (top 34), [], []⟩
def d_BadFold___init__ : He.DefD := ⟨("BadFold", some "__init__"), "__init__", "BadFold.__init__", defArgs (inClass (top 2) 0), defBody (inClass (top 2) 0), defScope (inClass (top 2) 0), [], []⟩
def d_Unsafe___init__ : He.DefD := ⟨("Unsafe", some "__init__"), "__init__", "Unsafe.__init__", defArgs (inClass (top 3) 0), defBody (inClass (top 3) 0), defScope (inClass (top 3) 0), [], []⟩
def d__checked_folds : He.DefD := ⟨("_checked_folds", none), "_checked_folds", "_checked_folds", defArgs (top 35), defBody (top 35), defScope (top 35), [], []⟩
def d_Folds___init__ : He.DefD := ⟨("Folds", some "__init__"), "__init__", "Folds.__init__", defArgs (inClass (top 36) 0), defBody (inClass (top 36) 0), defScope (inClass (top 36) 0), [], []⟩
def d_Folds_listed : He.DefD := ⟨("Folds", some "listed"), "listed", "Folds.listed", defArgs (inClass (top 36) 1), defBody (inClass (top 36) 1), defScope (inClass (top 36) 1), [], []⟩
def d_Folds___len__ : He.DefD := ⟨("Folds", some "__len__"), "__len__", "Folds.__len__", defArgs (inClass (top 36) 2), defBody (inClass (top 36) 2), defScope (inClass (top 36) 2), [], []⟩
def d_Folds___eq__ : He.DefD := ⟨("Folds", some "__eq__"), "__eq__", "Folds.__eq__", defArgs (inClass (top 36) 3), defBody (inClass (top 36) 3), defScope (inClass (top 36) 3), [], []⟩
def d__law_start : He.DefD := ⟨("_law_start", none), "_law_start", "_law_start", defArgs (top 38), defBody (top 38), defScope (top 38), [], []⟩
def d__law_draw : He.DefD := ⟨("_law_draw", none), "_law_draw", "_law_draw", defArgs (top 39), defBody (top 39), defScope (top 39), [], []⟩
def d__law_pick : He.DefD := ⟨("_law_pick", none), "_law_pick", "_law_pick", defArgs (top 40), defBody (top 40), defScope (top 40), [], []⟩
def d__law_mixed : He.DefD := ⟨("_law_mixed", none), "_law_mixed", "_law_mixed", defArgs (top 41), defBody (top 41), defScope (top 41), [], []⟩
def d__law_each_once : He.DefD := ⟨("_law_each_once", none), "_law_each_once", "_law_each_once", defArgs (top 43), defBody (top 43), defScope (top 43), [], []⟩
def d__law_is_letter : He.DefD := ⟨("_law_is_letter", none), "_law_is_letter", "_law_is_letter", defArgs (top 44), defBody (top 44), defScope (top 44), [], []⟩
def d__law_letters : He.DefD := ⟨("_law_letters", none), "_law_letters", "_law_letters", defArgs (top 45), defBody (top 45), defScope (top 45), [], []⟩
def d__law_things : He.DefD := ⟨("_law_things", none), "_law_things", "_law_things", defArgs (top 46), defBody (top 46), defScope (top 46), [], []⟩
def d__law_shape : He.DefD := ⟨("_law_shape", none), "_law_shape", "_law_shape", defArgs (top 47), defBody (top 47), defScope (top 47), [], []⟩
def d__law_body : He.DefD := ⟨("_law_body", none), "_law_body", "_law_body", defArgs (top 48), defBody (top 48), defScope (top 48), [], []⟩
def d__law_w_fold : He.DefD := ⟨("_law_w_fold", none), "_law_w_fold", "_law_w_fold", defArgs (top 49), defBody (top 49), defScope (top 49), [], []⟩
def d__law_w_loose : He.DefD := ⟨("_law_w_loose", none), "_law_w_loose", "_law_w_loose", defArgs (top 50), defBody (top 50), defScope (top 50), [], []⟩
def d__law_same : He.DefD := ⟨("_law_same", none), "_law_same", "_law_same", defArgs (top 42), defBody (top 42), defScope (top 42), [], []⟩
def d__law_tried : He.DefD := ⟨("_law_tried", none), "_law_tried", "_law_tried", defArgs (top 51), defBody (top 51), defScope (top 51), [], []⟩
def d__law_bent : He.DefD := ⟨("_law_bent", none), "_law_bent", "_law_bent", defArgs (top 52), defBody (top 52), defScope (top 52), [], []⟩
def d__law_loose : He.DefD := ⟨("_law_loose", none), "_law_loose", "_law_loose", defArgs (top 53), defBody (top 53), defScope (top 53), [], []⟩
def d_law : He.DefD := ⟨("law", none), "law", "law", defArgs (top 54), defBody (top 54), defScope (top 54), [], []⟩
def fn0 : List He.DefD := [d_is_integer, d_is_name, d_is_letter, d_is_thing, d_is_term, d__is_row, d_as_atom, d__as_not, d__as_unlike, d_as_part, d_as_body, d_is_plain, d_terms_of, d_letters_in, d_loose_letters, d__as_by, d__as_fold, d__loose_in_fold, d_BadFold___init__, d_Unsafe___init__, d__checked_folds, d_Folds___init__]
def fn1 : List He.DefD := [d_Folds_listed, d_Folds___len__, d_Folds___eq__, d__law_start, d__law_draw, d__law_pick, d__law_mixed, d__law_each_once, d__law_is_letter, d__law_letters, d__law_things, d__law_shape, d__law_body, d__law_w_fold, d__law_w_loose, d__law_same, d__law_tried, d__law_bent, d__law_loose, d_law]
def fn : List He.DefD := fn0 ++ fn1
def fa0 : List He.Fa := [.glo "is_integer", .glo "is_name", .glo "is_letter", .glo "is_thing", .glo "is_term", .glo "_is_row", .glo "as_atom", .glo "_as_not", .glo "_as_unlike", .glo "as_part", .glo "as_body", .glo "is_plain", .glo "terms_of", .glo "letters_in", .glo "loose_letters", .glo "_as_by", .glo "_as_fold", .glo "_loose_in_fold", .glo "_checked_folds", .glo "_law_start", .glo "_law_draw", .glo "_law_pick", .glo "_law_mixed", .glo "_law_each_once", .glo "_law_is_letter", .glo "_law_letters", .glo "_law_things", .glo "_law_shape", .glo "_law_body", .glo "_law_w_fold", .glo "_law_w_loose", .glo "_law_same", .glo "_law_tried", .glo "_law_bent", .glo "_law_loose"]
def fa1 : List He.Fa := [.glo "law", .glo "Folds", .glo "BadFold", .glo "Unsafe", .glo "BARRED_NAMES", .glo "WORDS", .free "len", .free "isinstance", .free "list", .free "tuple", .free "int", .free "str", .free "bool", .free "dict", .free "all", .free "any", .free "range", .free "enumerate", .free "zip", .str "SMALL" "abcdefghijklmnopqrstuvwxyz", .str "CAPITALS" "ABCDEFGHIJKLMNOPQRSTUVWXYZ", .str "FIGURES" "0123456789", .str "NAME_SIGNS" "abcdefghijklmnopqrstuvwxyz0123456789", .int "LONGEST_NAME" 12, .int "LONGEST_LETTER" 4, .int "MOST_TERMS" 6, .int "MOST_HEAD_TERMS" 5, .cls "Folds", .noat "Folds" "_folds", .meth "Folds" "listed", .meth "Folds" "__len__", .meth "Folds" "__eq__", .mkr "Folds", .noat "BadFold" "index", .noat "Unsafe" "index", .noat "Unsafe" "letter", .exm "BadFold" "BadFold" true, .exm "BadFold" "Unsafe" false, .exm "Unsafe" "BadFold" false, .exm "Unsafe" "Unsafe" true]
def fa : List He.Fa := fa0 ++ fa1
abbrev laws : List He.Defn := [("law", none)]
theorem facts {l : PySem.W.OpenLaw} {w : World} {K : PySem.W.Frag} {h : Heap} {mg : Str → Option Value} {f : Addr} (X : K.In h) (G : h.Ns mainGlobals mg) (hfa : mg ("law" : Str) = some (.ref f)) (s : He.SaysX fa fn [] laws extra w h K) : LamX.LawAtS l w K CX0 14 63 "_law_script" mg f h := by
  have c : He.SaysD fa fn K := s.t.d
  have x := s.more
  obtain ⟨x1, x⟩ := He.ba x
  obtain ⟨x2, x⟩ := He.ba x
  obtain ⟨x3, x⟩ := He.ba x
  obtain ⟨x4, x⟩ := He.ba x
  obtain ⟨x5, x⟩ := He.ba x
  obtain ⟨x6, x⟩ := He.ba x
  obtain ⟨x7, x⟩ := He.ba x
  obtain ⟨x8, x⟩ := He.ba x
  obtain ⟨x9, x⟩ := He.ba x
  obtain ⟨x10, x⟩ := He.ba x
  obtain ⟨x11, x⟩ := He.ba x
  obtain ⟨x12, x⟩ := He.ba x
  obtain ⟨x13, x⟩ := He.ba x
  obtain ⟨x14, x⟩ := He.ba x
  obtain ⟨x15, x⟩ := He.ba x
  obtain ⟨x16, x⟩ := He.ba x
  obtain ⟨x17, x⟩ := He.ba x
  have z_len := He.free_ok X G (c.fact 41 (f := .free "len") rfl)
  have z_isinstance := He.free_ok X G (c.fact 42 (f := .free "isinstance") rfl)
  have z_list := He.free_ok X G (c.fact 43 (f := .free "list") rfl)
  have z_tuple := He.free_ok X G (c.fact 44 (f := .free "tuple") rfl)
  have z_int := He.free_ok X G (c.fact 45 (f := .free "int") rfl)
  have z_str := He.free_ok X G (c.fact 46 (f := .free "str") rfl)
  have z_bool := He.free_ok X G (c.fact 47 (f := .free "bool") rfl)
  have z_dict := He.free_ok X G (c.fact 48 (f := .free "dict") rfl)
  have z_all := He.free_ok X G (c.fact 49 (f := .free "all") rfl)
  have z_any := He.free_ok X G (c.fact 50 (f := .free "any") rfl)
  have z_range := He.free_ok X G (c.fact 51 (f := .free "range") rfl)
  have z_enumerate := He.free_ok X G (c.fact 52 (f := .free "enumerate") rfl)
  have z_zip := He.free_ok X G (c.fact 53 (f := .free "zip") rfl)
  have T : Tx K mg := { b_len := z_len, b_isinstance := z_isinstance, b_list := z_list, b_tuple := z_tuple, b_int := z_int, b_str := z_str, b_bool := z_bool, b_dict := z_dict, b_all := z_all, b_any := z_any, b_range := z_range, b_enumerate := z_enumerate, b_zip := z_zip, g_SMALL := gld_str (He.str_ok X G (c.fact 54 (f := .str "SMALL" "abcdefghijklmnopqrstuvwxyz") rfl)), g_CAPITALS := gld_str (He.str_ok X G (c.fact 55 (f := .str "CAPITALS" "ABCDEFGHIJKLMNOPQRSTUVWXYZ") rfl)), g_FIGURES := gld_str (He.str_ok X G (c.fact 56 (f := .str "FIGURES" "0123456789") rfl)), g_NAME_SIGNS := gld_str (He.str_ok X G (c.fact 57 (f := .str "NAME_SIGNS" "abcdefghijklmnopqrstuvwxyz0123456789") rfl)), g_LONGEST_NAME := gld_int (He.int_ok X G (c.fact 58 (f := .int "LONGEST_NAME" 12) rfl)), g_LONGEST_LETTER := gld_int (He.int_ok X G (c.fact 59 (f := .int "LONGEST_LETTER" 4) rfl)), g_MOST_TERMS := gld_int (He.int_ok X G (c.fact 60 (f := .int "MOST_TERMS" 6) rfl)), g_MOST_HEAD_TERMS := gld_int (He.int_ok X G (c.fact 61 (f := .int "MOST_HEAD_TERMS" 5) rfl)), g_BARRED_NAMES := gld_tup (zs := ["not", "unlike", "if"]) (He.glo_ok X G (c.fact 39 (f := .glo "BARRED_NAMES") rfl)) fun H => He.tupB_ok x1 H, g_WORDS := gld_tup (zs := ["count", "sum", "least", "most"]) (He.glo_ok X G (c.fact 40 (f := .glo "WORDS") rfl)) fun H => He.tupB_ok x2 H }
  have hCls : Cls K (He.ga K "Folds") := He.cls_ok (c.fact 62 (f := .cls "Folds") rfl)
  have no : NoAttr K (He.ga K "Folds") "_folds" := He.noat_ok (c.fact 63 (f := .noat "Folds" "_folds") rfl)
  have I : IsC K (He.ga K "Folds") := ⟨hCls, He.eqO_ok x12, He.eqO_ok x13, of_decide_eq_true x14, of_decide_eq_true x15, fun t => of_decide_eq_true (List.all_eq_true.mp x17 t (allTy_mem t)), fun t => List.all_eq_true.mp x t (allTy_mem t)⟩
  have m_Folds := He.glo_ok X G (c.fact 36 (f := .glo "Folds") rfl)
  have m_BadFold := He.glo_ok X G (c.fact 37 (f := .glo "BadFold") rfl)
  have m_Unsafe := He.glo_ok X G (c.fact 38 (f := .glo "Unsafe") rfl)
  have O_BadFold : OexC K (He.ga K "BadFold") := errB_ok x3
  have O_Unsafe : OexC K (He.ga K "Unsafe") := errB_ok x4
  have RE : Er K mg (He.ga K "BadFold") (He.ga K "Unsafe") := ⟨m_BadFold, m_Unsafe, xfB_ok x5, xfB_ok x6, He.noat_ok (c.fact 68 (f := .noat "BadFold" "index") rfl), He.noat_ok (c.fact 69 (f := .noat "Unsafe" "index") rfl), He.noat_ok (c.fact 70 (f := .noat "Unsafe" "letter") rfl), of_decide_eq_true x7, He.exm_ok (c.fact 71 (f := .exm "BadFold" "BadFold" true) rfl), He.exm_ok (c.fact 72 (f := .exm "BadFold" "Unsafe" false) rfl), He.exm_ok (c.fact 73 (f := .exm "Unsafe" "BadFold" false) rfl), He.exm_ok (c.fact 74 (f := .exm "Unsafe" "Unsafe" true) rfl)⟩
  have M_listed := He.meth_ok (c.fact 64 (f := .meth "Folds" "listed") rfl)
  have M_len := He.meth_ok (c.fact 65 (f := .meth "Folds" "__len__") rfl)
  have M_eq := He.meth_ok (c.fact 66 (f := .meth "Folds" "__eq__") rfl)
  have hMk := He.mkr_ok (c.fact 67 (f := .mkr "Folds") rfl)
  obtain ⟨w_is_integer, F_is_integer⟩ := c.def_ 0 (d := d_is_integer) rfl
  have F_is_integer : FnP K "is_integer" "is_integer" (top 12) (He.ga K "is_integer") w_is_integer := F_is_integer
  have g_is_integer := He.glo_ok X G (c.fact 0 (f := .glo "is_integer") rfl)
  have b_is_integer := FunD.bindsN (ps := ["thing"]) F_is_integer fun _ _ _ _ _ _ us hl => match us, hl with | [_], _ => rfl
  obtain ⟨w_is_name, F_is_name⟩ := c.def_ 1 (d := d_is_name) rfl
  have F_is_name : FnP K "is_name" "is_name" (top 13) (He.ga K "is_name") w_is_name := F_is_name
  have g_is_name := He.glo_ok X G (c.fact 1 (f := .glo "is_name") rfl)
  have b_is_name := FunD.bindsN (ps := ["thing"]) F_is_name fun _ _ _ _ _ _ us hl => match us, hl with | [_], _ => rfl
  obtain ⟨w_is_letter, F_is_letter⟩ := c.def_ 2 (d := d_is_letter) rfl
  have F_is_letter : FnP K "is_letter" "is_letter" (top 15) (He.ga K "is_letter") w_is_letter := F_is_letter
  have g_is_letter := He.glo_ok X G (c.fact 2 (f := .glo "is_letter") rfl)
  have b_is_letter := FunD.bindsN (ps := ["thing"]) F_is_letter fun _ _ _ _ _ _ us hl => match us, hl with | [_], _ => rfl
  obtain ⟨w_is_thing, F_is_thing⟩ := c.def_ 3 (d := d_is_thing) rfl
  have F_is_thing : FnP K "is_thing" "is_thing" (top 14) (He.ga K "is_thing") w_is_thing := F_is_thing
  have g_is_thing := He.glo_ok X G (c.fact 3 (f := .glo "is_thing") rfl)
  have b_is_thing := FunD.bindsN (ps := ["thing"]) F_is_thing fun _ _ _ _ _ _ us hl => match us, hl with | [_], _ => rfl
  obtain ⟨w_is_term, F_is_term⟩ := c.def_ 4 (d := d_is_term) rfl
  have F_is_term : FnP K "is_term" "is_term" (top 16) (He.ga K "is_term") w_is_term := F_is_term
  have g_is_term := He.glo_ok X G (c.fact 4 (f := .glo "is_term") rfl)
  have b_is_term := FunD.bindsN (ps := ["thing"]) F_is_term fun _ _ _ _ _ _ us hl => match us, hl with | [_], _ => rfl
  obtain ⟨w__is_row, F__is_row⟩ := c.def_ 5 (d := d__is_row) rfl
  have F__is_row : FnP K "_is_row" "_is_row" (top 19) (He.ga K "_is_row") w__is_row := F__is_row
  have g__is_row := He.glo_ok X G (c.fact 5 (f := .glo "_is_row") rfl)
  have b__is_row := FunD.bindsN (ps := ["thing"]) F__is_row fun _ _ _ _ _ _ us hl => match us, hl with | [_], _ => rfl
  obtain ⟨w_as_atom, F_as_atom⟩ := c.def_ 6 (d := d_as_atom) rfl
  have F_as_atom : FnP K "as_atom" "as_atom" (top 20) (He.ga K "as_atom") w_as_atom := F_as_atom
  have g_as_atom := He.glo_ok X G (c.fact 6 (f := .glo "as_atom") rfl)
  have b_as_atom := FunD.bindsN (ps := ["thing"]) F_as_atom fun _ _ _ _ _ _ us hl => match us, hl with | [_], _ => rfl
  obtain ⟨w__as_not, F__as_not⟩ := c.def_ 7 (d := d__as_not) rfl
  have F__as_not : FnP K "_as_not" "_as_not" (top 21) (He.ga K "_as_not") w__as_not := F__as_not
  have g__as_not := He.glo_ok X G (c.fact 7 (f := .glo "_as_not") rfl)
  have b__as_not := FunD.bindsN (ps := ["thing"]) F__as_not fun _ _ _ _ _ _ us hl => match us, hl with | [_], _ => rfl
  obtain ⟨w__as_unlike, F__as_unlike⟩ := c.def_ 8 (d := d__as_unlike) rfl
  have F__as_unlike : FnP K "_as_unlike" "_as_unlike" (top 22) (He.ga K "_as_unlike") w__as_unlike := F__as_unlike
  have g__as_unlike := He.glo_ok X G (c.fact 8 (f := .glo "_as_unlike") rfl)
  have b__as_unlike := FunD.bindsN (ps := ["thing"]) F__as_unlike fun _ _ _ _ _ _ us hl => match us, hl with | [_], _ => rfl
  obtain ⟨w_as_part, F_as_part⟩ := c.def_ 9 (d := d_as_part) rfl
  have F_as_part : FnP K "as_part" "as_part" (top 23) (He.ga K "as_part") w_as_part := F_as_part
  have g_as_part := He.glo_ok X G (c.fact 9 (f := .glo "as_part") rfl)
  have b_as_part := FunD.bindsN (ps := ["thing"]) F_as_part fun _ _ _ _ _ _ us hl => match us, hl with | [_], _ => rfl
  obtain ⟨w_as_body, F_as_body⟩ := c.def_ 10 (d := d_as_body) rfl
  have F_as_body : FnP K "as_body" "as_body" (top 24) (He.ga K "as_body") w_as_body := F_as_body
  have g_as_body := He.glo_ok X G (c.fact 10 (f := .glo "as_body") rfl)
  have b_as_body := FunD.bindsN (ps := ["thing"]) F_as_body fun _ _ _ _ _ _ us hl => match us, hl with | [_], _ => rfl
  obtain ⟨w_is_plain, F_is_plain⟩ := c.def_ 11 (d := d_is_plain) rfl
  have F_is_plain : FnP K "is_plain" "is_plain" (top 25) (He.ga K "is_plain") w_is_plain := F_is_plain
  have g_is_plain := He.glo_ok X G (c.fact 11 (f := .glo "is_plain") rfl)
  have b_is_plain := FunD.bindsN (ps := ["part"]) F_is_plain fun _ _ _ _ _ _ us hl => match us, hl with | [_], _ => rfl
  obtain ⟨w_terms_of, F_terms_of⟩ := c.def_ 12 (d := d_terms_of) rfl
  have F_terms_of : FnP K "terms_of" "terms_of" (top 26) (He.ga K "terms_of") w_terms_of := F_terms_of
  have g_terms_of := He.glo_ok X G (c.fact 12 (f := .glo "terms_of") rfl)
  have b_terms_of := FunD.bindsN (ps := ["part"]) F_terms_of fun _ _ _ _ _ _ us hl => match us, hl with | [_], _ => rfl
  obtain ⟨w_letters_in, F_letters_in⟩ := c.def_ 13 (d := d_letters_in) rfl
  have F_letters_in : FnP K "letters_in" "letters_in" (top 27) (He.ga K "letters_in") w_letters_in := F_letters_in
  have g_letters_in := He.glo_ok X G (c.fact 13 (f := .glo "letters_in") rfl)
  have b_letters_in := FunD.bindsN (ps := ["parts"]) F_letters_in fun _ _ _ _ _ _ us hl => match us, hl with | [_], _ => rfl
  obtain ⟨w_loose_letters, F_loose_letters⟩ := c.def_ 14 (d := d_loose_letters) rfl
  have F_loose_letters : FnP K "loose_letters" "loose_letters" (top 28) (He.ga K "loose_letters") w_loose_letters := F_loose_letters
  have g_loose_letters := He.glo_ok X G (c.fact 14 (f := .glo "loose_letters") rfl)
  have b_loose_letters := FunD.bindsN (ps := ["parts", "body"]) F_loose_letters fun _ _ _ _ _ _ us hl => match us, hl with | [_, _], _ => rfl
  obtain ⟨w__as_by, F__as_by⟩ := c.def_ 15 (d := d__as_by) rfl
  have F__as_by : FnP K "_as_by" "_as_by" (top 32) (He.ga K "_as_by") w__as_by := F__as_by
  have g__as_by := He.glo_ok X G (c.fact 15 (f := .glo "_as_by") rfl)
  have b__as_by := FunD.bindsN (ps := ["thing"]) F__as_by fun _ _ _ _ _ _ us hl => match us, hl with | [_], _ => rfl
  obtain ⟨w__as_fold, F__as_fold⟩ := c.def_ 16 (d := d__as_fold) rfl
  have F__as_fold : FnP K "_as_fold" "_as_fold" (top 33) (He.ga K "_as_fold") w__as_fold := F__as_fold
  have g__as_fold := He.glo_ok X G (c.fact 16 (f := .glo "_as_fold") rfl)
  have b__as_fold := FunD.bindsN (ps := ["thing"]) F__as_fold fun _ _ _ _ _ _ us hl => match us, hl with | [_], _ => rfl
  obtain ⟨w__loose_in_fold, F__loose_in_fold⟩ := c.def_ 17 (d := d__loose_in_fold) rfl
  have F__loose_in_fold : FnP K "_loose_in_fold" "_loose_in_fold" (top 34) (He.ga K "_loose_in_fold") w__loose_in_fold := F__loose_in_fold
  have g__loose_in_fold := He.glo_ok X G (c.fact 17 (f := .glo "_loose_in_fold") rfl)
  have b__loose_in_fold := FunD.bindsN (ps := ["fold"]) F__loose_in_fold fun _ _ _ _ _ _ us hl => match us, hl with | [_], _ => rfl
  obtain ⟨w_BadFold___init__, F_BadFold___init__⟩ := c.def_ 18 (d := d_BadFold___init__) rfl
  have F_BadFold___init__ : FnP K "__init__" "BadFold.__init__" (inClass (top 2) 0) (He.ma K (He.ga K "BadFold") "__init__") w_BadFold___init__ := F_BadFold___init__
  have b_BadFold___init__ := FunD.bindsN (ps := ["self", "index"]) F_BadFold___init__ fun _ _ _ _ _ _ us hl => match us, hl with | [_, _], _ => rfl
  obtain ⟨w_Unsafe___init__, F_Unsafe___init__⟩ := c.def_ 19 (d := d_Unsafe___init__) rfl
  have F_Unsafe___init__ : FnP K "__init__" "Unsafe.__init__" (inClass (top 3) 0) (He.ma K (He.ga K "Unsafe") "__init__") w_Unsafe___init__ := F_Unsafe___init__
  have b_Unsafe___init__ := FunD.bindsN (ps := ["self", "index", "letter"]) F_Unsafe___init__ fun _ _ _ _ _ _ us hl => match us, hl with | [_, _, _], _ => rfl
  obtain ⟨w__checked_folds, F__checked_folds⟩ := c.def_ 20 (d := d__checked_folds) rfl
  have F__checked_folds : FnP K "_checked_folds" "_checked_folds" (top 35) (He.ga K "_checked_folds") w__checked_folds := F__checked_folds
  have g__checked_folds := He.glo_ok X G (c.fact 18 (f := .glo "_checked_folds") rfl)
  have b__checked_folds := FunD.bindsN (ps := ["folds"]) F__checked_folds fun _ _ _ _ _ _ us hl => match us, hl with | [_], _ => rfl
  obtain ⟨w_Folds___init__, F_Folds___init__⟩ := c.def_ 21 (d := d_Folds___init__) rfl
  have F_Folds___init__ : FnP K "__init__" "Folds.__init__" (inClass (top 36) 0) (He.ma K (He.ga K "Folds") "__init__") w_Folds___init__ := F_Folds___init__
  have b_Folds___init__ := FunD.bindsN (ps := ["self", "folds"]) F_Folds___init__ fun _ _ _ _ _ _ us hl => match us, hl with | [_, _], _ => rfl
  obtain ⟨w_Folds_listed, F_Folds_listed⟩ := c.def_ 22 (d := d_Folds_listed) rfl
  have F_Folds_listed : FnP K "listed" "Folds.listed" (inClass (top 36) 1) (He.ma K (He.ga K "Folds") "listed") w_Folds_listed := F_Folds_listed
  have b_Folds_listed := FunD.bindsN (ps := ["self"]) F_Folds_listed fun _ _ _ _ _ _ us hl => match us, hl with | [_], _ => rfl
  obtain ⟨w_Folds___len__, F_Folds___len__⟩ := c.def_ 23 (d := d_Folds___len__) rfl
  have F_Folds___len__ : FnP K "__len__" "Folds.__len__" (inClass (top 36) 2) (He.ma K (He.ga K "Folds") "__len__") w_Folds___len__ := F_Folds___len__
  have b_Folds___len__ := FunD.bindsN (ps := ["self"]) F_Folds___len__ fun _ _ _ _ _ _ us hl => match us, hl with | [_], _ => rfl
  obtain ⟨w_Folds___eq__, F_Folds___eq__⟩ := c.def_ 24 (d := d_Folds___eq__) rfl
  have F_Folds___eq__ : FnP K "__eq__" "Folds.__eq__" (inClass (top 36) 3) (He.ma K (He.ga K "Folds") "__eq__") w_Folds___eq__ := F_Folds___eq__
  have b_Folds___eq__ := FunD.bindsN (ps := ["self", "other"]) F_Folds___eq__ fun _ _ _ _ _ _ us hl => match us, hl with | [_, _], _ => rfl
  obtain ⟨w__law_start, F__law_start⟩ := c.def_ 25 (d := d__law_start) rfl
  have F__law_start : FnP K "_law_start" "_law_start" (top 38) (He.ga K "_law_start") w__law_start := F__law_start
  have g__law_start := He.glo_ok X G (c.fact 19 (f := .glo "_law_start") rfl)
  have b__law_start := FunD.bindsN (ps := ["_law_script"]) F__law_start fun _ _ _ _ _ _ us hl => match us, hl with | [_], _ => rfl
  obtain ⟨w__law_draw, F__law_draw⟩ := c.def_ 26 (d := d__law_draw) rfl
  have F__law_draw : FnP K "_law_draw" "_law_draw" (top 39) (He.ga K "_law_draw") w__law_draw := F__law_draw
  have g__law_draw := He.glo_ok X G (c.fact 20 (f := .glo "_law_draw") rfl)
  have b__law_draw := FunD.bindsN (ps := ["_law_stream", "_law_many"]) F__law_draw fun _ _ _ _ _ _ us hl => match us, hl with | [_, _], _ => rfl
  obtain ⟨w__law_pick, F__law_pick⟩ := c.def_ 27 (d := d__law_pick) rfl
  have F__law_pick : FnP K "_law_pick" "_law_pick" (top 40) (He.ga K "_law_pick") w__law_pick := F__law_pick
  have g__law_pick := He.glo_ok X G (c.fact 21 (f := .glo "_law_pick") rfl)
  have b__law_pick := FunD.bindsN (ps := ["_law_stream", "_law_some"]) F__law_pick fun _ _ _ _ _ _ us hl => match us, hl with | [_, _], _ => rfl
  obtain ⟨w__law_mixed, F__law_mixed⟩ := c.def_ 28 (d := d__law_mixed) rfl
  have F__law_mixed : FnP K "_law_mixed" "_law_mixed" (top 41) (He.ga K "_law_mixed") w__law_mixed := F__law_mixed
  have g__law_mixed := He.glo_ok X G (c.fact 22 (f := .glo "_law_mixed") rfl)
  have b__law_mixed := FunD.bindsN (ps := ["_law_stream", "_law_some"]) F__law_mixed fun _ _ _ _ _ _ us hl => match us, hl with | [_, _], _ => rfl
  obtain ⟨w__law_each_once, F__law_each_once⟩ := c.def_ 29 (d := d__law_each_once) rfl
  have F__law_each_once : FnP K "_law_each_once" "_law_each_once" (top 43) (He.ga K "_law_each_once") w__law_each_once := F__law_each_once
  have g__law_each_once := He.glo_ok X G (c.fact 23 (f := .glo "_law_each_once") rfl)
  have b__law_each_once := FunD.bindsN (ps := ["_law_things_here"]) F__law_each_once fun _ _ _ _ _ _ us hl => match us, hl with | [_], _ => rfl
  obtain ⟨w__law_is_letter, F__law_is_letter⟩ := c.def_ 30 (d := d__law_is_letter) rfl
  have F__law_is_letter : FnP K "_law_is_letter" "_law_is_letter" (top 44) (He.ga K "_law_is_letter") w__law_is_letter := F__law_is_letter
  have g__law_is_letter := He.glo_ok X G (c.fact 24 (f := .glo "_law_is_letter") rfl)
  have b__law_is_letter := FunD.bindsN (ps := ["_law_term"]) F__law_is_letter fun _ _ _ _ _ _ us hl => match us, hl with | [_], _ => rfl
  obtain ⟨w__law_letters, F__law_letters⟩ := c.def_ 31 (d := d__law_letters) rfl
  have F__law_letters : FnP K "_law_letters" "_law_letters" (top 45) (He.ga K "_law_letters") w__law_letters := F__law_letters
  have g__law_letters := He.glo_ok X G (c.fact 25 (f := .glo "_law_letters") rfl)
  have b__law_letters := FunD.bindsN (ps := ["_law_body_here"]) F__law_letters fun _ _ _ _ _ _ us hl => match us, hl with | [_], _ => rfl
  obtain ⟨w__law_things, F__law_things⟩ := c.def_ 32 (d := d__law_things) rfl
  have F__law_things : FnP K "_law_things" "_law_things" (top 46) (He.ga K "_law_things") w__law_things := F__law_things
  have g__law_things := He.glo_ok X G (c.fact 26 (f := .glo "_law_things") rfl)
  have b__law_things := FunD.bindsN (ps := ["_law_stream", "_law_many"]) F__law_things fun _ _ _ _ _ _ us hl => match us, hl with | [_, _], _ => rfl
  obtain ⟨w__law_shape, F__law_shape⟩ := c.def_ 33 (d := d__law_shape) rfl
  have F__law_shape : FnP K "_law_shape" "_law_shape" (top 47) (He.ga K "_law_shape") w__law_shape := F__law_shape
  have g__law_shape := He.glo_ok X G (c.fact 27 (f := .glo "_law_shape") rfl)
  have b__law_shape := FunD.bindsN (ps := ["_law_stream"]) F__law_shape fun _ _ _ _ _ _ us hl => match us, hl with | [_], _ => rfl
  obtain ⟨w__law_body, F__law_body⟩ := c.def_ 34 (d := d__law_body) rfl
  have F__law_body : FnP K "_law_body" "_law_body" (top 48) (He.ga K "_law_body") w__law_body := F__law_body
  have g__law_body := He.glo_ok X G (c.fact 28 (f := .glo "_law_body") rfl)
  have b__law_body := FunD.bindsN (ps := ["_law_stream", "_law_shape_here", "_law_letters_here", "_law_things_here", "_law_many"]) F__law_body fun _ _ _ _ _ _ us hl => match us, hl with | [_, _, _, _, _], _ => rfl
  obtain ⟨w__law_w_fold, F__law_w_fold⟩ := c.def_ 35 (d := d__law_w_fold) rfl
  have F__law_w_fold : FnP K "_law_w_fold" "_law_w_fold" (top 49) (He.ga K "_law_w_fold") w__law_w_fold := F__law_w_fold
  have g__law_w_fold := He.glo_ok X G (c.fact 29 (f := .glo "_law_w_fold") rfl)
  have b__law_w_fold := FunD.bindsN (ps := ["_law_stream", "_law_shape_here", "_law_things_here", "_law_has_nots"]) F__law_w_fold fun _ _ _ _ _ _ us hl => match us, hl with | [_, _, _, _], _ => rfl
  obtain ⟨w__law_w_loose, F__law_w_loose⟩ := c.def_ 36 (d := d__law_w_loose) rfl
  have F__law_w_loose : FnP K "_law_w_loose" "_law_w_loose" (top 50) (He.ga K "_law_w_loose") w__law_w_loose := F__law_w_loose
  have g__law_w_loose := He.glo_ok X G (c.fact 30 (f := .glo "_law_w_loose") rfl)
  have b__law_w_loose := FunD.bindsN (ps := ["_law_stream", "_law_thing"]) F__law_w_loose fun _ _ _ _ _ _ us hl => match us, hl with | [_, _], _ => rfl
  obtain ⟨w__law_same, F__law_same⟩ := c.def_ 37 (d := d__law_same) rfl
  have F__law_same : FnP K "_law_same" "_law_same" (top 42) (He.ga K "_law_same") w__law_same := F__law_same
  have g__law_same := He.glo_ok X G (c.fact 31 (f := .glo "_law_same") rfl)
  have b__law_same := FunD.bindsN (ps := ["_law_found", "_law_due"]) F__law_same fun _ _ _ _ _ _ us hl => match us, hl with | [_, _], _ => rfl
  obtain ⟨w__law_tried, F__law_tried⟩ := c.def_ 38 (d := d__law_tried) rfl
  have F__law_tried : FnP K "_law_tried" "_law_tried" (top 51) (He.ga K "_law_tried") w__law_tried := F__law_tried
  have g__law_tried := He.glo_ok X G (c.fact 32 (f := .glo "_law_tried") rfl)
  have b__law_tried := FunD.bindsN (ps := ["_law_ask"]) F__law_tried fun _ _ _ _ _ _ us hl => match us, hl with | [_], _ => rfl
  obtain ⟨w__law_bent, F__law_bent⟩ := c.def_ 39 (d := d__law_bent) rfl
  have F__law_bent : FnP K "_law_bent" "_law_bent" (top 52) (He.ga K "_law_bent") w__law_bent := F__law_bent
  have g__law_bent := He.glo_ok X G (c.fact 33 (f := .glo "_law_bent") rfl)
  have b__law_bent := FunD.bindsN (ps := ["_law_stream", "_law_fold"]) F__law_bent fun _ _ _ _ _ _ us hl => match us, hl with | [_, _], _ => rfl
  obtain ⟨w__law_loose, F__law_loose⟩ := c.def_ 40 (d := d__law_loose) rfl
  have F__law_loose : FnP K "_law_loose" "_law_loose" (top 53) (He.ga K "_law_loose") w__law_loose := F__law_loose
  have g__law_loose := He.glo_ok X G (c.fact 34 (f := .glo "_law_loose") rfl)
  have b__law_loose := FunD.bindsN (ps := ["_law_stream", "_law_fold"]) F__law_loose fun _ _ _ _ _ _ us hl => match us, hl with | [_, _], _ => rfl
  obtain ⟨w_law, F_law⟩ := c.def_ 41 (d := d_law) rfl
  have F_law : FnP K "law" "law" (top 54) (He.ga K "law") w_law := F_law
  have g_law := He.glo_ok X G (c.fact 35 (f := .glo "law") rfl)
  have e := hfa.symm.trans g_law
  cases e
  have b := FunD.bindsA (ps := ["_law_script"]) F_law fun _ _ _ _ _ _ us hl => match us, hl with | [_], _ => rfl
  have hco : w_law.code = .ref (He.cT K ("law", none)).1 := by
    obtain ⟨oc, od, dV, kV, doc, pm, an, cdv, ct, osl, hw, lk, hcd, _, _⟩ := F_law.ex
    obtain ⟨co, rfl⟩ := He.codeIn_ref hcd
    have q : w_law.code = .ref co := by rw [hw]
    have lk2 : K.lookup (He.fAd K ("law", none)) = some ⟨oc, od, .func w_law, osl⟩ := lk
    show w_law.code = .ref (He.codeOf K ("law", none))
    rw [He.codeOf_eq lk2 q]
    exact q
  refine ⟨w_law, [He.cT K ("law", none)], spLaw K (He.cT K ("law", none)).2, (fun p hp => by rw [List.mem_singleton.mp hp]; exact s.empty _ (List.mem_singleton.mpr rfl)), (fun p hp => by rw [List.mem_singleton.mp hp]; exact s.out _ (List.mem_singleton.mpr rfl)), (fun p hp => by rw [List.mem_singleton.mp hp]; exact PySem.W.codeHd_of_K X (s.hd _ (List.mem_singleton.mpr rfl))), fun s v => b s [v] rfl, fun H a ns hl _ hT hS => ⟨a, ns, rfl, hS, hl, hT _ (List.mem_singleton.mpr rfl), fun _ => rfl⟩, fun base hK hG hTB => ?_⟩
  have Cal_is_integer : Cal l.prog w K mg base "is_integer" _ _ _ := ⟨⟨_, _, g_is_integer, F_is_integer.kp, (ok_is_integer F_is_integer T), b_is_integer⟩⟩
  have Cal_is_name : Cal l.prog w K mg base "is_name" _ _ _ := ⟨⟨_, _, g_is_name, F_is_name.kp, (ok_is_name F_is_name T), b_is_name⟩⟩
  have Cal_is_letter : Cal l.prog w K mg base "is_letter" _ _ _ := ⟨⟨_, _, g_is_letter, F_is_letter.kp, (ok_is_letter F_is_letter T), b_is_letter⟩⟩
  have Cal_is_thing : Cal l.prog w K mg base "is_thing" _ _ _ := ⟨⟨_, _, g_is_thing, F_is_thing.kp, (ok_is_thing F_is_thing T Cal_is_integer Cal_is_name), b_is_thing⟩⟩
  have Cal_is_term : Cal l.prog w K mg base "is_term" _ _ _ := ⟨⟨_, _, g_is_term, F_is_term.kp, (ok_is_term F_is_term T Cal_is_thing Cal_is_letter), b_is_term⟩⟩
  have Cal__is_row : Cal l.prog w K mg base "_is_row" _ _ _ := ⟨⟨_, _, g__is_row, F__is_row.kp, (ok_is_row F__is_row T Cal_is_name), b__is_row⟩⟩
  have Cal_as_atom : Cal l.prog w K mg base "as_atom" _ _ _ := ⟨⟨_, _, g_as_atom, F_as_atom.kp, (ok_as_atom F_as_atom T Cal__is_row Cal_is_term), b_as_atom⟩⟩
  have Cal__as_not : Cal l.prog w K mg base "_as_not" _ _ _ := ⟨⟨_, _, g__as_not, F__as_not.kp, (ok_as_not F__as_not T Cal_as_atom), b__as_not⟩⟩
  have Cal__as_unlike : Cal l.prog w K mg base "_as_unlike" _ _ _ := ⟨⟨_, _, g__as_unlike, F__as_unlike.kp, (ok_as_unlike F__as_unlike T Cal_is_term), b__as_unlike⟩⟩
  have Cal_as_part : Cal l.prog w K mg base "as_part" _ _ _ := ⟨⟨_, _, g_as_part, F_as_part.kp, (ok_as_part F_as_part T Cal_as_atom Cal__as_not Cal__as_unlike), b_as_part⟩⟩
  have Cal_as_body : Cal l.prog w K mg base "as_body" _ _ _ := ⟨⟨_, _, g_as_body, F_as_body.kp, (ok_as_body F_as_body T Cal_as_part), b_as_body⟩⟩
  have Cal_is_plain : Cal l.prog w K mg base "is_plain" _ _ _ := ⟨⟨_, _, g_is_plain, F_is_plain.kp, (ok_is_plain F_is_plain T), b_is_plain⟩⟩
  have Cal_terms_of : Cal l.prog w K mg base "terms_of" _ _ _ := ⟨⟨_, _, g_terms_of, F_terms_of.kp, (ok_terms_of F_terms_of T), b_terms_of⟩⟩
  have Cal_letters_in : Cal l.prog w K mg base "letters_in" _ _ _ := ⟨⟨_, _, g_letters_in, F_letters_in.kp, (ok_letters_in F_letters_in T Cal_terms_of Cal_is_letter), b_letters_in⟩⟩
  have Cal_loose_letters : Cal l.prog w K mg base "loose_letters" _ _ _ := ⟨⟨_, _, g_loose_letters, F_loose_letters.kp, (ok_loose_letters F_loose_letters T Cal_is_plain Cal_letters_in), b_loose_letters⟩⟩
  have Cal__as_by : Cal l.prog w K mg base "_as_by" _ _ _ := ⟨⟨_, _, g__as_by, F__as_by.kp, (ok_as_by F__as_by T Cal_is_letter), b__as_by⟩⟩
  have Cal__as_fold : Cal l.prog w K mg base "_as_fold" _ _ _ := ⟨⟨_, _, g__as_fold, F__as_fold.kp, (ok_as_fold F__as_fold T Cal_as_atom Cal__as_by Cal_as_body), b__as_fold⟩⟩
  have Cal__loose_in_fold : Cal l.prog w K mg base "_loose_in_fold" _ _ _ := ⟨⟨_, _, g__loose_in_fold, F__loose_in_fold.kp, (ok_loose_in_fold F__loose_in_fold T Cal_is_plain Cal_letters_in Cal_loose_letters), b__loose_in_fold⟩⟩
  have E_BadFold : ExCl l.prog w K mg base "BadFold" (He.ga K "BadFold") 1 ["index"] := ex1 O_BadFold m_BadFold (of_decide_eq_true x8) (of_decide_eq_true x10) (ok_BadFold_init F_BadFold___init__ O_BadFold RE.nB) b_BadFold___init__
  have E_Unsafe : ExCl l.prog w K mg base "Unsafe" (He.ga K "Unsafe") 1 ["index", "letter"] := ex2 O_Unsafe m_Unsafe (of_decide_eq_true x9) (of_decide_eq_true x11) (ok_Unsafe_init F_Unsafe___init__ O_Unsafe RE.nU RE.nV) b_Unsafe___init__
  have Cal__checked_folds : CalX l.prog w K mg base "_checked_folds" 9 ["folds"] (spX K (mFolds (He.ga K "BadFold") (He.ga K "Unsafe"))) := ⟨⟨_, _, g__checked_folds, F__checked_folds.kp, (ok_checked_folds F__checked_folds T Cal__as_fold Cal__loose_in_fold E_BadFold E_Unsafe), b__checked_folds⟩⟩
  have C_Folds : CalK l.prog w K mg base "Folds" (He.ga K "Folds") 10 ["self", "folds"] (mInit (He.ga K "BadFold") (He.ga K "Unsafe") (He.ga K "Folds")) := ⟨⟨_, _, hMk, ok_Folds_init F_Folds___init__ hCls no Cal__checked_folds, b_Folds___init__⟩, m_Folds⟩
  have Cal_listed : CalM l.prog w K mg base (He.ga K "Folds") "listed" 1 ["self"] (spF K (mOwn (He.ga K "Folds") .lst)) := ⟨⟨_, _, M_listed, ok_Folds_listed F_Folds_listed T hCls no, b_Folds_listed⟩, hCls⟩
  have L_ex : ∃ g, PySem.W.findIn K (.ref (He.ga K "Folds")) "__len__" = some (some (.ref g)) ∧ PySem.W.isFn K (.ref g) = true ∧ L2.FnR l.prog w K mg base CX0 1 g (spD K (mOwn (He.ga K "Folds") fun xs => .int (xs.length : Nat))) := ⟨_, M_len.at_, M_len.fn, (FnOk.raw (ok_Folds_len F_Folds___len__ T hCls no) b_Folds___len__ .nil).imp fun vs H Q E h => by rw [List.append_nil]; exact h⟩
  have O_ex : ∃ g, PySem.W.findIn K (.ref (He.ga K "Folds")) "__eq__" = some (some (.ref g)) ∧ PySem.W.isFn K (.ref g) = true ∧ L2.FnR l.prog w K mg base CX0 1 g (spD K (mEqF (He.ga K "Folds"))) := ⟨_, M_eq.at_, M_eq.fn, (FnOk.raw (ok_Folds_eq F_Folds___eq__ T I no m_Folds) b_Folds___eq__ .nil).imp fun vs H Q E h => by rw [List.append_nil]; exact h⟩
  have Cal__law_start : Cal l.prog w K mg base "_law_start" _ _ _ := ⟨⟨_, _, g__law_start, F__law_start.kp, (ok_start F__law_start T), b__law_start⟩⟩
  have Cal__law_draw : Cal l.prog w K mg base "_law_draw" 1 ["_law_stream", "_law_many"] (spR (Strm [((He.cT K ("law", none)).2, qLam)]) K (mDraw [((He.cT K ("law", none)).2, qLam)])) := ⟨⟨_, _, g__law_draw, F__law_draw.kp, FnOk.imp (ok_draw F__law_draw T) draw_R, b__law_draw⟩⟩
  have Cal__law_pick : Cal l.prog w K mg base "_law_pick" _ _ _ := ⟨⟨_, _, g__law_pick, F__law_pick.kp, (ok_L_pick F__law_pick T Cal__law_draw), b__law_pick⟩⟩
  have Cal__law_mixed : Cal l.prog w K mg base "_law_mixed" _ _ _ := ⟨⟨_, _, g__law_mixed, F__law_mixed.kp, (ok_L_mixed F__law_mixed T Cal__law_draw), b__law_mixed⟩⟩
  have Cal__law_each_once : Cal l.prog w K mg base "_law_each_once" _ _ _ := ⟨⟨_, _, g__law_each_once, F__law_each_once.kp, (ok_L_each_once F__law_each_once T), b__law_each_once⟩⟩
  have Cal__law_is_letter : Cal l.prog w K mg base "_law_is_letter" _ _ _ := ⟨⟨_, _, g__law_is_letter, F__law_is_letter.kp, (ok_L_is_letter F__law_is_letter T), b__law_is_letter⟩⟩
  have Cal__law_letters : Cal l.prog w K mg base "_law_letters" _ _ _ := ⟨⟨_, _, g__law_letters, F__law_letters.kp, (ok_L_letters F__law_letters T Cal__law_each_once Cal__law_is_letter), b__law_letters⟩⟩
  have Cal__law_things : Cal l.prog w K mg base "_law_things" _ _ _ := ⟨⟨_, _, g__law_things, F__law_things.kp, (ok_L_things F__law_things T Cal__law_mixed), b__law_things⟩⟩
  have Cal__law_shape : Cal l.prog w K mg base "_law_shape" _ _ _ := ⟨⟨_, _, g__law_shape, F__law_shape.kp, (ok_L_shape F__law_shape T Cal__law_mixed Cal__law_draw), b__law_shape⟩⟩
  have Cal__law_body : Cal l.prog w K mg base "_law_body" _ _ _ := ⟨⟨_, _, g__law_body, F__law_body.kp, (ok_L_body F__law_body T Cal__law_pick Cal__law_draw Cal__law_each_once Cal__law_is_letter), b__law_body⟩⟩
  have Cal__law_w_fold : Cal l.prog w K mg base "_law_w_fold" _ _ _ := ⟨⟨_, _, g__law_w_fold, F__law_w_fold.kp, (ok_L_w_fold F__law_w_fold T Cal__law_pick Cal__law_mixed Cal__law_draw Cal__law_body Cal__law_letters), b__law_w_fold⟩⟩
  have Cal__law_bent : Cal l.prog w K mg base "_law_bent" _ _ _ := ⟨⟨_, _, g__law_bent, F__law_bent.kp, (ok_L_bent F__law_bent T Cal__law_pick), b__law_bent⟩⟩
  have Cal__law_loose : Cal l.prog w K mg base "_law_loose" _ _ _ := ⟨⟨_, _, g__law_loose, F__law_loose.kp, (ok_L_loose F__law_loose T Cal__law_pick), b__law_loose⟩⟩
  have Cal__law_w_loose : Cal l.prog w K mg base "_law_w_loose" 7 ["_law_stream", "_law_thing"] (spR (Strm [((He.cT K ("law", none)).2, qLam)]) K (mLoose [((He.cT K ("law", none)).2, qLam)] 6)) := ⟨⟨_, _, g__law_w_loose, F__law_w_loose.kp, ok_L_w_loose F__law_w_loose T Cal__law_draw g__law_w_loose F__law_w_loose.kp b__law_w_loose 6, b__law_w_loose⟩⟩
  have Cal__law_same : Cal l.prog w K mg base "_law_same" 7 ["_law_found", "_law_due"] (spD K (mSame 6)) := ⟨⟨_, _, g__law_same, F__law_same.kp, ok_L_same F__law_same T g__law_same F__law_same.kp b__law_same 6, b__law_same⟩⟩
  exact ok_law F_law hco Cal__law_start fun {A outer s H F0 H0 Z0 E} hr => law_rest T RE I O_ex (He.eqO_ok x16) L_ex Cal_listed C_Folds g__law_tried F__law_tried b__law_tried (hTB _ (List.mem_singleton.mpr rfl)) Cal__law_shape Cal__law_draw Cal__law_w_fold Cal__law_things Cal__law_pick Cal__law_w_loose Cal__law_same Cal__law_bent Cal__law_loose hr
end L31

set_option Elab.async false
set_option linter.all false
set_option maxRecDepth 100000
set_option maxHeartbeats 0
namespace L31
open PySem PySem.Spec PyProof.Rows L2
abbrev RR : PySem.W.OpenRow := PySem.W.OpenLaw.row PySem.Challenge.rw_rulehouse_k31_folds_made
abbrev hkX : PySem.W.Hook := He.hookX 5 fa fn [] laws extra
def obX (s : PySem.W.SharedT) : He.AlX := He.obsX 5 fa fn [] laws extra (HandSHeadRun.getT s)
theorem obX_eq (s : PySem.W.SharedT) : obX s = hkX.obs s.abs := He.obsX_eq (HandSHeadRun.getT_eq s)
def names0 : List PySem.Str := [PySem.Str.ofString "HouseError", PySem.Str.ofString "BadFold", PySem.Str.ofString "Unsafe", PySem.Str.ofString "SMALL", PySem.Str.ofString "CAPITALS", PySem.Str.ofString "FIGURES", PySem.Str.ofString "NAME_SIGNS", PySem.Str.ofString "BARRED_NAMES", PySem.Str.ofString "LONGEST_NAME", PySem.Str.ofString "LONGEST_LETTER", PySem.Str.ofString "is_integer", PySem.Str.ofString "is_name", PySem.Str.ofString "is_thing", PySem.Str.ofString "is_letter", PySem.Str.ofString "is_term", PySem.Str.ofString "MOST_TERMS", PySem.Str.ofString "_is_row", PySem.Str.ofString "as_atom", PySem.Str.ofString "_as_not", PySem.Str.ofString "_as_unlike", PySem.Str.ofString "as_part", PySem.Str.ofString "as_body", PySem.Str.ofString "is_plain", PySem.Str.ofString "terms_of", PySem.Str.ofString "letters_in", PySem.Str.ofString "loose_letters", PySem.Str.ofString "WORDS", PySem.Str.ofString "MOST_HEAD_TERMS", PySem.Str.ofString "_as_by", PySem.Str.ofString "_as_fold", PySem.Str.ofString "_loose_in_fold", PySem.Str.ofString "_checked_folds", PySem.Str.ofString "Folds", PySem.Str.ofString "_law_start", PySem.Str.ofString "_law_draw"]
def names1 : List PySem.Str := [PySem.Str.ofString "_law_pick", PySem.Str.ofString "_law_mixed", PySem.Str.ofString "_law_same", PySem.Str.ofString "_law_each_once", PySem.Str.ofString "_law_is_letter", PySem.Str.ofString "_law_letters", PySem.Str.ofString "_law_things", PySem.Str.ofString "_law_shape", PySem.Str.ofString "_law_body", PySem.Str.ofString "_law_w_fold", PySem.Str.ofString "_law_w_loose", PySem.Str.ofString "_law_tried", PySem.Str.ofString "_law_bent", PySem.Str.ofString "_law_loose"]
def names : List PySem.Str := names0 ++ names1
theorem run (w : World) : HandSHeadRun.RunEq RR (PySem.W.view RR.prog [54]) hkX obX 4000 names w := by
  intro os
  kernel_rfl
end L31
open PySem PySem.W PySem.Calls PyProof.Rows
theorem PySem.Challenge.cw_rulehouse_k31_folds_made_holds : PySem.Challenge.rw_rulehouse_k31_folds_made.Holds := by
  w_on; o_law
  refine HandSHeadRun.head_any (r := OpenLaw.row PySem.Challenge.rw_rulehouse_k31_folds_made) (q := view (OpenLaw.row PySem.Challenge.rw_rulehouse_k31_folds_made).prog [54]) (H := L31.hkX) (ob := L31.obX) (M := 4000) (loose := L31.names) (d := HandSHeadRun.topDef (OpenLaw.row PySem.Challenge.rw_rulehouse_k31_folds_made).prog 54) (kwd := []) L31.obX_eq
    (by kernel_rfl) (fun s => by kernel_rfl) L31.run (by kernel_rfl) (by kernel_rfl) (by kernel_rfl) (by rfl) (by first | assumption | decide +kernel) (by decide +kernel) ⟨rfl, rfl, rfl, rfl, rfl, by decide +kernel⟩ ?hw ?hc
  case hw => w_witness2
  case hc =>
    refine LamX.walk_ofTsE (l := PySem.Challenge.rw_rulehouse_k31_folds_made) (n := 63) (k := 14) (x := "_law_script") (CX := fun _ => L2.CX0) rfl (by decide) (by kernel_rfl) ⟨rfl, by decide, by decide⟩ ?F (fun _ _ _ _ _ z => z)
    intro w mg fa h Y G hmg0
    obtain ⟨K, KX, c⟩ := Y
    have hmg : mg ("law" : PySem.Str) = some (.ref fa) := by
      have e : (HandSHeadRun.topDef (OpenLaw.row PySem.Challenge.rw_rulehouse_k31_folds_made).prog 54).name = ("law" : PySem.Str) := by kernel_rfl
      rw [← e]
      exact hmg0
    exact ⟨K, KX, L31.facts KX G hmg c⟩

