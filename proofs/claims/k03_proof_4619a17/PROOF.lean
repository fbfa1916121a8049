import PyProof.Rows.All
import Wide.All
import OpenK.AllK
import Wide.FinOn
import HandS.ForMost
import HandS.IsInst
import HandS.Style
import HandS.DictComp
import HandS.SetKeys
import HandS.Conv
import HandS.Zip
import HandS.NoneIn
import HandS.Defaults
import HandS.Evl
import HandS.Deep
import HandS.Codes
import HandS.Exc
import HandS.ExcInit
import KE.SortData
import KE.DataEq
import HandS.TupAny
import HandS.TupLen
import HandS.Text
import HandS.WordsDict
import HandS.SlotsOwn
import HandS.ListItems
import HandS.Lambda
import HandS.ExcField
import HandS.TryMany
import HandS.TupMul
import HandS.WordsExc
import KE.GoesEnum
import KE.SortKeyHeap
import HandS.SortKw
import OpenK.KMeth
import HandS.Set
import HandS.Strs
import HandS.SetFor
import HandS.HeadHook4
import HandS.HeadWalk
import KE.KStateDown
import Lean
import HandS.Head0
import HandS.Head1
import HandS.Head2
import HandS.HeadEnd
import PySem.Challenge.RW_rulehouse_k03_rules_kept
set_option Elab.async false
set_option linter.all false
set_option maxRecDepth 100000
set_option maxHeartbeats 4000000
/-! Data, and what of a heap is data: a layer of its own over the hand layer. -/
namespace Q
open PySem PySem.Spec PyProof.Rows L2
/-- a value of Python as data, whole -/
inductive D where
  | non | bl (b : Bool) | int (i : Int) | str (x : Str)
  | lst (xs : List D) | tup (xs : List D) | dct (ks vs : List D) | dtt (ks vs : List D)
  | ins (C : Addr) (ns : List Str) (xs : List D)
  | raw (v : V)
def kD : Key → D
  | .inl i => .int i
  | .inr x => .str x
def tD (ks : List Key) : D := .tup (ks.map kD)
mutual
inductive Rep (K : PySem.W.Frag) (F : Hp) : V → D → Prop
  | non : Rep K F .non .non
  | bl (b : Bool) : Rep K F (.bl b) (.bl b)
  | int (i : Int) : Rep K F (.int i) (.int i)
  | str (x : Str) : Rep K F (.str x) (.str x)
  | lst {a : Addr} {vs : List V} {ds : List D} : F a = some (.lst vs) → Reps K F vs ds → Rep K F (.ref a) (.lst ds)
  | tup {a : Addr} {vs : List V} {ds : List D} : SqT K F a vs → Reps K F vs ds → Rep K F (.ref a) (.tup ds)
  | dK {a : Addr} {kvs : List (Key × V)} {ks ds : List D} : F a = some (.dK kvs) → ks = kvs.map (fun p => kD p.1) → Reps K F (kvs.map (·.2)) ds → Rep K F (.ref a) (.dct ks ds)
  | dT {a : Addr} {kvs : List (List Key × V)} {ks ds : List D} : F a = some (.dT kvs) → ks = kvs.map (fun p => tD p.1) → Reps K F (kvs.map (·.2)) ds → Rep K F (.ref a) (.dtt ks ds)
  | ins {a C dx : Addr} {fs : List (Str × V)} {ns : List Str} {ds : List D} : F a = some (.ins C dx fs) → ns = fs.map (·.1) → Reps K F (fs.map (·.2)) ds → Rep K F (.ref a) (.ins C ns ds)
  | raw (v : V) : Rep K F v (.raw v)
inductive Reps (K : PySem.W.Frag) (F : Hp) : List V → List D → Prop
  | nil : Reps K F [] []
  | cons {v : V} {vs : List V} {d : D} {ds : List D} : Rep K F v d → Reps K F vs ds → Reps K F (v :: vs) (d :: ds)
end
theorem SqL.same {K : PySem.W.Frag} {F F' : Hp} {a : Addr} {vs : List V} (e : Same F F') (h : SqL K F a vs) : SqL K F' a vs := by
  rcases h with (h | ⟨o, h⟩) | h
  · exact .inl (.inl (e _ _ h))
  · exact .inl (.inr ⟨o, e _ _ h⟩)
  · exact .inr h
theorem SqT.same {K : PySem.W.Frag} {F F' : Hp} {a : Addr} {vs : List V} (e : Same F F') (h : SqT K F a vs) : SqT K F' a vs := by
  rcases h with (h | ⟨o, h⟩) | h
  · exact .inl (.inl (e _ _ h))
  · exact .inl (.inr ⟨o, e _ _ h⟩)
  · exact .inr h
section
variable {K : PySem.W.Frag} {F F' : Hp}
mutual
theorem Rep.same (e : Same F F') : ∀ {v : V} {d : D}, Rep K F v d → Rep K F' v d
  | _, _, .non => .non
  | _, _, .bl b => .bl b
  | _, _, .int i => .int i
  | _, _, .str x => .str x
  | _, _, .lst h r => .lst (e _ _ h) (Reps.same e r)
  | _, _, .tup h r => .tup (SqT.same e h) (Reps.same e r)
  | _, _, .dK h n r => .dK (e _ _ h) n (Reps.same e r)
  | _, _, .dT h n r => .dT (e _ _ h) n (Reps.same e r)
  | _, _, .ins h n r => .ins (e _ _ h) n (Reps.same e r)
  | _, _, .raw v => .raw v
theorem Reps.same (e : Same F F') : ∀ {vs : List V} {ds : List D}, Reps K F vs ds → Reps K F' vs ds
  | _, _, .nil => .nil
  | _, _, .cons h t => .cons (Rep.same e h) (Reps.same e t)
end
theorem Reps.length : ∀ {vs : List V} {ds : List D}, Reps K F vs ds → vs.length = ds.length
  | _, _, .nil => rfl
  | _, _, .cons _ t => by rw [List.length_cons, List.length_cons, Reps.length t]
theorem Reps.get : ∀ {vs : List V} {ds : List D} {i : Nat} {v : V}, Reps K F vs ds → vs[i]? = some v → ∃ d, ds[i]? = some d ∧ Rep K F v d
  | _, _, _, _, .nil, e => by simp at e
  | _, _, 0, _, .cons r _, e => by simp at e; subst e; exact ⟨_, rfl, r⟩
  | _, _, i + 1, v, .cons _ t, e => by
    obtain ⟨d, h1, h2⟩ := Reps.get (i := i) (v := v) t (by simpa using e)
    exact ⟨d, by simpa using h1, h2⟩
theorem Reps.get' : ∀ {vs : List V} {ds : List D} {i : Nat} {d : D}, Reps K F vs ds → ds[i]? = some d → ∃ v, vs[i]? = some v ∧ Rep K F v d
  | _, _, _, _, .nil, e => by simp at e
  | _, _, 0, _, .cons r _, e => by simp at e; subst e; exact ⟨_, rfl, r⟩
  | _, _, i + 1, d, .cons _ t, e => by
    obtain ⟨v, h1, h2⟩ := Reps.get' (i := i) (d := d) t (by simpa using e)
    exact ⟨v, by simpa using h1, h2⟩
theorem Reps.append : ∀ {vs us : List V} {ds es : List D}, Reps K F vs ds → Reps K F us es → Reps K F (vs ++ us) (ds ++ es)
  | _, _, _, _, .nil, s => s
  | _, _, _, _, .cons r t, s => .cons r (Reps.append t s)
theorem Reps.one {v : V} {d : D} (r : Rep K F v d) : Reps K F [v] [d] := .cons r .nil
theorem Reps.snoc {vs : List V} {ds : List D} {v : V} {d : D} (h : Reps K F vs ds) (r : Rep K F v d) : Reps K F (vs ++ [v]) (ds ++ [d]) := h.append (.one r)
theorem Reps.take : ∀ {vs : List V} {ds : List D} (n : Nat), Reps K F vs ds → Reps K F (vs.take n) (ds.take n)
  | _, _, 0, _ => .nil
  | _, _, _ + 1, .nil => .nil
  | _, _, n + 1, .cons r t => .cons r (Reps.take n t)
theorem Reps.drop : ∀ {vs : List V} {ds : List D} (n : Nat), Reps K F vs ds → Reps K F (vs.drop n) (ds.drop n)
  | _, _, 0, r => r
  | _, _, _ + 1, .nil => .nil
  | _, _, n + 1, .cons _ t => Reps.drop n t
theorem Reps.set {v : V} {d : D} (r : Rep K F v d) : ∀ {vs : List V} {ds : List D} (i : Nat), Reps K F vs ds → Reps K F (vs.set i v) (ds.set i d)
  | _, _, _, .nil => .nil
  | _, _, 0, .cons _ t => .cons r t
  | _, _, i + 1, .cons q t => .cons q (Reps.set r i t)
theorem Reps.erase : ∀ {vs : List V} {ds : List D} (i : Nat), Reps K F vs ds → Reps K F (vs.eraseIdx i) (ds.eraseIdx i)
  | _, _, _, .nil => .nil
  | _, _, 0, .cons _ t => t
  | _, _, i + 1, .cons q t => .cons q (Reps.erase i t)
theorem Reps.reverse : ∀ {vs : List V} {ds : List D}, Reps K F vs ds → Reps K F vs.reverse ds.reverse
  | _, _, .nil => .nil
  | _, _, .cons r t => by rw [List.reverse_cons, List.reverse_cons]; exact (Reps.reverse t).snoc r
theorem Reps.map {α : Type} {f : α → V} {g : α → D} (h : ∀ x, Rep K F (f x) (g x)) : ∀ xs : List α, Reps K F (xs.map f) (xs.map g)
  | [] => .nil
  | x :: xs => .cons (h x) (Reps.map h xs)
end
/-! ### regions -/
/-- something that is no data: its addresses, what is told of it -/
structure Rgn where
  G : Type
  ok : G → (Addr → Prop) → Hp → Prop
  fr : ∀ {g : G} {Z : Addr → Prop} {H H' : Hp}, ok g Z H → (∀ a, Z a → H' a = H a) → ok g Z H'
  al : ∀ {g : G} {Z : Addr → Prop} {H : Hp}, ok g Z H → ∀ a, Z a → H a ≠ none
def noR : Rgn := ⟨Unit, fun _ Z _ => ∀ a, ¬ Z a, fun h _ => h, fun h a z => (h a z).elim⟩
def noG : noR.G := ()
/-- what stands in a slot: data that stays; a list or a dict of the def's own -/
inductive DV where
  | fz (d : D) | own (d : D)
structure DS (R : Rgn) where
  g : R.G
  sl : List (Option DV)
def DS.put {R : Rgn} (ρ : DS R) (i : Nat) (x : Option DV) : DS R := ⟨ρ.g, ρ.sl.set i x⟩
/-- a body runs: the heap at its entry, what of it was data, the region's addresses, what is wanted of an exception -/
structure Ctx where
  K : PySem.W.Frag
  R : Rgn
  H0 : Hp
  F0 : Hp
  Z0 : Addr → Prop
/-- a list or a dict of the def's own: it may change, what it holds stays -/
def OwnAt (K : PySem.W.Frag) (F H : Hp) (a : Addr) : D → Prop
  | .lst ds => ∃ vs, H a = some (.lst vs) ∧ Reps K F vs ds
  | .dct ks ds => ∃ kvs, H a = some (.dK kvs) ∧ ks = kvs.map (fun p => kD p.1) ∧ Reps K F (kvs.map (·.2)) ds
  | .dtt ks ds => ∃ kvs, H a = some (.dT kvs) ∧ ks = kvs.map (fun p => tD p.1) ∧ Reps K F (kvs.map (·.2)) ds
  | _ => False
theorem OwnAt.there {K : PySem.W.Frag} {F H : Hp} {a : Addr} : ∀ {d : D}, OwnAt K F H a d → H a ≠ none
  | .lst _, ⟨_, h, _⟩ => by rw [h]; exact fun z => by cases z
  | .dct _ _, ⟨_, h, _⟩ => by rw [h]; exact fun z => by cases z
  | .dtt _ _, ⟨_, h, _⟩ => by rw [h]; exact fun z => by cases z
theorem OwnAt.same {K : PySem.W.Frag} {F F' H H' : Hp} {a : Addr} (e : Same F F') (eh : H' a = H a) : ∀ {d : D}, OwnAt K F H a d → OwnAt K F' H' a d
  | .lst _, ⟨vs, h, r⟩ => ⟨vs, by rw [eh]; exact h, r.same e⟩
  | .dct _ _, ⟨vs, h, n, r⟩ => ⟨vs, by rw [eh]; exact h, n, r.same e⟩
  | .dtt _ _, ⟨vs, h, n, r⟩ => ⟨vs, by rw [eh]; exact h, n, r.same e⟩
def SlotOk (K : PySem.W.Frag) (F H : Hp) (σ : L2.St) (i : Nat) : Option (Option DV) → Prop
  | some (some (.fz d)) => ∃ v, σ[i]? = some (some v) ∧ Rep K F v d
  | some (some (.own d)) => ∃ a, σ[i]? = some (some (.ref a)) ∧ OwnAt K F H a d
  | _ => True
/-- slot i holds an object of one's own at a -/
def Owns (σ : L2.St) (sl : List (Option DV)) (i : Nat) (a : Addr) : Prop := σ[i]? = some (some (.ref a)) ∧ ∃ d, sl[i]? = some (some (.own d))
structure St (c : Ctx) (F : Hp) (O : List Addr) (σ : L2.St) (ρ : DS c.R) (H : Hp) : Prop where
  len : σ.length = ρ.sl.length
  sub : Same F H
  old : Same c.F0 F
  new : ∀ b, F b ≠ none → c.F0 b = none → c.H0 b = none
  keep : ∀ b o, c.H0 b = some o → ¬ c.Z0 b → H b = some o
  live : ∀ b, c.H0 b ≠ none → H b ≠ none
  slots : ∀ i, SlotOk c.K F H σ i ρ.sl[i]?
  mine : ∀ i a, Owns σ ρ.sl i a → F a = none ∧ c.H0 a = none ∧ a ∉ O
  inj : ∀ i j a, Owns σ ρ.sl i a → Owns σ ρ.sl j a → i = j
  out : ∀ a ∈ O, F a = none ∧ c.H0 a = none ∧ H a ≠ none
  reg : ∃ Z, c.R.ok ρ.g Z H ∧ (∀ b, Z b → F b = none) ∧ (∀ b, Z b → ¬ c.Z0 b → c.H0 b = none) ∧ (∀ a ∈ O, ¬ Z a) ∧ ∀ i a, Owns σ ρ.sl i a → ¬ Z a
theorem Owns.there {K : PySem.W.Frag} {F H : Hp} {σ : L2.St} {sl : List (Option DV)} {i : Nat} {a : Addr} (h : Owns σ sl i a) (s : SlotOk K F H σ i sl[i]?) : ∃ d, sl[i]? = some (some (.own d)) ∧ OwnAt K F H a d := by
  obtain ⟨h1, d, h2⟩ := h
  rw [h2] at s
  obtain ⟨b, e, q⟩ := s
  rw [h1] at e
  cases e
  exact ⟨d, h2, q⟩
/-! ### new objects -/
inductive Al (F H : Hp) : Hp → Hp → Prop
  | no : Al F H F H
  | new {F' H' : Hp} {p : Addr} (o : HO) : Al F H F' H' → H' p = none → Al F H (upd F' p o) (upd H' p o)
theorem Al.one {F H : Hp} {p : Addr} {o : HO} (h : H p = none) : Al F H (upd F p o) (upd H p o) := .new o .no h
theorem Same.upd_at {F H : Hp} {p : Addr} {o : HO} (h : Same F H) (n : H p = none) : Same F (upd F p o) := fun b u e => by
  rw [upd_ne (ne_of_none (h _ _ e) n)]; exact e
theorem Same.upd2 {F H : Hp} {p : Addr} {o : HO} (h : Same F H) : Same (upd F p o) (upd H p o) := fun b u e => by
  by_cases z : b = p
  · subst z; rw [upd_same] at e ⊢; exact e
  · rw [upd_ne z] at e ⊢; exact h _ _ e
theorem Al.sub {F H F' H' : Hp} (a : Al F H F' H') (s : Same F H) : Same F' H' := by
  induction a with
  | no => exact s
  | new o _ _ ih => exact Same.upd2 ih
theorem Al.fs {F H F' H' : Hp} (a : Al F H F' H') (s : Same F H) : Same F F' := by
  induction a with
  | no => exact Same.refl _
  | new o b h ih => exact ih.trans (Same.upd_at (b.sub s) h)
theorem Al.hs {F H F' H' : Hp} (a : Al F H F' H') : Same H H' := by
  induction a with
  | no => exact Same.refl _
  | new o b h ih => exact ih.trans fun b u e => by rw [upd_ne (ne_of_none e h)]; exact e
theorem Al.old {F H F' H' : Hp} (a : Al F H F' H') {b : Addr} (n : F' b ≠ none) : F b ≠ none ∨ H b = none := by
  induction a with
  | no => exact .inl n
  | @new F1 H1 p o a1 h ih =>
    by_cases z : b = p
    · subst z
      exact .inr (a1.hs.free h)
    · rw [upd_ne z] at n
      exact ih n
theorem Al.at {F H F' H' : Hp} (a : Al F H F' H') {b : Addr} (n : H b ≠ none) : H' b = H b := by
  cases h : H b with
  | none => exact absurd h n
  | some o => exact a.hs _ _ h
theorem Al.trans {F H F1 H1 F2 H2 : Hp} (a : Al F H F1 H1) (b : Al F1 H1 F2 H2) : Al F H F2 H2 := by
  induction b with
  | no => exact a
  | new o _ h ih => exact .new o ih h
section
variable {c : Ctx} {F F' H H' : Hp} {O : List Addr} {σ : L2.St} {ρ : DS c.R}
/-- the heap grows: new data, the same all else -/
structure Grow (F H F' H' : Hp) : Prop where
  fs : Same F F'
  sub : Same F' H'
  hs : Same H H'
  old : ∀ b, F' b ≠ none → F b ≠ none ∨ H b = none
theorem Al.grow (a : Al F H F' H') (s : Same F H) : Grow F H F' H' := ⟨a.fs s, a.sub s, a.hs, fun _ => a.old⟩
theorem Grow.refl (s : Same F H) : Grow F H F H := ⟨Same.refl _, s, Same.refl _, fun _ h => .inl h⟩
theorem Same.live {H H' : Hp} (e : Same H H') {b : Addr} (h : H b ≠ none) : H' b = H b := by
  cases q : H b with
  | none => exact absurd q h
  | some o => exact e _ _ q
theorem St.grow (S : St c F O σ ρ H) (g : Grow F H F' H') : St c F' O σ ρ H' where
  len := S.len
  sub := g.sub
  old := S.old.trans g.fs
  new := fun b n e => by
    rcases g.old b n with q | q
    · exact S.new b q e
    · cases h : c.H0 b with
      | none => rfl
      | some o => exact absurd q (S.live b (by rw [h]; exact fun z => by cases z))
  keep := fun b o e n => g.hs _ _ (S.keep b o e n)
  live := fun b n => by rw [Same.live g.hs (S.live b n)]; exact S.live b n
  slots := fun i => by
    have h := S.slots i
    cases e : ρ.sl[i]? with
    | none => trivial
    | some x =>
      rw [e] at h
      cases x with
      | none => trivial
      | some x =>
        cases x with
        | fz d =>
          obtain ⟨v, h1, h2⟩ := h
          exact ⟨v, h1, h2.same g.fs⟩
        | own d =>
          obtain ⟨a, h1, h2⟩ := h
          exact ⟨a, h1, h2.same g.fs (Same.live g.hs h2.there)⟩
  mine := fun i a h => by
    obtain ⟨m1, m2, m3⟩ := S.mine i a h
    refine ⟨?_, m2, m3⟩
    obtain ⟨d, _, q⟩ := h.there (S.slots i)
    cases e : F' a with
    | none => rfl
    | some o =>
      rcases g.old a (by rw [e]; exact fun z => by cases z) with z | z
      · exact absurd m1 z
      · exact absurd z q.there
  inj := S.inj
  out := fun a h => by
    obtain ⟨m1, m2, m3⟩ := S.out a h
    refine ⟨?_, m2, by rw [Same.live g.hs m3]; exact m3⟩
    cases e : F' a with
    | none => rfl
    | some o =>
      rcases g.old a (by rw [e]; exact fun z => by cases z) with z | z
      · exact absurd m1 z
      · exact absurd z m3
  reg := by
    obtain ⟨Z, r, z1, z2, z3, z4⟩ := S.reg
    refine ⟨Z, c.R.fr r fun a h => Same.live g.hs (c.R.al r a h), fun b h => ?_, z2, z3, z4⟩
    cases e : F' b with
    | none => rfl
    | some o =>
      rcases g.old b (by rw [e]; exact fun z => by cases z) with z | z
      · exact absurd (z1 b h) z
      · exact absurd z (c.R.al r b h)
theorem set_get {α : Type} {l : List α} {i j : Nat} {x : α} : (l.set i x)[j]? = if i = j then (if i < l.length then some x else none) else l[j]? := by
  by_cases h : i = j
  · subst h
    rw [if_pos rfl]
    by_cases q : i < l.length
    · rw [if_pos q]; simp [q]
    · rw [if_neg q]; simp; omega
  · rw [if_neg h]; simp [h]
/-- a slot is set to data -/
theorem St.setF (S : St c F O σ ρ H) {v : V} {d : D} (r : Rep c.K F v d) (i : Nat) : St c F O (σ.set i (some v)) (ρ.put i (some (.fz d))) H := by
  have own : ∀ j a, Owns (σ.set i (some v)) (ρ.put i (some (.fz d))).sl j a → Owns σ ρ.sl j a := fun j a h => by
    obtain ⟨h1, x, h2⟩ := h
    have h2 : (ρ.sl.set i (some (.fz d)))[j]? = some (some (.own x)) := h2
    rw [set_get] at h1 h2
    by_cases e : i = j
    · rw [if_pos e] at h2
      split at h2 <;> cases h2
    · rw [if_neg e] at h1 h2
      exact ⟨h1, x, h2⟩
  refine ⟨by show (σ.set i _).length = (ρ.sl.set i _).length; rw [List.length_set, List.length_set]; exact S.len, S.sub, S.old, S.new, S.keep, S.live, fun j => ?_, fun j a h => S.mine j a (own j a h), fun j k a h h' => S.inj j k a (own j a h) (own k a h'), S.out, ?_⟩
  · show SlotOk c.K F H (σ.set i (some v)) j (ρ.sl.set i (some (.fz d)))[j]?
    rw [set_get]
    by_cases e : i = j
    · subst e
      rw [if_pos rfl]
      by_cases q : i < ρ.sl.length
      · rw [if_pos q]
        exact ⟨v, by rw [set_get, if_pos rfl, if_pos (by rw [S.len]; exact q)], r⟩
      · rw [if_neg q]
        trivial
    · rw [if_neg e]
      have h := S.slots j
      have e2 : (σ.set i (some v))[j]? = σ[j]? := by rw [set_get, if_neg e]
      cases q : ρ.sl[j]? with
      | none => trivial
      | some x =>
        rw [q] at h
        cases x with
        | none => trivial
        | some x =>
          cases x with
          | fz d =>
            obtain ⟨v, h1, h2⟩ := h
            exact ⟨v, by rw [e2]; exact h1, h2⟩
          | own d =>
            obtain ⟨a, h1, h2⟩ := h
            exact ⟨a, by rw [e2]; exact h1, h2⟩
  · obtain ⟨Z, r, z1, z2, z3, z4⟩ := S.reg
    exact ⟨Z, r, z1, z2, z3, fun j a h => z4 j a (own j a h)⟩
end
end Q

set_option Elab.async false
set_option linter.all false
set_option maxRecDepth 100000
set_option maxHeartbeats 4000000
namespace Q
open PySem PySem.Spec PyProof.Rows L2
/-! ### what is read: data, or an object of the def's own -/
def VRep (K : PySem.W.Frag) (F : Hp) (σ : L2.St) (sl : List (Option DV)) (v : V) (d : D) : Bool → Prop
  | false => Rep K F v d
  | true => Rep K F v d ∨ ∃ (a : Addr) (i : Nat), v = V.ref a ∧ σ[i]? = some (some (V.ref a)) ∧ sl[i]? = some (some (DV.own d))
/-- as it is read: its top in the heap, what it holds among the data -/
inductive BV (K : PySem.W.Frag) (F H : Hp) (v : V) (d : D) : Prop
  | rep (r : Rep K F v d)
  | own {a : Addr} (e : v = .ref a) (o : OwnAt K F H a d)
section
variable {c : Ctx} {F F' H H' : Hp} {O : List Addr} {σ : L2.St} {ρ : DS c.R} {v : V} {d : D} {b : Bool}
theorem VRep.bv (r : VRep c.K F σ ρ.sl v d b) (S : St c F O σ ρ H) : BV c.K F H v d := by
  cases b with
  | false => exact .rep r
  | true =>
    rcases r with r | ⟨a, i, rfl, h1, h2⟩
    · exact .rep r
    · have h := S.slots i
      rw [h2] at h
      obtain ⟨a', e, o⟩ := h
      rw [h1] at e
      cases e
      exact .own rfl o
theorem VRep.grow (r : VRep c.K F σ ρ.sl v d b) (e : Same F F') : VRep c.K F' σ ρ.sl v d b := by
  cases b with
  | false => exact Rep.same e r
  | true =>
    rcases r with r | r
    · exact .inl (r.same e)
    · exact .inr r
theorem VRep.up (r : Rep c.K F v d) : VRep c.K F σ ρ.sl v d b := by
  cases b with
  | false => exact r
  | true => exact .inl r
end
section
variable {K : PySem.W.Frag} {F H : Hp} {v : V}
theorem BV.lst {ds : List D} (h : BV K F H v (.lst ds)) (s : Same F H) : ∃ a vs, v = .ref a ∧ H a = some (.lst vs) ∧ Reps K F vs ds := by
  rcases h with r | ⟨e, o⟩
  · cases r with
    | lst h r => exact ⟨_, _, rfl, s _ _ h, r⟩
  · obtain ⟨vs, h, r⟩ := o
    exact ⟨_, _, e, h, r⟩
theorem BV.tup {ds : List D} (h : BV K F H v (.tup ds)) (s : Same F H) : ∃ a vs, v = .ref a ∧ SqT K H a vs ∧ Reps K F vs ds := by
  rcases h with r | ⟨e, o⟩
  · cases r with
    | tup h r => exact ⟨_, _, rfl, SqT.same s h, r⟩
  · exact o.elim
theorem BV.int {i : Int} (h : BV K F H v (.int i)) : v = .int i := by
  rcases h with r | ⟨e, o⟩
  · cases r; rfl
  · exact o.elim
theorem BV.str {x : Str} (h : BV K F H v (.str x)) : v = .str x := by
  rcases h with r | ⟨e, o⟩
  · cases r; rfl
  · exact o.elim
theorem BV.bl {x : Bool} (h : BV K F H v (.bl x)) : v = .bl x := by
  rcases h with r | ⟨e, o⟩
  · cases r; rfl
  · exact o.elim
theorem BV.non (h : BV K F H v .non) : v = .non := by
  rcases h with r | ⟨e, o⟩
  · cases r; rfl
  · exact o.elim
theorem BV.raw {u : V} (h : BV K F H v (.raw u)) : v = u := by
  rcases h with r | ⟨e, o⟩
  · cases r; rfl
  · exact o.elim
theorem BV.dct {ks ds : List D} (h : BV K F H v (.dct ks ds)) (s : Same F H) : ∃ a kvs, v = .ref a ∧ H a = some (.dK kvs) ∧ ks = kvs.map (fun p => kD p.1) ∧ Reps K F (kvs.map (·.2)) ds := by
  rcases h with r | ⟨e, o⟩
  · cases r with
    | dK h n r => exact ⟨_, _, rfl, s _ _ h, n, r⟩
  · obtain ⟨kvs, o⟩ := o
    exact ⟨_, kvs, e, o⟩
theorem BV.dtt {ks ds : List D} (h : BV K F H v (.dtt ks ds)) (s : Same F H) : ∃ a kvs, v = .ref a ∧ H a = some (.dT kvs) ∧ ks = kvs.map (fun p => tD p.1) ∧ Reps K F (kvs.map (·.2)) ds := by
  rcases h with r | ⟨e, o⟩
  · cases r with
    | dT h n r => exact ⟨_, _, rfl, s _ _ h, n, r⟩
  · obtain ⟨kvs, o⟩ := o
    exact ⟨_, kvs, e, o⟩
theorem BV.ins {C : Addr} {ns : List Str} {ds : List D} (h : BV K F H v (.ins C ns ds)) (s : Same F H) : ∃ a dx fs, v = .ref a ∧ H a = some (.ins C dx fs) ∧ ns = fs.map (·.1) ∧ Reps K F (fs.map (·.2)) ds := by
  rcases h with r | ⟨e, o⟩
  · cases r with
    | ins h n r => exact ⟨_, _, _, rfl, s _ _ h, n, r⟩
  · exact o.elim
end
/-! ### an expression's reading over data -/
abbrev WE (R : Rgn) := DS R → (D → DS R → Prop) → Prop
abbrev WB (R : Rgn) := DS R → (Bool → DS R → Prop) → Prop
abbrev WA (R : Rgn) := DS R → (List D → DS R → Prop) → Prop
/-- pu: nothing but new objects comes of it; bo: it may be an object of the def's own -/
def liftE (c : Ctx) (pu bo : Bool) (w : WE c.R) : TE := fun σ H Q => ∃ (ρ : DS c.R) (F : Hp) (O : List Addr) (Kk : D → DS c.R → Prop), St c F O σ ρ H ∧ w ρ Kk ∧
  ∀ d ρ' v F' H', Kk d ρ' → St c F' O σ ρ' H' → Same F F' → (∀ a ∈ O, H' a = H a) → (pu = true → ρ' = ρ ∧ Grow F H F' H') → VRep c.K F' σ ρ'.sl v d bo → Q v H'
def liftT (c : Ctx) (pu : Bool) (w : WB c.R) : TT := fun σ H Q => ∃ (ρ : DS c.R) (F : Hp) (O : List Addr) (Kk : Bool → DS c.R → Prop), St c F O σ ρ H ∧ w ρ Kk ∧
  ∀ d ρ' F' H', Kk d ρ' → St c F' O σ ρ' H' → Same F F' → (∀ a ∈ O, H' a = H a) → (pu = true → ρ' = ρ ∧ Grow F H F' H') → Q d H'
def liftA (c : Ctx) (pu : Bool) (w : WA c.R) : TA := fun σ H Q => ∃ (ρ : DS c.R) (F : Hp) (O : List Addr) (Kk : List D → DS c.R → Prop), St c F O σ ρ H ∧ w ρ Kk ∧
  ∀ ds ρ' vs F' H', Kk ds ρ' → St c F' O σ ρ' H' → Same F F' → (∀ a ∈ O, H' a = H a) → (pu = true → ρ' = ρ ∧ Grow F H F' H') → Reps c.K F' vs ds → Q vs H'
/-- a fresh list or dict -/
def ObjD (K : PySem.W.Frag) (F : Hp) : HO → D → Prop
  | .lst vs, .lst ds => Reps K F vs ds
  | .dK kvs, .dct ks ds => ks = kvs.map (fun p => kD p.1) ∧ Reps K F (kvs.map (·.2)) ds
  | .dT kvs, .dtt ks ds => ks = kvs.map (fun p => tD p.1) ∧ Reps K F (kvs.map (·.2)) ds
  | _, _ => False
def liftF (c : Ctx) (pu : Bool) (w : WE c.R) : TE := fun σ H Q => ∃ (ρ : DS c.R) (F : Hp) (O : List Addr) (Kk : D → DS c.R → Prop), St c F O σ ρ H ∧ w ρ Kk ∧
  ∀ d ρ' p o F' H', Kk d ρ' → St c F' O σ ρ' H' → Same F F' → (∀ a ∈ O, H' a = H a) → (pu = true → ρ' = ρ ∧ Grow F H F' H') → H' p = none → ObjD c.K F' o d → Q (.ref p) (upd H' p o)
structure DE (X : Cx) (c : Ctx) (pu bo : Bool) (e : Expr) (w : WE c.R) : Prop where
  pe : PE X e (liftE c pu bo w)
  kk : X.K = c.K
structure FE (X : Cx) (c : Ctx) (pu : Bool) (e : Expr) (w : WE c.R) : Prop where
  pe : PE X e (liftF c pu w)
  kk : X.K = c.K
structure DT (X : Cx) (c : Ctx) (pu : Bool) (e : Expr) (w : WB c.R) : Prop where
  pt : PT X e (liftT c pu w)
structure DA (X : Cx) (c : Ctx) (pu : Bool) (es : List Expr) (w : WA c.R) : Prop where
  pa : PA X es (liftA c pu w)
theorem _root_.L2.PE.imp {X : Cx} {e : Expr} {t u : TE} (h : PE X e t) (i : ∀ σ H Q, u σ H Q → t σ H Q) : PE X e u := ⟨fun pins s σ H Q I q => h.run pins s σ H Q I (i σ H Q q)⟩
theorem _root_.L2.PT.imp {X : Cx} {e : Expr} {t u : TT} (h : PT X e t) (i : ∀ σ H Q, u σ H Q → t σ H Q) : PT X e u := ⟨fun pins s σ H Q I q => h.run pins s σ H Q I (i σ H Q q)⟩
theorem _root_.L2.PW.imp {X : Cx} {e : Expr} {t u : TT} (h : PW X e t) (i : ∀ σ H Q, u σ H Q → t σ H Q) : PW X e u := ⟨fun wh pins s σ H Q I q => h.run wh pins s σ H Q I (i σ H Q q)⟩
theorem _root_.L2.PA.imp {X : Cx} {e : List Expr} {t u : TA} (h : PA X e t) (i : ∀ σ H Q, u σ H Q → t σ H Q) : PA X e u := ⟨fun pos pins s σ H Q I q => h.run pos pins s σ H Q I (i σ H Q q)⟩
theorem _root_.L2.PS.imp {X : Cx} {e : Stmt} {t u : TS} (h : PS X e t) (i : ∀ D σ H, u D σ H → t D σ H) : PS X e u := ⟨fun pins s σ H D I q => h.run pins s σ H D I (i D σ H q)⟩
theorem _root_.L2.PSs.imp {X : Cx} {e : List Stmt} {t u : TS} (h : PSs X e t) (i : ∀ D σ H, u D σ H → t D σ H) : PSs X e u := ⟨fun pins s σ H D I q => h.run pins s σ H D I (i D σ H q)⟩
theorem Grow.trans {F H F1 H1 F2 H2 : Hp} (a : Grow F H F1 H1) (b : Grow F1 H1 F2 H2) : Grow F H F2 H2 :=
  ⟨a.fs.trans b.fs, b.sub, a.hs.trans b.hs, fun x n => by
    rcases b.old x n with q | q
    · exact a.old x q
    · exact .inr (a.hs.free q)⟩
theorem Grow.at {F H F' H' : Hp} (g : Grow F H F' H') {a : Addr} (n : H a ≠ none) : H' a = H a := Same.live g.hs n
section
variable {X : Cx} {c : Ctx} {e a b : Expr} {es : List Expr} {pos : Pos}
/-! #### names, constants -/
def wC (R : Rgn) (d : D) : WE R := fun ρ K => K d ρ
theorem de_of_c {v : V} {d : D} (h : PE X e (tC v)) (r : ∀ F, Rep c.K F v d) (hk : X.K = c.K) : DE X c true false e (wC c.R d) :=
  ⟨h.imp fun σ H Q ⟨ρ, F, O, Kk, S, w, k⟩ => k d ρ v F H w S (Same.refl _) (fun _ _ => rfl) (fun _ => ⟨rfl, Grow.refl S.sub⟩) (r F), hk⟩
theorem de_int {i : Int} {j} (hk : X.K = c.K := by rfl) : DE X c true false (.Constant (.int i) j pos) (wC c.R (.int i)) := de_of_c pe_int (fun _ => .int i) hk
theorem de_bl {i : Bool} {j} (hk : X.K = c.K := by rfl) : DE X c true false (.Constant (.bool i) j pos) (wC c.R (.bl i)) := de_of_c pe_bl (fun _ => .bl i) hk
theorem de_non {j} (hk : X.K = c.K := by rfl) : DE X c true false (.Constant .none j pos) (wC c.R .non) := de_of_c pe_non (fun _ => .non) hk
theorem de_str {x : Str} {j} (hk : X.K = c.K := by rfl) : DE X c true false (.Constant (.str x) j pos) (wC c.R (.str x)) := de_of_c pe_str (fun _ => .str x) hk
/-- a name that holds data -/
def wV {R : Rgn} (i : Nat) : WE R := fun ρ K => ∃ d, ρ.sl[i]? = some (some (.fz d)) ∧ K d ρ
theorem de_v {i : Nat} {x : Str} (hN : X.N[i]? = some x := by rfl) (hv : Vis X.env.scope x := by first | exact .inl rfl | exact .inr (.inl rfl) | exact .inr (.inr rfl)) (hk : X.K = c.K := by rfl)
    (hd : (x == ("__debug__" : Str)) = false := by decide) (hcd : (x == ("__classdict__" : Str)) = false := by decide) : DE X c true false (.Name x pos) (wV i) :=
  ⟨(pe_var hN hv hd hcd).imp fun σ H Q ⟨ρ, F, O, Kk, S, ⟨d, hd, w⟩, k⟩ => by
    have h := S.slots i
    rw [hd] at h
    obtain ⟨v, h1, h2⟩ := h
    exact ⟨v, h1, k d ρ v F H w S (Same.refl _) (fun _ _ => rfl) (fun _ => ⟨rfl, Grow.refl S.sub⟩) h2⟩, hk⟩
/-- a name that may hold an object of the def's own, read -/
def wB {R : Rgn} (i : Nat) : WE R := fun ρ K => (∃ d, ρ.sl[i]? = some (some (.fz d)) ∧ K d ρ) ∨ ∃ d, ρ.sl[i]? = some (some (.own d)) ∧ K d ρ
theorem de_b {i : Nat} {x : Str} (hN : X.N[i]? = some x := by rfl) (hv : Vis X.env.scope x := by first | exact .inl rfl | exact .inr (.inl rfl) | exact .inr (.inr rfl)) (hk : X.K = c.K := by rfl)
    (hd : (x == ("__debug__" : Str)) = false := by decide) (hcd : (x == ("__classdict__" : Str)) = false := by decide) : DE X c true true (.Name x pos) (wB i) :=
  ⟨(pe_var hN hv hd hcd).imp fun σ H Q ⟨ρ, F, O, Kk, S, w, k⟩ => by
    have h := S.slots i
    rcases w with ⟨d, hd, w⟩ | ⟨d, hd, w⟩
    · rw [hd] at h
      obtain ⟨v, h1, h2⟩ := h
      exact ⟨v, h1, k d ρ v F H w S (Same.refl _) (fun _ _ => rfl) (fun _ => ⟨rfl, Grow.refl S.sub⟩) (.inl h2)⟩
    · rw [hd] at h
      obtain ⟨a, h1, h2⟩ := h
      exact ⟨.ref a, h1, k d ρ _ F H w S (Same.refl _) (fun _ _ => rfl) (fun _ => ⟨rfl, Grow.refl S.sub⟩) (.inr ⟨a, i, rfl, h1, hd⟩)⟩, hk⟩
/-- an object of the def's own becomes data -/
theorem OwnAt.rep {K : PySem.W.Frag} {F H : Hp} {a : Addr} {o : HO} (h : H a = some o) (n : F a = none) : ∀ {d : D}, OwnAt K F H a d → Rep K (upd F a o) (.ref a) d
  | .lst ds, ⟨vs, e, r⟩ => by
    rw [h] at e
    cases e
    exact .lst upd_same (r.same fun b u q => by rw [upd_ne (ne_of_none q n)]; exact q)
  | .dct ks ds, ⟨vs, e, m, r⟩ => by
    rw [h] at e
    cases e
    exact .dK upd_same m (r.same fun b u q => by rw [upd_ne (ne_of_none q n)]; exact q)
  | .dtt ks ds, ⟨vs, e, m, r⟩ => by
    rw [h] at e
    cases e
    exact .dT upd_same m (r.same fun b u q => by rw [upd_ne (ne_of_none q n)]; exact q)
theorem St.freeze {F H : Hp} {O : List Addr} {σ : L2.St} {ρ : DS c.R} {i : Nat} {p : Addr} {d : D} (S : St c F O σ ρ H) (h1 : σ[i]? = some (some (.ref p))) (h2 : ρ.sl[i]? = some (some (.own d))) :
    ∃ F', Same F F' ∧ St c F' O σ (ρ.put i (some (.fz d))) H ∧ Rep c.K F' (.ref p) d := by
  have hs := S.slots i
  rw [h2] at hs
  obtain ⟨p', e, ow⟩ := hs
  rw [h1] at e
  cases e
  cases ho : H p with
  | none => exact absurd ho ow.there
  | some o =>
    have ns : Owns σ ρ.sl i p := ⟨h1, d, h2⟩
    obtain ⟨m1, m2, m3⟩ := S.mine i p ns
    have fs : Same F (upd F p o) := fun b u q => by rw [upd_ne (ne_of_none q m1)]; exact q
    have r := OwnAt.rep (K := c.K) ho m1 ow
    refine ⟨upd F p o, fs, ?_, r⟩
    have own : ∀ j q, Owns σ (ρ.put i (some (.fz d))).sl j q → Owns σ ρ.sl j q ∧ j ≠ i := fun j q ⟨g1, x, g2⟩ => by
      have g2 : (ρ.sl.set i (some (.fz d)))[j]? = some (some (.own x)) := g2
      rw [set_get] at g2
      by_cases e : i = j
      · rw [if_pos e] at g2
        split at g2 <;> cases g2
      · rw [if_neg e] at g2
        exact ⟨⟨g1, x, g2⟩, fun z => e z.symm⟩
    refine ⟨by show σ.length = (ρ.sl.set i _).length; rw [List.length_set]; exact S.len, fun b u q => ?_, S.old.trans fs, fun b n q => ?_, S.keep, S.live, fun j => ?_, fun j q h => ?_, fun j k q h h' => S.inj j k q (own j q h).1 (own k q h').1, fun q hq => ?_, ?_⟩
    · by_cases z : b = p
      · subst z; rw [upd_same] at q; rw [← q]; exact ho
      · rw [upd_ne z] at q; exact S.sub _ _ q
    · by_cases z : b = p
      · subst z; exact m2
      · rw [upd_ne z] at n; exact S.new b n q
    · show SlotOk c.K (upd F p o) H σ j (ρ.sl.set i (some (.fz d)))[j]?
      rw [set_get]
      by_cases e : i = j
      · subst e
        rw [if_pos rfl]
        by_cases q : i < ρ.sl.length
        · rw [if_pos q]
          exact ⟨_, h1, r⟩
        · rw [if_neg q]; trivial
      · rw [if_neg e]
        have h := S.slots j
        cases q : ρ.sl[j]? with
        | none => trivial
        | some x =>
          rw [q] at h
          cases x with
          | none => trivial
          | some x =>
            cases x with
            | fz d =>
              obtain ⟨v, h1, h2⟩ := h
              exact ⟨v, h1, h2.same fs⟩
            | own d =>
              obtain ⟨a, h1, h2⟩ := h
              exact ⟨a, h1, h2.same fs rfl⟩
    · obtain ⟨n1, n2, n3⟩ := S.mine j q (own j q h).1
      refine ⟨?_, n2, n3⟩
      by_cases z : q = p
      · subst z
        exact absurd (S.inj j i q (own j q h).1 ns) (own j q h).2
      · rw [upd_ne z]; exact n1
    · obtain ⟨n1, n2, n3⟩ := S.out q hq
      refine ⟨?_, n2, n3⟩
      by_cases z : q = p
      · subst z
        exact absurd hq m3
      · rw [upd_ne z]; exact n1
    · obtain ⟨Z, r, z1, z2, z3, z4⟩ := S.reg
      refine ⟨Z, r, fun b hb => ?_, z2, z3, fun j q h => z4 j q (own j q h).1⟩
      by_cases z : b = p
      · subst z; exact absurd hb (z4 i b ns)
      · rw [upd_ne z]; exact z1 b hb
/-- a name that may hold an object of the def's own, handed on: it is data from then on -/
def wO {R : Rgn} (i : Nat) : WE R := fun ρ K => (∃ d, ρ.sl[i]? = some (some (.fz d)) ∧ K d ρ) ∨ ∃ d, ρ.sl[i]? = some (some (.own d)) ∧ K d (ρ.put i (some (.fz d)))
theorem de_o {i : Nat} {x : Str} (hN : X.N[i]? = some x := by rfl) (hv : Vis X.env.scope x := by first | exact .inl rfl | exact .inr (.inl rfl) | exact .inr (.inr rfl)) (hk : X.K = c.K := by rfl)
    (hd : (x == ("__debug__" : Str)) = false := by decide) (hcd : (x == ("__classdict__" : Str)) = false := by decide) : DE X c false false (.Name x pos) (wO i) :=
  ⟨(pe_var hN hv hd hcd).imp fun σ H Q ⟨ρ, F, O, Kk, S, w, k⟩ => by
    have h := S.slots i
    rcases w with ⟨d, hd, w⟩ | ⟨d, hd, w⟩
    · rw [hd] at h
      obtain ⟨v, h1, h2⟩ := h
      exact ⟨v, h1, k d ρ v F H w S (Same.refl _) (fun _ _ => rfl) (fun z => by cases z) h2⟩
    · rw [hd] at h
      obtain ⟨a, h1, h2⟩ := h
      obtain ⟨F', fs, S', r⟩ := S.freeze h1 hd
      exact ⟨.ref a, h1, k d _ _ F' H w S' fs (fun _ _ => rfl) (fun z => by cases z) r⟩, hk⟩
/-- a fresh object becomes data -/
theorem FE.de {pu : Bool} {w : WE c.R} (h : FE X c pu e w) : DE X c pu false e w :=
  ⟨h.pe.imp fun σ H Q ⟨ρ, F, O, Kk, S, w, k⟩ => ⟨ρ, F, O, Kk, S, w, fun d ρ' p o F' H' hk S' fs ko g hp ob => by
    have al : Al F' H' (upd F' p o) (upd H' p o) := Al.one hp
    have gr := al.grow S'.sub
    refine k d ρ' _ (upd F' p o) (upd H' p o) hk (S'.grow gr) (fs.trans gr.fs) (fun a ha => by rw [upd_ne (fun z => (S'.out a ha).2.2 (by rw [z]; exact hp))]; exact ko a ha) (fun z => ⟨(g z).1, (g z).2.trans gr⟩) ?_
    cases o <;> cases d <;> simp only [ObjD] at ob
    · exact .lst upd_same (ob.same gr.fs)
    · exact .dK upd_same ob.1 (ob.2.same gr.fs)
    · exact .dT upd_same ob.1 (ob.2.same gr.fs)⟩, h.kk⟩
end
end Q

set_option Elab.async false
set_option linter.all false
set_option maxRecDepth 100000
set_option maxHeartbeats 4000000
namespace Q
open PySem PySem.Spec PyProof.Rows L2
/-! ### operators over data -/
def R2D (K : PySem.W.Frag) (r : R2) (g : D → D → Option D) : Prop := ∀ {F H : Hp} {v u : V} {x y z : D} {Q : VK}, Same F H → BV K F H v x → BV K F H u y → g x y = some z →
  (∀ v' F' H', Al F H F' H' → Rep K F' v' z → Q v' H') → r v u H Q
def R1D (K : PySem.W.Frag) (r : List V → Hp → VK → Prop) (g : D → Option D) : Prop := ∀ {F H : Hp} {v : V} {x z : D} {Q : VK}, Same F H → BV K F H v x → g x = some z →
  (∀ v' F' H', Al F H F' H' → Rep K F' v' z → Q v' H') → r [v] H Q
def wOp {R : Rgn} (g : D → D → Option D) (wa wb : WE R) : WE R := fun ρ K => wa ρ fun x ρ1 => wb ρ1 fun y ρ2 => ∃ z, g x y = some z ∧ K z ρ2
def wUn {R : Rgn} (g : D → Option D) (wa : WE R) : WE R := fun ρ K => wa ρ fun x ρ1 => ∃ z, g x = some z ∧ K z ρ1
def wTest {R : Rgn} (wa : WE R) : WB R := fun ρ K => wa ρ fun x ρ1 => ∃ b, x = .bl b ∧ K b ρ1
theorem VRep.carry {K : PySem.W.Frag} {F F' : Hp} {σ : L2.St} {sl sl' : List (Option DV)} {v : V} {d : D} {b : Bool} (r : VRep K F σ sl v d b) (e : Same F F') (h : b = false ∨ sl' = sl) : VRep K F' σ sl' v d b := by
  cases b with
  | false => exact Rep.same e r
  | true =>
    rcases h with h | h
    · cases h
    · rw [h]
      rcases r with r | r
      · exact .inl (r.same e)
      · exact .inr r
theorem ko_al {c : Ctx} {F H F' H' : Hp} {O : List Addr} {σ : L2.St} {ρ : DS c.R} (S : St c F O σ ρ H) (a : Al F H F' H') : ∀ x ∈ O, H' x = H x := fun x h => a.at (S.out x h).2.2
section
variable {X : Cx} {c : Ctx} {a b : Expr} {pos : Pos} {pa pb ba bb : Bool} {wa wb : WE c.R}
theorem bin_ok {r : R2} {g : D → D → Option D} (hr : R2D c.K r g) (hs : ba = false ∨ pb = true) {σ : L2.St} {H : Hp} {Q : VK} (h : liftE c (pa && pb) false (wOp g wa wb) σ H Q) :
    liftE c pa ba wa σ H fun x H1 => liftE c pb bb wb σ H1 fun y H2 => r x y H2 Q := by
  obtain ⟨ρ, F, O, Kk, S, w, k⟩ := h
  refine ⟨ρ, F, O, _, S, w, fun x ρ1 v F1 H1 hk S1 fs1 ko1 g1 r1 => ⟨ρ1, F1, O, _, S1, hk, fun y ρ2 u F2 H2 ⟨z, hz, kz⟩ S2 fs2 ko2 g2 r2 => ?_⟩⟩
  have c1 : VRep c.K F2 σ ρ2.sl v x ba := r1.carry fs2 (hs.imp id fun e => by rw [(g2 e).1])
  refine hr S2.sub (c1.bv S2) (r2.bv S2) hz fun v' F' H' al rp => ?_
  refine k z ρ2 v' F' H' kz (S2.grow (al.grow S2.sub)) (fs1.trans (fs2.trans (al.fs S2.sub))) (fun q hq => by rw [ko_al S2 al q hq, ko2 q hq, ko1 q hq]) (fun e => ?_) rp
  rw [Bool.and_eq_true] at e
  obtain ⟨e1, q1⟩ := g1 e.1
  obtain ⟨e2, q2⟩ := g2 e.2
  exact ⟨e2.trans e1, q1.trans (q2.trans (al.grow S2.sub))⟩
theorem de_op {op : Operator} {r : R2} {g : D → D → Option D} (ho : OpR X (binaryOp op) r) (hr : R2D c.K r g) (ha : DE X c pa ba a wa) (hb : DE X c pb bb b wb) (hs : ba = false ∨ pb = true := by first | exact .inl rfl | exact .inr rfl) :
    DE X c (pa && pb) false (.BinOp a op b pos) (wOp g wa wb) := ⟨(pe_op ho ha.pe hb.pe).imp fun σ H Q h => bin_ok hr hs h, ha.kk⟩
theorem de_cmp {op : CmpOp} {r : R2} {g : D → D → Option D} (ho : OpR X (compareOp op) r) (hr : R2D c.K r g) (ha : DE X c pa ba a wa) (hb : DE X c pb bb b wb) (hm : behindInMarks op b = false)
    (hs : ba = false ∨ pb = true := by first | exact .inl rfl | exact .inr rfl) : DE X c (pa && pb) false (.Compare a [op] [b] pos) (wOp g wa wb) := ⟨(pe_cmpR ho ha.pe hb.pe hm).imp fun σ H Q h => bin_ok hr hs h, ha.kk⟩
theorem de_ix {r : R2} {g : D → D → Option D} (ho : IxR X r) (hr : R2D c.K r g) (ha : DE X c pa ba a wa) (hb : DE X c pb bb b wb) (hx : PlainIx b) (hs : ba = false ∨ pb = true := by first | exact .inl rfl | exact .inr rfl) :
    DE X c (pa && pb) false (.Subscript a b pos) (wOp g wa wb) := ⟨(pe_ix ho ha.pe hb.pe hx).imp fun σ H Q h => bin_ok hr hs h, ha.kk⟩
/-- a truth as a test -/
theorem test_ok {σ : L2.St} {H : Hp} {Q : Bool → Hp → Prop} (h : liftT c pa (wTest wa) σ H Q) : liftE c pa ba wa σ H fun x H1 => ∃ k, x = .bl k ∧ Q k H1 := by
  obtain ⟨ρ, F, O, Kk, S, w, k⟩ := h
  exact ⟨ρ, F, O, _, S, w, fun x ρ1 v F1 H1 ⟨z, e, hk⟩ S1 fs1 ko1 g1 r1 => ⟨z, by subst e; exact (r1.bv S1).bl, k z ρ1 F1 H1 hk S1 fs1 ko1 g1⟩⟩
theorem dt_val {e : Expr} (h : DE X c pa ba e wa) (he : ∀ whole, isTrue e X.env whole = (do let v ← whole; standAt e.pos; holding [v] (truthy v)) := by intro _; rfl) : DT X c pa e (wTest wa) :=
  ⟨(pt_val h.pe he).imp fun σ H Q h => test_ok h⟩
theorem dt_cmp {op : CmpOp} {r : R2} {g : D → D → Option D} (ho : OpR X (compareOp op) r) (hr : R2D c.K r g) (ha : DE X c pa ba a wa) (hb : DE X c pb bb b wb) (hm : behindInMarks op b = false)
    (hs : ba = false ∨ pb = true := by first | exact .inl rfl | exact .inr rfl) : DT X c (pa && pb) (.Compare a [op] [b] pos) (wTest (wOp g wa wb)) :=
  ⟨(pt_cmpR ho ha.pe hb.pe hm).imp fun σ H Q h => bin_ok (pa := pa) (ba := ba) (bb := bb) hr hs (test_ok (ba := false) h)⟩
/-- by truth -/
def truD : D → Option Bool
  | .non => some false
  | .bl b => some b
  | .int i => some (i != 0)
  | .str x => if x.length ≤ sizeLine then some ((x.length : Int) != 0) else none
  | .lst ds => some (!ds.isEmpty)
  | .tup ds => some (!ds.isEmpty)
  | _ => none
def wTruth {R : Rgn} (wa : WE R) : WB R := fun ρ K => wa ρ fun x ρ1 => ∃ b, truD x = some b ∧ K b ρ1
theorem Reps.isEmpty {K : PySem.W.Frag} {F : Hp} {vs : List V} {ds : List D} (h : Reps K F vs ds) : vs.isEmpty = ds.isEmpty := by cases h <;> rfl
theorem BV.tru {K : PySem.W.Frag} {F H : Hp} {v : V} {d : D} {k : Bool} (h : BV K F H v d) (s : Same F H) (e : truD d = some k) : TruV K v H k := by
  cases d with
  | non => cases e; rw [h.non]; rfl
  | bl b => cases e; rw [h.bl]; rfl
  | int i => cases e; rw [h.int]; rfl
  | str x =>
    have e : (if x.length ≤ sizeLine then some ((x.length : Int) != 0) else none) = some k := e
    by_cases hz : x.length ≤ sizeLine
    · rw [if_pos hz] at e; cases e; rw [h.str]; exact ⟨hz, rfl⟩
    · rw [if_neg hz] at e; cases e
  | lst ds => cases e; obtain ⟨a, vs, rfl, h1, h2⟩ := h.lst s; exact .inl ⟨vs, SqL.of h1, by rw [h2.isEmpty]⟩
  | tup ds => cases e; obtain ⟨a, vs, rfl, h1, h2⟩ := h.tup s; exact .inr (.inl ⟨vs, h1, by rw [h2.isEmpty]⟩)
  | dct _ _ => cases e
  | dtt _ _ => cases e
  | ins _ _ _ => cases e
  | raw _ => cases e
theorem dt_truth {e : Expr} (h : DE X c pa ba e wa) (he : ∀ whole, isTrue e X.env whole = (do let v ← whole; standAt e.pos; holding [v] (truthy v)) := by intro _; rfl) : DT X c pa e (wTruth wa) :=
  ⟨(pt_truth h.pe he).imp fun σ H Q ⟨ρ, F, O, Kk, S, w, k⟩ => ⟨ρ, F, O, _, S, w, fun x ρ1 v F1 H1 ⟨z, e, hk⟩ S1 fs1 ko1 g1 r1 => ⟨z, by rw [h.kk]; exact (r1.bv S1).tru S1.sub e, k z ρ1 F1 H1 hk S1 fs1 ko1 g1⟩⟩⟩
/-! ### and, or, not, if -/
def wBand {R : Rgn} (wa wb : WB R) : WB R := fun ρ K => wa ρ fun x ρ1 => if x = true then wb ρ1 K else K false ρ1
def wBor {R : Rgn} (wa wb : WB R) : WB R := fun ρ K => wa ρ fun x ρ1 => if x = true then K true ρ1 else wb ρ1 K
def wBnot {R : Rgn} (wa : WB R) : WB R := fun ρ K => wa ρ fun x ρ1 => K (!x) ρ1
/-- a chain of and, or -/
structure DW (X : Cx) (c : Ctx) (pu : Bool) (e : Expr) (w : WB c.R) : Prop where
  pw : PW X e (liftT c pu w)
theorem DW.dt {e : Expr} {w : WB c.R} (h : DW X c pa e w) : DT X c pa e w := ⟨PW.pt h.pw⟩
theorem two_ok {wa wb : WB c.R} {wr : WB c.R} {f : TT → TT → TT} {σ : L2.St} {H : Hp} {Q : Bool → Hp → Prop} (h : liftT c (pa && pb) wr σ H Q)
    (hf : f = tAnd ∧ wr = wBand wa wb ∨ f = tOr ∧ wr = wBor wa wb) : f (liftT c pa wa) (liftT c pb wb) σ H Q := by
  obtain ⟨ρ, F, O, Kk, S, w, k⟩ := h
  rcases hf with ⟨rfl, rfl⟩ | ⟨rfl, rfl⟩
  · refine ⟨ρ, F, O, _, S, w, fun x ρ1 F1 H1 hk S1 fs1 ko1 g1 => ?_⟩
    cases x with
    | true =>
      rw [if_pos rfl] at hk ⊢
      refine ⟨ρ1, F1, O, _, S1, hk, fun y ρ2 F2 H2 hk2 S2 fs2 ko2 g2 => k y ρ2 F2 H2 hk2 S2 (fs1.trans fs2) (fun q hq => by rw [ko2 q hq, ko1 q hq]) fun e => ?_⟩
      rw [Bool.and_eq_true] at e
      obtain ⟨e1, q1⟩ := g1 e.1
      obtain ⟨e2, q2⟩ := g2 e.2
      exact ⟨e2.trans e1, q1.trans q2⟩
    | false =>
      rw [if_neg (by decide)] at hk ⊢
      exact k false ρ1 F1 H1 hk S1 fs1 ko1 fun e => g1 (by rw [Bool.and_eq_true] at e; exact e.1)
  · refine ⟨ρ, F, O, _, S, w, fun x ρ1 F1 H1 hk S1 fs1 ko1 g1 => ?_⟩
    cases x with
    | false =>
      rw [if_neg (by decide)] at hk ⊢
      refine ⟨ρ1, F1, O, _, S1, hk, fun y ρ2 F2 H2 hk2 S2 fs2 ko2 g2 => k y ρ2 F2 H2 hk2 S2 (fs1.trans fs2) (fun q hq => by rw [ko2 q hq, ko1 q hq]) fun e => ?_⟩
      rw [Bool.and_eq_true] at e
      obtain ⟨e1, q1⟩ := g1 e.1
      obtain ⟨e2, q2⟩ := g2 e.2
      exact ⟨e2.trans e1, q1.trans q2⟩
    | true =>
      rw [if_pos rfl] at hk ⊢
      exact k true ρ1 F1 H1 hk S1 fs1 ko1 fun e => g1 (by rw [Bool.and_eq_true] at e; exact e.1)
section
variable {ta tb : WB c.R} {rest : List Expr}
theorem dw_and1 (ha : DT X c pa a ta) : DW X c pa (.BoolOp .And [a] pos) ta := ⟨pw_and1 ha.pt⟩
theorem dw_or1 (ha : DT X c pa a ta) : DW X c pa (.BoolOp .Or [a] pos) ta := ⟨pw_or1 ha.pt⟩
theorem dw_and (ha : DT X c pa a ta) (hb : DW X c pb (.BoolOp .And (b :: rest) pos) tb) : DW X c (pa && pb) (.BoolOp .And (a :: b :: rest) pos) (wBand ta tb) :=
  ⟨(pw_and ha.pt hb.pw).imp fun σ H Q h => two_ok (f := tAnd) h (.inl ⟨rfl, rfl⟩)⟩
theorem dw_or (ha : DT X c pa a ta) (hb : DW X c pb (.BoolOp .Or (b :: rest) pos) tb) : DW X c (pa && pb) (.BoolOp .Or (a :: b :: rest) pos) (wBor ta tb) :=
  ⟨(pw_or ha.pt hb.pw).imp fun σ H Q h => two_ok (f := tOr) h (.inr ⟨rfl, rfl⟩)⟩
theorem dt_not (ha : DT X c pa a ta) : DT X c pa (.UnaryOp .Not a pos) (wBnot ta) :=
  ⟨(pt_not ha.pt).imp fun σ H Q ⟨ρ, F, O, Kk, S, w, k⟩ => ⟨ρ, F, O, _, S, w, fun x ρ1 F1 H1 hk S1 fs1 ko1 g1 => k (!x) ρ1 F1 H1 hk S1 fs1 ko1 g1⟩⟩
end
/-- .. as values: truths -/
def wAndV {R : Rgn} (wa wb : WE R) : WE R := fun ρ K => wa ρ fun x ρ1 => ∃ b, x = .bl b ∧ if b = true then wb ρ1 K else K (.bl false) ρ1
def wOrV {R : Rgn} (wa wb : WE R) : WE R := fun ρ K => wa ρ fun x ρ1 => ∃ b, x = .bl b ∧ if b = true then K (.bl true) ρ1 else wb ρ1 K
def wNotV {R : Rgn} (wa : WE R) : WE R := fun ρ K => wa ρ fun x ρ1 => ∃ b, x = .bl b ∧ K (.bl (!b)) ρ1
section
variable {rest : List Expr} {op : BoolOp}
theorem de_one (ha : DE X c pa ba a wa) : DE X c pa ba (.BoolOp op [a] pos) wa := ⟨pe_one ha.pe, ha.kk⟩
theorem de_and (ha : DE X c pa ba a wa) (hb : DE X c pb bb (.BoolOp .And (b :: rest) pos) wb) : DE X c (pa && pb) bb (.BoolOp .And (a :: b :: rest) pos) (wAndV wa wb) :=
  ⟨(pe_and ha.pe hb.pe).imp fun σ H Q ⟨ρ, F, O, Kk, S, w, k⟩ => by
    refine ⟨ρ, F, O, _, S, w, fun x ρ1 v F1 H1 ⟨z, e, hk⟩ S1 fs1 ko1 g1 r1 => ⟨z, by subst e; exact (r1.bv S1).bl, ?_⟩⟩
    cases z with
    | true =>
      rw [if_pos rfl] at hk ⊢
      refine ⟨ρ1, F1, O, _, S1, hk, fun y ρ2 v2 F2 H2 hk2 S2 fs2 ko2 g2 r2 => k y ρ2 v2 F2 H2 hk2 S2 (fs1.trans fs2) (fun q hq => by rw [ko2 q hq, ko1 q hq]) (fun e => ?_) r2⟩
      rw [Bool.and_eq_true] at e
      obtain ⟨e1, q1⟩ := g1 e.1
      obtain ⟨e2, q2⟩ := g2 e.2
      exact ⟨e2.trans e1, q1.trans q2⟩
    | false =>
      rw [if_neg (by decide)] at hk ⊢
      exact k (.bl false) ρ1 _ F1 H1 hk S1 fs1 ko1 (fun e => g1 (by rw [Bool.and_eq_true] at e; exact e.1)) (VRep.up (ρ := ρ1) (.bl false)), ha.kk⟩
theorem de_or (ha : DE X c pa ba a wa) (hb : DE X c pb bb (.BoolOp .Or (b :: rest) pos) wb) : DE X c (pa && pb) bb (.BoolOp .Or (a :: b :: rest) pos) (wOrV wa wb) :=
  ⟨(pe_or ha.pe hb.pe).imp fun σ H Q ⟨ρ, F, O, Kk, S, w, k⟩ => by
    refine ⟨ρ, F, O, _, S, w, fun x ρ1 v F1 H1 ⟨z, e, hk⟩ S1 fs1 ko1 g1 r1 => ⟨z, by subst e; exact (r1.bv S1).bl, ?_⟩⟩
    cases z with
    | false =>
      rw [if_neg (by decide)] at hk ⊢
      refine ⟨ρ1, F1, O, _, S1, hk, fun y ρ2 v2 F2 H2 hk2 S2 fs2 ko2 g2 r2 => k y ρ2 v2 F2 H2 hk2 S2 (fs1.trans fs2) (fun q hq => by rw [ko2 q hq, ko1 q hq]) (fun e => ?_) r2⟩
      rw [Bool.and_eq_true] at e
      obtain ⟨e1, q1⟩ := g1 e.1
      obtain ⟨e2, q2⟩ := g2 e.2
      exact ⟨e2.trans e1, q1.trans q2⟩
    | true =>
      rw [if_pos rfl] at hk ⊢
      exact k (.bl true) ρ1 _ F1 H1 hk S1 fs1 ko1 (fun e => g1 (by rw [Bool.and_eq_true] at e; exact e.1)) (VRep.up (ρ := ρ1) (.bl true)), ha.kk⟩
theorem de_not (ha : DE X c pa ba a wa) : DE X c pa false (.UnaryOp .Not a pos) (wNotV wa) :=
  ⟨(pe_not ha.pe).imp fun σ H Q ⟨ρ, F, O, Kk, S, w, k⟩ => ⟨ρ, F, O, _, S, w, fun x ρ1 v F1 H1 ⟨z, e, hk⟩ S1 fs1 ko1 g1 r1 => ⟨z, by subst e; exact (r1.bv S1).bl, k _ ρ1 _ F1 H1 hk S1 fs1 ko1 g1 (.bl _)⟩⟩, ha.kk⟩
def wIfE {R : Rgn} (wt : WB R) (wa wb : WE R) : WE R := fun ρ K => wt ρ fun x ρ1 => if x = true then wa ρ1 K else wb ρ1 K
theorem de_if {t : Expr} {pt : Bool} {wt : WB c.R} (ht : DT X c pt t wt) (ha : DE X c pa ba a wa) (hb : DE X c pb ba b wb) : DE X c (pt && (pa && pb)) ba (.IfExp t a b pos) (wIfE wt wa wb) :=
  ⟨(pe_ifExp ht.pt ha.pe hb.pe).imp fun σ H Q ⟨ρ, F, O, Kk, S, w, k⟩ => by
    refine ⟨ρ, F, O, _, S, w, fun x ρ1 F1 H1 hk S1 fs1 ko1 g1 => ?_⟩
    cases x with
    | true =>
      rw [if_pos rfl] at hk ⊢
      refine ⟨ρ1, F1, O, _, S1, hk, fun y ρ2 v2 F2 H2 hk2 S2 fs2 ko2 g2 r2 => k y ρ2 v2 F2 H2 hk2 S2 (fs1.trans fs2) (fun q hq => by rw [ko2 q hq, ko1 q hq]) (fun e => ?_) r2⟩
      rw [Bool.and_eq_true, Bool.and_eq_true] at e
      obtain ⟨e1, q1⟩ := g1 e.1
      obtain ⟨e2, q2⟩ := g2 e.2.1
      exact ⟨e2.trans e1, q1.trans q2⟩
    | false =>
      rw [if_neg (by decide)] at hk ⊢
      refine ⟨ρ1, F1, O, _, S1, hk, fun y ρ2 v2 F2 H2 hk2 S2 fs2 ko2 g2 r2 => k y ρ2 v2 F2 H2 hk2 S2 (fs1.trans fs2) (fun q hq => by rw [ko2 q hq, ko1 q hq]) (fun e => ?_) r2⟩
      rw [Bool.and_eq_true, Bool.and_eq_true] at e
      obtain ⟨e1, q1⟩ := g1 e.1
      obtain ⟨e2, q2⟩ := g2 e.2.2
      exact ⟨e2.trans e1, q1.trans q2⟩, ha.kk⟩
end
end
end Q

set_option Elab.async false
set_option linter.all false
set_option maxRecDepth 100000
set_option maxHeartbeats 4000000
namespace Q
open PySem PySem.Spec PyProof.Rows L2
theorem big_line : 100000 ≤ sizeLine := by rw [sizeLine_eq]; decide
section
variable {X : Cx} {c : Ctx} {e : Expr} {es : List Expr} {pos p : Pos} {pa pb ba bb : Bool} {we : WE c.R} {wa : WA c.R}
/-! ### arguments, displays -/
def wNil {R : Rgn} : WA R := fun ρ K => K [] ρ
def wCons {R : Rgn} (we : WE R) (wa : WA R) : WA R := fun ρ K => we ρ fun x ρ1 => wa ρ1 fun xs ρ2 => K (x :: xs) ρ2
theorem da_nil : DA X c true [] wNil := ⟨pa_nil.imp fun σ H Q ⟨ρ, F, O, Kk, S, w, k⟩ => k [] ρ [] F H w S (Same.refl _) (fun _ _ => rfl) (fun _ => ⟨rfl, Grow.refl S.sub⟩) .nil⟩
theorem da_cons (he : DE X c pa false e we) (ha : DA X c pb es wa) (hs : starEach (e :: es) X.env = (false, eval e X.env) :: starEach es X.env := by rfl) : DA X c (pa && pb) (e :: es) (wCons we wa) :=
  ⟨(pa_cons he.pe ha.pa hs).imp fun σ H Q ⟨ρ, F, O, Kk, S, w, k⟩ => ⟨ρ, F, O, _, S, w, fun x ρ1 v F1 H1 hk S1 fs1 ko1 g1 r1 => ⟨ρ1, F1, O, _, S1, hk, fun xs ρ2 vs F2 H2 hk2 S2 fs2 ko2 g2 r2 =>
    k _ ρ2 _ F2 H2 hk2 S2 (fs1.trans fs2) (fun q hq => by rw [ko2 q hq, ko1 q hq]) (fun e => by
      rw [Bool.and_eq_true] at e
      obtain ⟨e1, q1⟩ := g1 e.1
      obtain ⟨e2, q2⟩ := g2 e.2
      exact ⟨e2.trans e1, q1.trans q2⟩) (.cons (Rep.same fs2 r1) r2)⟩⟩⟩
def wTup {R : Rgn} (wa : WA R) : WE R := fun ρ K => wa ρ fun ds ρ1 => ds.length ≤ 100000 ∧ K (.tup ds) ρ1
def wLst {R : Rgn} (wa : WA R) : WE R := fun ρ K => wa ρ fun ds ρ1 => ds.length ≤ 100000 ∧ K (.lst ds) ρ1
theorem ko_upd {F H : Hp} {O : List Addr} {σ : L2.St} {ρ : DS c.R} {q : Addr} {o : HO} (S : St c F O σ ρ H) (h : H q = none) : ∀ x ∈ O, upd H q o x = H x := fun x hx => by
  rw [upd_ne]
  intro z
  subst z
  exact (S.out x hx).2.2 h
theorem de_tup {ctx} (ha : DA X c pa es wa) (hk : X.K = c.K := by rfl) : DE X c pa false (.Tuple es ctx pos) (wTup wa) :=
  ⟨(pe_tup ha.pa).imp fun σ H Q ⟨ρ, F, O, Kk, S, w, k⟩ => ⟨ρ, F, O, _, S, w, fun ds ρ1 vs F1 H1 ⟨hz, hk⟩ S1 fs1 ko1 g1 r1 => ⟨by rw [r1.length]; exact Nat.le_trans hz big_line, fun q hq => by
    have al : Al F1 H1 (upd F1 q (.tup vs)) (upd H1 q (.tup vs)) := Al.one hq
    have gr := al.grow S1.sub
    exact k _ ρ1 _ _ _ hk (S1.grow gr) (fs1.trans gr.fs) (fun x hx => by rw [ko_upd S1 hq x hx]; exact ko1 x hx) (fun e => ⟨(g1 e).1, (g1 e).2.trans gr⟩) (.tup (SqT.of upd_same) (r1.same gr.fs))⟩⟩, hk⟩
theorem fe_lst (ha : DA X c pa es wa) (hk : X.K = c.K := by rfl) : FE X c pa (.List es pos) (wLst wa) :=
  ⟨(pe_lst ha.pa).imp fun σ H Q ⟨ρ, F, O, Kk, S, w, k⟩ => ⟨ρ, F, O, _, S, w, fun ds ρ1 vs F1 H1 ⟨hz, hk⟩ S1 fs1 ko1 g1 r1 => ⟨by rw [r1.length]; exact Nat.le_trans hz big_line, fun q hq =>
    k _ ρ1 q (.lst vs) F1 H1 hk S1 fs1 ko1 g1 hq r1⟩⟩, hk⟩
/-! ### built-ins of one argument -/
theorem c1_ok {r : List V → Hp → VK → Prop} {g : D → Option D} (hr : R1D c.K r g) {σ : L2.St} {H : Hp} {Q : VK} (h : liftE c pa false (wUn g we) σ H Q) :
    tCB r (tCons (liftE c pa ba we) tNil) σ H Q := by
  obtain ⟨ρ, F, O, Kk, S, w, k⟩ := h
  refine ⟨ρ, F, O, _, S, w, fun x ρ1 v F1 H1 ⟨z, hz, hk⟩ S1 fs1 ko1 g1 r1 => ?_⟩
  exact hr S1.sub (r1.bv S1) hz fun v' F' H' al rp => k z ρ1 v' F' H' hk (S1.grow (al.grow S1.sub)) (fs1.trans (al.fs S1.sub)) (fun q hq => by rw [ko_al S1 al q hq]; exact ko1 q hq)
    (fun e => ⟨(g1 e).1, (g1 e).2.trans (al.grow S1.sub)⟩) rp
theorem de_c1 {x : Str} {id : String} {r : List V → Hp → VK → Prop} {g : D → Option D} (hc : CallR X (.builtin id) r) (hr : R1D c.K r g) (hm : X.mg x = none) (ha : DE X c pa ba e we) (hg : Gl X x := by rfl) (hv : bootBuiltins x = some (.builtin id) := by decide +kernel)
    (hn : x ≠ "__name__" := by decide) (hdb : (x == ("__debug__" : Str)) = false := by decide)
    (he : starEach [e] X.env = (false, eval e X.env) :: starEach [] X.env := by rfl) (hpl : (backTo pos (starEach [] X.env)).any (·.1) = false := by rfl) : DE X c pa false (.Call (.Name x p) [e] [] pos) (wUn g we) :=
  ⟨(pe_callB hc hg hm hv (pa_cons ha.pe pa_nil he) hn hdb he hpl).imp fun σ H Q h => c1_ok hr h, ha.kk⟩
theorem de_t1 {x : Str} {id : String} {r : List V → Hp → VK → Prop} {g : D → Option D} (hc : CallR X (.type id) r) (hr : R1D c.K r g) (hm : X.mg x = none) (ha : DE X c pa ba e we) (hg : Gl X x := by rfl) (hv : bootBuiltins x = some (.type id) := by decide +kernel)
    (hn : x ≠ "__name__" := by decide) (hdb : (x == ("__debug__" : Str)) = false := by decide)
    (he : starEach [e] X.env = (false, eval e X.env) :: starEach [] X.env := by rfl) (hpl : (backTo pos (starEach [] X.env)).any (·.1) = false := by rfl) : DE X c pa false (.Call (.Name x p) [e] [] pos) (wUn g we) :=
  ⟨(pe_callTy hc hg hm hv (pa_cons ha.pe pa_nil he) hn hdb he hpl).imp fun σ H Q h => c1_ok hr h, ha.kk⟩
/-- .. that hand back a fresh list or dict -/
def R1F (K : PySem.W.Frag) (r : List V → Hp → VK → Prop) (g : D → Option D) : Prop := ∀ {F H : Hp} {v : V} {x z : D} {Q : VK}, Same F H → BV K F H v x → g x = some z →
  (∀ q o, H q = none → ObjD K F o z → Q (.ref q) (upd H q o)) → r [v] H Q
theorem f1_ok {r : List V → Hp → VK → Prop} {g : D → Option D} (hr : R1F c.K r g) {σ : L2.St} {H : Hp} {Q : VK} (h : liftF c pa (wUn g we) σ H Q) :
    tCB r (tCons (liftE c pa ba we) tNil) σ H Q := by
  obtain ⟨ρ, F, O, Kk, S, w, k⟩ := h
  refine ⟨ρ, F, O, _, S, w, fun x ρ1 v F1 H1 ⟨z, hz, hk⟩ S1 fs1 ko1 g1 r1 => ?_⟩
  exact hr S1.sub (r1.bv S1) hz fun q o hq ob => k z ρ1 q o F1 H1 hk S1 fs1 ko1 g1 hq ob
theorem fe_t1 {x : Str} {id : String} {r : List V → Hp → VK → Prop} {g : D → Option D} (hc : CallR X (.type id) r) (hr : R1F c.K r g) (hm : X.mg x = none) (ha : DE X c pa ba e we) (hg : Gl X x := by rfl) (hv : bootBuiltins x = some (.type id) := by decide +kernel)
    (hn : x ≠ "__name__" := by decide) (hdb : (x == ("__debug__" : Str)) = false := by decide)
    (he : starEach [e] X.env = (false, eval e X.env) :: starEach [] X.env := by rfl) (hpl : (backTo pos (starEach [] X.env)).any (·.1) = false := by rfl) : FE X c pa (.Call (.Name x p) [e] [] pos) (wUn g we) :=
  ⟨(pe_callTy hc hg hm hv (pa_cons ha.pe pa_nil he) hn hdb he hpl).imp fun σ H Q h => f1_ok hr h, ha.kk⟩
theorem fe_c1 {x : Str} {id : String} {r : List V → Hp → VK → Prop} {g : D → Option D} (hc : CallR X (.builtin id) r) (hr : R1F c.K r g) (hm : X.mg x = none) (ha : DE X c pa ba e we) (hg : Gl X x := by rfl) (hv : bootBuiltins x = some (.builtin id) := by decide +kernel)
    (hn : x ≠ "__name__" := by decide) (hdb : (x == ("__debug__" : Str)) = false := by decide)
    (he : starEach [e] X.env = (false, eval e X.env) :: starEach [] X.env := by rfl) (hpl : (backTo pos (starEach [] X.env)).any (·.1) = false := by rfl) : FE X c pa (.Call (.Name x p) [e] [] pos) (wUn g we) :=
  ⟨(pe_callB hc hg hm hv (pa_cons ha.pe pa_nil he) hn hdb he hpl).imp fun σ H Q h => f1_ok hr h, ha.kk⟩
end
/-! ### promises of defs -/
/-- a def of the text, called by its name -/
structure Cal (P : Program) (w : World) (K : PySem.W.Frag) (mg : Str → Option Value) (base : Heap) (x : Str) (k : Nat) (ps : List Str) (sp : Sp) : Prop where
  ex : ∃ (f : Addr) (fd : FuncData), mg x = some (.ref f) ∧ PySem.W.keepIn K (.ref f) = true ∧ FnOk P w K mg base CX0 k f fd ps sp ∧ Binds K fd ps []
abbrev FnP (K : PySem.W.Frag) (x q : Str) (st : Stmt) (f : Addr) (fd : FuncData) : Prop := FunD K x q (defArgs st) (defBody st) (defScope st) [] [] f fd
abbrev WM := List D → (D → Prop) → Prop
abbrev WMR (R : Rgn) := List D → R.G → (D → R.G → Prop) → Prop
/-- it takes data, hands back data, changes nothing -/
def spD (K : PySem.W.Frag) (m : WM) : Sp := fun vs H Q _ => ∃ (ds : List D) (F : Hp) (Kk : D → Prop), Same F H ∧ Reps K F vs ds ∧ m ds Kk ∧ ∀ d v F' H', Kk d → Grow F H F' H' → Rep K F' v d → Q v H'
/-- .. a fresh list or dict -/
def spF (K : PySem.W.Frag) (m : WM) : Sp := fun vs H Q _ => ∃ (ds : List D) (F : Hp) (Kk : D → Prop), Same F H ∧ Reps K F vs ds ∧ m ds Kk ∧ ∀ d q o F' H', Kk d → Grow F H F' H' → H' q = none → ObjD K F' o d → Q (.ref q) (upd H' q o)
structure GrowR (R : Rgn) (g : R.G) (F H : Hp) (Z : Addr → Prop) (g' : R.G) (F' H' : Hp) (Z' : Addr → Prop) : Prop where
  fs : Same F F'
  sub : Same F' H'
  old : ∀ b, F' b ≠ none → F b ≠ none ∨ H b = none
  keep : ∀ b o, H b = some o → ¬ Z b → H' b = some o
  live : ∀ b, H b ≠ none → H' b ≠ none
  ok : R.ok g' Z' H'
  zf : ∀ b, Z' b → F' b = none
  zi : ∀ b, Z' b → Z b ∨ H b = none
/-- .. and uses a region -/
def spR (R : Rgn) (K : PySem.W.Frag) (m : WMR R) : Sp := fun vs H Q _ => ∃ (ds : List D) (F : Hp) (Z : Addr → Prop) (g : R.G) (Kk : D → R.G → Prop), Same F H ∧ Reps K F vs ds ∧ R.ok g Z H ∧ (∀ b, Z b → F b = none) ∧ m ds g Kk ∧
  ∀ d g' v F' Z' H', Kk d g' → GrowR R g F H Z g' F' H' Z' → Rep K F' v d → Q v H'
def spRF (R : Rgn) (K : PySem.W.Frag) (m : WMR R) : Sp := fun vs H Q _ => ∃ (ds : List D) (F : Hp) (Z : Addr → Prop) (g : R.G) (Kk : D → R.G → Prop), Same F H ∧ Reps K F vs ds ∧ R.ok g Z H ∧ (∀ b, Z b → F b = none) ∧ m ds g Kk ∧
  ∀ d g' q o F' Z' H', Kk d g' → GrowR R g F H Z g' F' H' Z' → H' q = none → ObjD K F' o d → Q (.ref q) (upd H' q o)
section
variable {X : Cx} {c : Ctx} {x : Str} {k j : Nat} {ps : List Str} {p pos : Pos} {e : Expr} {es : List Expr} {pa : Bool} {wa : WA c.R}
theorem pe_cal {sp : Sp} {t : TA} (C : Cal X.prog X.w X.K X.mg X.base x k ps sp) (hr : Room j X.A) (ha : PA X (e :: es) t) (hj : k ≤ j := by decide) (hg : Gl X x := by rfl) (hdb : (x == ("__debug__" : Str)) = false := by decide)
    (he : starEach (e :: es) X.env = (false, eval e X.env) :: starEach es X.env := by rfl) (hpl : (backTo pos (starEach es X.env)).any (·.1) = false := by rfl) : PE X (.Call (.Name x p) (e :: es) [] pos) (tCall sp [] E0 t) := by
  obtain ⟨f, fd, hm, hk, F, hb⟩ := C.ex
  exact pe_call F (hr.mono hj) hg hm hk hb .nil pass0 ha hdb he hpl
def wCall {R : Rgn} (m : WM) (wa : WA R) : WE R := fun ρ K => wa ρ fun ds ρ1 => m ds fun d => K d ρ1
def wCallR {R : Rgn} (m : WMR R) (wa : WA R) : WE R := fun ρ K => wa ρ fun ds ρ1 => m ds ρ1.g fun d g => K d ⟨g, ρ1.sl⟩
theorem app_nil (vs : List V) : vs ++ [] = vs := List.append_nil vs
theorem de_call {m : WM} (C : Cal X.prog X.w X.K X.mg X.base x k ps (spD c.K m)) (hr : Room j X.A) (ha : DA X c pa (e :: es) wa) (hj : k ≤ j := by decide) (hk : X.K = c.K := by rfl) (hg : Gl X x := by rfl) (hdb : (x == ("__debug__" : Str)) = false := by decide)
    (he : starEach (e :: es) X.env = (false, eval e X.env) :: starEach es X.env := by rfl) (hpl : (backTo pos (starEach es X.env)).any (·.1) = false := by rfl) : DE X c pa false (.Call (.Name x p) (e :: es) [] pos) (wCall m wa) :=
  ⟨(pe_cal C hr ha.pa hj hg hdb he hpl).imp fun σ H Q ⟨ρ, F, O, Kk, S, w, k⟩ => ⟨ρ, F, O, _, S, w, fun ds ρ1 vs F1 H1 hk S1 fs1 ko1 g1 r1 => ⟨ds, F1, _, S1.sub, by rw [app_nil]; exact r1, hk, fun d v F' H' hd gr rp =>
    k d ρ1 v F' H' hd (S1.grow gr) (fs1.trans gr.fs) (fun q hq => by rw [gr.at (S1.out q hq).2.2]; exact ko1 q hq) (fun e => ⟨(g1 e).1, (g1 e).2.trans gr⟩) rp⟩⟩, hk⟩
theorem fe_call {m : WM} (C : Cal X.prog X.w X.K X.mg X.base x k ps (spF c.K m)) (hr : Room j X.A) (ha : DA X c pa (e :: es) wa) (hj : k ≤ j := by decide) (hk : X.K = c.K := by rfl) (hg : Gl X x := by rfl) (hdb : (x == ("__debug__" : Str)) = false := by decide)
    (he : starEach (e :: es) X.env = (false, eval e X.env) :: starEach es X.env := by rfl) (hpl : (backTo pos (starEach es X.env)).any (·.1) = false := by rfl) : FE X c pa (.Call (.Name x p) (e :: es) [] pos) (wCall m wa) :=
  ⟨(pe_cal C hr ha.pa hj hg hdb he hpl).imp fun σ H Q ⟨ρ, F, O, Kk, S, w, k⟩ => ⟨ρ, F, O, _, S, w, fun ds ρ1 vs F1 H1 hk S1 fs1 ko1 g1 r1 => ⟨ds, F1, _, S1.sub, by rw [app_nil]; exact r1, hk, fun d q o F' H' hd gr hq ob =>
    k d ρ1 q o F' H' hd (S1.grow gr) (fs1.trans gr.fs) (fun q hq => by rw [gr.at (S1.out q hq).2.2]; exact ko1 q hq) (fun e => ⟨(g1 e).1, (g1 e).2.trans gr⟩) hq ob⟩⟩, hk⟩
theorem St.growR {F H F' H' : Hp} {O : List Addr} {σ : L2.St} {ρ : DS c.R} {Z Z' : Addr → Prop} {g' : c.R.G} (S : St c F O σ ρ H) (hz2 : ∀ b, Z b → ¬ c.Z0 b → c.H0 b = none) (hzO : ∀ a ∈ O, ¬ Z a) (hzo : ∀ i a, Owns σ ρ.sl i a → ¬ Z a)
    (g : GrowR c.R ρ.g F H Z g' F' H' Z') : St c F' O σ ⟨g', ρ.sl⟩ H' where
  len := S.len
  sub := g.sub
  old := S.old.trans g.fs
  new := fun b n e => by
    rcases g.old b n with q | q
    · exact S.new b q e
    · cases h : c.H0 b with
      | none => rfl
      | some o => exact absurd q (S.live b (by rw [h]; exact fun z => by cases z))
  keep := fun b o e n => g.keep _ _ (S.keep b o e n) fun z => by
    have := hz2 b z n
    rw [e] at this
    cases this
  live := fun b n => g.live b (S.live b n)
  slots := fun i => by
    show SlotOk c.K F' H' σ i ρ.sl[i]?
    have h := S.slots i
    cases e : ρ.sl[i]? with
    | none => trivial
    | some x =>
      rw [e] at h
      cases x with
      | none => trivial
      | some x =>
        cases x with
        | fz d =>
          obtain ⟨v, h1, h2⟩ := h
          exact ⟨v, h1, h2.same g.fs⟩
        | own d =>
          obtain ⟨a, h1, h2⟩ := h
          refine ⟨a, h1, h2.same g.fs ?_⟩
          cases q : H a with
          | none => exact absurd q h2.there
          | some o => exact g.keep _ _ q (hzo i a ⟨h1, d, e⟩)
  mine := fun i a h => by
    obtain ⟨m1, m2, m3⟩ := S.mine i a h
    refine ⟨?_, m2, m3⟩
    obtain ⟨d, _, q⟩ := h.there (S.slots i)
    cases e : F' a with
    | none => rfl
    | some o =>
      rcases g.old a (by rw [e]; exact fun z => by cases z) with z | z
      · exact absurd m1 z
      · exact absurd z q.there
  inj := S.inj
  out := fun a h => by
    obtain ⟨m1, m2, m3⟩ := S.out a h
    refine ⟨?_, m2, g.live a m3⟩
    cases e : F' a with
    | none => rfl
    | some o =>
      rcases g.old a (by rw [e]; exact fun z => by cases z) with z | z
      · exact absurd m1 z
      · exact absurd z m3
  reg := by
    refine ⟨Z', g.ok, g.zf, fun b h n => ?_, fun a h z => ?_, fun i a h z => ?_⟩
    · rcases g.zi b h with q | q
      · exact hz2 b q n
      · cases e : c.H0 b with
        | none => rfl
        | some o => exact absurd q (S.live b (by rw [e]; exact fun z => by cases z))
    · rcases g.zi a z with q | q
      · exact hzO a h q
      · exact absurd q (S.out a h).2.2
    · rcases g.zi a z with q | q
      · exact hzo i a h q
      · obtain ⟨d, _, ow⟩ := h.there (S.slots i)
        exact absurd q ow.there
theorem ko_R {F H F' H' : Hp} {O : List Addr} {σ : L2.St} {ρ : DS c.R} {Z Z' : Addr → Prop} {g' : c.R.G} (S : St c F O σ ρ H) (hzO : ∀ a ∈ O, ¬ Z a) (g : GrowR c.R ρ.g F H Z g' F' H' Z') : ∀ a ∈ O, H' a = H a := fun a h => by
  cases q : H a with
  | none => exact absurd q (S.out a h).2.2
  | some o => exact g.keep _ _ q (hzO a h)
theorem de_callR {m : WMR c.R} (C : Cal X.prog X.w X.K X.mg X.base x k ps (spR c.R c.K m)) (hr : Room j X.A) (ha : DA X c pa (e :: es) wa) (hj : k ≤ j := by decide) (hk : X.K = c.K := by rfl) (hg : Gl X x := by rfl) (hdb : (x == ("__debug__" : Str)) = false := by decide)
    (he : starEach (e :: es) X.env = (false, eval e X.env) :: starEach es X.env := by rfl) (hpl : (backTo pos (starEach es X.env)).any (·.1) = false := by rfl) : DE X c false false (.Call (.Name x p) (e :: es) [] pos) (wCallR m wa) :=
  ⟨(pe_cal C hr ha.pa hj hg hdb he hpl).imp fun σ H Q ⟨ρ, F, O, Kk, S, w, k⟩ => ⟨ρ, F, O, _, S, w, fun ds ρ1 vs F1 H1 hk S1 fs1 ko1 g1 r1 => by
    obtain ⟨Z, r, z1, z2, z3, z4⟩ := S1.reg
    exact ⟨ds, F1, Z, ρ1.g, _, S1.sub, by rw [app_nil]; exact r1, r, z1, hk, fun d g' v F' Z' H' hd gr rp =>
      k d ⟨g', ρ1.sl⟩ v F' H' hd (S1.growR z2 z3 z4 gr) (fs1.trans gr.fs) (fun q hq => by rw [ko_R S1 z3 gr q hq]; exact ko1 q hq) (fun z => by cases z) rp⟩⟩, hk⟩
theorem fe_callR {m : WMR c.R} (C : Cal X.prog X.w X.K X.mg X.base x k ps (spRF c.R c.K m)) (hr : Room j X.A) (ha : DA X c pa (e :: es) wa) (hj : k ≤ j := by decide) (hk : X.K = c.K := by rfl) (hg : Gl X x := by rfl) (hdb : (x == ("__debug__" : Str)) = false := by decide)
    (he : starEach (e :: es) X.env = (false, eval e X.env) :: starEach es X.env := by rfl) (hpl : (backTo pos (starEach es X.env)).any (·.1) = false := by rfl) : FE X c false (.Call (.Name x p) (e :: es) [] pos) (wCallR m wa) :=
  ⟨(pe_cal C hr ha.pa hj hg hdb he hpl).imp fun σ H Q ⟨ρ, F, O, Kk, S, w, k⟩ => ⟨ρ, F, O, _, S, w, fun ds ρ1 vs F1 H1 hk S1 fs1 ko1 g1 r1 => by
    obtain ⟨Z, r, z1, z2, z3, z4⟩ := S1.reg
    exact ⟨ds, F1, Z, ρ1.g, _, S1.sub, by rw [app_nil]; exact r1, r, z1, hk, fun d g' q o F' Z' H' hd gr hq ob =>
      k d ⟨g', ρ1.sl⟩ q o F' H' hd (S1.growR z2 z3 z4 gr) (fs1.trans gr.fs) (fun q hq => by rw [ko_R S1 z3 gr q hq]; exact ko1 q hq) (fun z => by cases z) hq ob⟩⟩, hk⟩
end
end Q

set_option Elab.async false
set_option linter.all false
set_option maxRecDepth 100000
set_option maxHeartbeats 4000000
namespace Q
open PySem PySem.Spec PyProof.Rows L2
/-! ### statements over data -/
/-- what is so of the heap at a body's end -/
structure Fin (c : Ctx) (F H : Hp) (g : c.R.G) : Prop where
  sub : Same F H
  old : Same c.F0 F
  new : ∀ b, F b ≠ none → c.F0 b = none → c.H0 b = none
  keep : ∀ b o, c.H0 b = some o → ¬ c.Z0 b → H b = some o
  live : ∀ b, c.H0 b ≠ none → H b ≠ none
  reg : ∃ Z, c.R.ok g Z H ∧ (∀ b, Z b → F b = none) ∧ (∀ b, Z b → ¬ c.Z0 b → c.H0 b = none)
theorem St.fin {c : Ctx} {F H : Hp} {O : List Addr} {σ : L2.St} {ρ : DS c.R} (S : St c F O σ ρ H) : Fin c F H ρ.g :=
  ⟨S.sub, S.old, S.new, S.keep, S.live, let ⟨Z, r, z1, z2, _⟩ := S.reg; ⟨Z, r, z1, z2⟩⟩
structure DEnds (R : Rgn) where
  nx : DS R → Prop
  rt : D → R.G → Prop
  bk : DS R → Prop := fun _ => False
  ct : DS R → Prop := fun _ => False
abbrev WS (R : Rgn) := DEnds R → DS R → Prop
/-- what is handed back: data; a fresh object -/
def RtOk (c : Ctx) (rt : VK) (d : D) (g : c.R.G) : Bool → Prop
  | false => ∀ v F' H', Fin c F' H' g → Rep c.K F' v d → rt v H'
  | true => ∀ q o F' H', Fin c F' H' g → H' q = none → ObjD c.K F' o d → rt (.ref q) (upd H' q o)
def liftS (c : Ctx) (fr : Bool) (w : WS c.R) : TS := fun E σ H => ∃ (ρ : DS c.R) (F : Hp) (Dk : DEnds c.R), St c F [] σ ρ H ∧ w Dk ρ ∧
  (∀ ρ' σ' F' H', Dk.nx ρ' → St c F' [] σ' ρ' H' → Same F F' → E.nx σ' H') ∧ (∀ ρ' σ' F' H', Dk.bk ρ' → St c F' [] σ' ρ' H' → Same F F' → E.bk σ' H') ∧ (∀ ρ' σ' F' H', Dk.ct ρ' → St c F' [] σ' ρ' H' → Same F F' → E.ct σ' H') ∧
  (∀ d g, Dk.rt d g → RtOk c E.rt d g fr)
structure DS1 (X : Cx) (c : Ctx) (fr : Bool) (st : Stmt) (w : WS c.R) : Prop where
  ps : PS X st (liftS c fr w)
structure DSs (X : Cx) (c : Ctx) (fr : Bool) (st : List Stmt) (w : WS c.R) : Prop where
  ps : PSs X st (liftS c fr w)
section
variable {X : Cx} {c : Ctx} {fr : Bool} {st : Stmt} {rest : List Stmt} {e : Expr} {es : List Expr} {pos p : Pos} {pa pb ba bb : Bool} {we : WE c.R} {wa : WA c.R} {wt : WB c.R} {w w1 w2 : WS c.R}
def sNext {R : Rgn} : WS R := fun D ρ => D.nx ρ
def sSeq {R : Rgn} (w1 w2 : WS R) : WS R := fun D ρ => w1 { D with nx := fun ρ' => w2 D ρ' } ρ
/-- cut off by what is so behind the first one -/
def sCut {R : Rgn} (w1 w2 : WS R) : WS R := fun D ρ => ∃ I : DS R → Prop, w1 { D with nx := I } ρ ∧ ∀ ρ', I ρ' → w2 D ρ'
theorem ds_nil : DSs X c fr [] sNext := ⟨pss_nil.imp fun E σ H ⟨ρ, F, Dk, S, w, k1, k2, k3, k4⟩ => k1 ρ σ F H w S (Same.refl _)⟩
theorem seq_ok {E : Ends} {σ : L2.St} {H : Hp} (h : liftS c fr (sCut w1 w2) E σ H) : tSeq (liftS c fr w1) (liftS c fr w2) E σ H := by
  obtain ⟨ρ, F, Dk, S, ⟨I, w, w'⟩, k1, k2, k3, k4⟩ := h
  exact ⟨ρ, F, { Dk with nx := I }, S, w, fun ρ' σ' F' H' h S' fs => ⟨ρ', F', Dk, S', w' ρ' h, fun ρ2 σ2 F2 H2 h2 S2 fs2 => k1 ρ2 σ2 F2 H2 h2 S2 (fs.trans fs2), fun ρ2 σ2 F2 H2 h2 S2 fs2 => k2 ρ2 σ2 F2 H2 h2 S2 (fs.trans fs2),
    fun ρ2 σ2 F2 H2 h2 S2 fs2 => k3 ρ2 σ2 F2 H2 h2 S2 (fs.trans fs2), k4⟩, k2, k3, k4⟩
theorem ds_cut (h1 : DS1 X c fr st w1) (h2 : DSs X c fr rest w2) : DSs X c fr (st :: rest) (sCut w1 w2) := ⟨(pss_cons h1.ps h2.ps).imp fun E σ H h => seq_ok h⟩
theorem ds_cons (h1 : DS1 X c fr st w1) (h2 : DSs X c fr rest w2) : DSs X c fr (st :: rest) (sSeq w1 w2) :=
  ⟨(pss_cons h1.ps h2.ps).imp fun E σ H ⟨ρ, F, Dk, S, w, k⟩ => seq_ok ⟨ρ, F, Dk, S, ⟨_, w, fun _ h => h⟩, k⟩⟩
theorem ds_one (h1 : DS1 X c fr st w1) : DSs X c fr [st] w1 := ⟨pss_one h1.ps⟩
def sPass {R : Rgn} : WS R := fun D ρ => D.nx ρ
def sBreak {R : Rgn} : WS R := fun D ρ => D.bk ρ
def sCont {R : Rgn} : WS R := fun D ρ => D.ct ρ
theorem ds_pass : DS1 X c fr (.Pass pos) sPass := ⟨ps_pass.imp fun E σ H ⟨ρ, F, Dk, S, w, k1, k2, k3, k4⟩ => k1 ρ σ F H w S (Same.refl _)⟩
theorem ds_break : DS1 X c fr (.Break pos) sBreak := ⟨ps_break.imp fun E σ H ⟨ρ, F, Dk, S, w, k1, k2, k3, k4⟩ => k2 ρ σ F H w S (Same.refl _)⟩
theorem ds_continue : DS1 X c fr (.Continue pos) sCont := ⟨ps_continue.imp fun E σ H ⟨ρ, F, Dk, S, w, k1, k2, k3, k4⟩ => k3 ρ σ F H w S (Same.refl _)⟩
theorem ds_doc {x : Str} {j} {pos' : Pos} : DS1 X c fr (.Expr (.Constant (.str x) j pos') pos) sPass := ⟨(ps_expr pe_str).imp fun E σ H ⟨ρ, F, Dk, S, w, k1, k2, k3, k4⟩ => k1 ρ σ F H w S (Same.refl _)⟩
def sRet {R : Rgn} (we : WE R) : WS R := fun D ρ => we ρ fun d ρ1 => D.rt d ρ1.g
theorem ds_ret (he : DE X c pa false e we) : DS1 X c false (.Return (some e) pos) (sRet we) :=
  ⟨(ps_ret he.pe).imp fun E σ H ⟨ρ, F, Dk, S, w, k1, k2, k3, k4⟩ => ⟨ρ, F, [], _, S, w, fun d ρ1 v F1 H1 hk S1 fs1 ko1 g1 r1 => k4 d ρ1.g hk v F1 H1 S1.fin r1⟩⟩
theorem ds_retF (he : FE X c pa e we) : DS1 X c true (.Return (some e) pos) (sRet we) :=
  ⟨(ps_ret he.pe).imp fun E σ H ⟨ρ, F, Dk, S, w, k1, k2, k3, k4⟩ => ⟨ρ, F, [], _, S, w, fun d ρ1 q o F1 H1 hk S1 fs1 ko1 g1 hq ob => k4 d ρ1.g hk q o F1 H1 S1.fin hq ob⟩⟩
theorem ds_retN : DS1 X c false (.Return none pos) (fun D ρ => D.rt .non ρ.g) :=
  ⟨ps_retN.imp fun E σ H ⟨ρ, F, Dk, S, w, k1, k2, k3, k4⟩ => k4 .non ρ.g w .non F H S.fin .non⟩
theorem OwnAt.obj {K : PySem.W.Frag} {F H : Hp} {a : Addr} : ∀ {d : D}, OwnAt K F H a d → ∃ o, H a = some o ∧ ObjD K F o d
  | .lst _, ⟨vs, h, r⟩ => ⟨_, h, r⟩
  | .dct _ _, ⟨vs, h, n, r⟩ => ⟨_, h, n, r⟩
  | .dtt _ _, ⟨vs, h, n, r⟩ => ⟨_, h, n, r⟩
theorem ObjD.own {K : PySem.W.Frag} {F H : Hp} {a : Addr} {o : HO} {d : D} (h : H a = some o) (r : ObjD K F o d) : OwnAt K F H a d := by
  cases o <;> cases d <;> simp only [ObjD] at r
  · exact ⟨_, h, r⟩
  · exact ⟨_, h, r⟩
  · exact ⟨_, h, r⟩
/-- an object of the def's own is handed back as a fresh one -/
def sRetO {R : Rgn} (i : Nat) : WS R := fun D ρ => ∃ d, ρ.sl[i]? = some (some (.own d)) ∧ D.rt d ρ.g
theorem ds_retO {i : Nat} {x : Str} {pos' : Pos} (hN : X.N[i]? = some x := by rfl) (hv : Vis X.env.scope x := by first | exact .inl rfl | exact .inr (.inl rfl) | exact .inr (.inr rfl))
    (hd : (x == ("__debug__" : Str)) = false := by decide) (hcd : (x == ("__classdict__" : Str)) = false := by decide) : DS1 X c true (.Return (some (.Name x pos')) pos) (sRetO i) :=
  ⟨(ps_ret (pe_var hN hv hd hcd)).imp fun E σ H ⟨ρ, F, Dk, S, ⟨d, hd, w⟩, k1, k2, k3, k4⟩ => by
    have h := S.slots i
    rw [hd] at h
    obtain ⟨a, h1, ow⟩ := h
    obtain ⟨m1, m2, _⟩ := S.mine i a ⟨h1, d, hd⟩
    obtain ⟨o, ho, ob⟩ := ow.obj
    refine ⟨.ref a, h1, ?_⟩
    have e : upd (fun b => if b = a then none else H b) a o = H := by
      funext b
      unfold upd
      by_cases z : b = a
      · subst z; rw [if_pos rfl, ho]
      · rw [if_neg z]; show (if b = a then none else H b) = H b; rw [if_neg z]
    have nk : ∀ b u, (F b = some u ∨ c.H0 b = some u) → b ≠ a := fun b u h z => by
      subst z
      rcases h with h | h
      · rw [m1] at h; cases h
      · rw [m2] at h; cases h
    obtain ⟨Z, r, z1, z2, z3, z4⟩ := S.reg
    have fin : Fin c F (fun b => if b = a then none else H b) ρ.g := by
      refine ⟨fun b u q => ?_, S.old, S.new, fun b u q n => ?_, fun b n => ?_, Z, c.R.fr r fun b hb => ?_, z1, z2⟩
      · show (if b = a then none else H b) = some u
        rw [if_neg (nk b u (.inl q))]; exact S.sub _ _ q
      · show (if b = a then none else H b) = some u
        rw [if_neg (nk b u (.inr q))]; exact S.keep b u q n
      · show (if b = a then none else H b) ≠ none
        cases q : c.H0 b with
        | none => exact absurd q n
        | some u => rw [if_neg (nk b u (.inr q))]; exact S.live b n
      · show (if b = a then none else H b) = H b
        rw [if_neg]
        intro z
        subst z
        exact z4 i b ⟨h1, d, hd⟩ hb
    have := k4 d ρ.g w a o F (fun b => if b = a then none else H b) fin (by rw [if_pos rfl]) ob
    rw [e] at this
    exact this⟩
def sDrop {R : Rgn} (we : WE R) : WS R := fun D ρ => we ρ fun _ ρ1 => D.nx ρ1
theorem ds_expr (he : DE X c pa ba e we) (hs : swapsWith e none pos.line X.env = pure false := by rfl) : DS1 X c fr (.Expr e pos) (sDrop we) :=
  ⟨(ps_expr he.pe hs).imp fun E σ H ⟨ρ, F, Dk, S, w, k1, k2, k3, k4⟩ => ⟨ρ, F, [], _, S, w, fun d ρ1 v F1 H1 hk S1 fs1 ko1 g1 r1 => k1 ρ1 σ F1 H1 hk S1 fs1⟩⟩
def sIf {R : Rgn} (wt : WB R) (w1 w2 : WS R) : WS R := fun D ρ => wt ρ fun b ρ1 => if b = true then w1 D ρ1 else w2 D ρ1
theorem ds_if {a b : List Stmt} (ht : DT X c pa e wt) (h1 : DSs X c fr a w1) (h2 : DSs X c fr b w2) : DS1 X c fr (.If e a b pos) (sIf wt w1 w2) :=
  ⟨(ps_if ht.pt h1.ps h2.ps).imp fun E σ H ⟨ρ, F, Dk, S, w, k1, k2, k3, k4⟩ => ⟨ρ, F, [], _, S, w, fun b ρ1 F1 H1 hk S1 fs1 ko1 g1 => by
    cases b with
    | true =>
      rw [if_pos rfl] at hk ⊢
      exact ⟨ρ1, F1, Dk, S1, hk, fun ρ2 σ2 F2 H2 h2 S2 fs2 => k1 ρ2 σ2 F2 H2 h2 S2 (fs1.trans fs2), fun ρ2 σ2 F2 H2 h2 S2 fs2 => k2 ρ2 σ2 F2 H2 h2 S2 (fs1.trans fs2), fun ρ2 σ2 F2 H2 h2 S2 fs2 => k3 ρ2 σ2 F2 H2 h2 S2 (fs1.trans fs2), k4⟩
    | false =>
      rw [if_neg (by decide)] at hk ⊢
      exact ⟨ρ1, F1, Dk, S1, hk, fun ρ2 σ2 F2 H2 h2 S2 fs2 => k1 ρ2 σ2 F2 H2 h2 S2 (fs1.trans fs2), fun ρ2 σ2 F2 H2 h2 S2 fs2 => k2 ρ2 σ2 F2 H2 h2 S2 (fs1.trans fs2), fun ρ2 σ2 F2 H2 h2 S2 fs2 => k3 ρ2 σ2 F2 H2 h2 S2 (fs1.trans fs2), k4⟩⟩⟩
/-- x = e -/
def sSet {R : Rgn} (i : Nat) (we : WE R) : WS R := fun D ρ => we ρ fun d ρ1 => D.nx (ρ1.put i (some (.fz d)))
theorem ds_set {i : Nat} {x : Str} {pos' : Pos} (hN : X.N.Nodup) (he : DE X c pa false e we) (hi : X.N[i]? = some x := by rfl) (hx : Loc X.env.scope x := by first | exact Or.inl rfl | exact Or.inr rfl) (hs : swapsWith e (some (.Name x pos')) pos.line X.env = pure false := by rfl)
    (hf : X.fn x = true ∨ X.env.scope.names.lookup x = some .local := by first | exact .inl rfl | exact .inr rfl | assumption) : DS1 X c fr (.Assign [.Name x pos'] e pos) (sSet i we) :=
  ⟨(ps_set hN hi hx he.pe hs hf).imp fun E σ H ⟨ρ, F, Dk, S, w, k1, k2, k3, k4⟩ => ⟨ρ, F, [], _, S, w, fun d ρ1 v F1 H1 hk S1 fs1 ko1 g1 r1 => k1 _ _ F1 H1 hk (S1.setF r1 i) fs1⟩⟩
/-- a slot is set to a fresh object -/
theorem St.setO {F H : Hp} {σ : L2.St} {ρ : DS c.R} (S : St c F [] σ ρ H) {q : Addr} {o : HO} {d : D} (hq : H q = none) (ob : ObjD c.K F o d) (i : Nat) : St c F [] (σ.set i (some (.ref q))) (ρ.put i (some (.own d))) (upd H q o) := by
  have hF : F q = none := by
    cases e : F q with
    | none => rfl
    | some u => rw [S.sub _ _ e] at hq; cases hq
  have h0 : c.H0 q = none := by
    cases e : c.H0 q with
    | none => rfl
    | some u => exact absurd hq (S.live q (by rw [e]; exact fun z => by cases z))
  obtain ⟨Z, r, z1, z2, z3, z4⟩ := S.reg
  have hZ : ¬ Z q := fun z => c.R.al r q z hq
  have own : ∀ j a, Owns (σ.set i (some (.ref q))) (ρ.put i (some (.own d))).sl j a → (j = i ∧ a = q) ∨ (j ≠ i ∧ Owns σ ρ.sl j a ∧ a ≠ q) := fun j a h => by
    obtain ⟨h1, x, h2⟩ := h
    have h2 : (ρ.sl.set i (some (.own d)))[j]? = some (some (.own x)) := h2
    rw [set_get] at h1 h2
    by_cases e : i = j
    · rw [if_pos e] at h1
      split at h1
      · cases h1; exact .inl ⟨e.symm, rfl⟩
      · cases h1
    · rw [if_neg e] at h1 h2
      have ow : Owns σ ρ.sl j a := ⟨h1, x, h2⟩
      refine .inr ⟨fun z => e z.symm, ow, fun z => ?_⟩
      obtain ⟨y, _, oa⟩ := ow.there (S.slots j)
      rw [z] at oa
      exact oa.there hq
  refine ⟨by show (σ.set i _).length = (ρ.sl.set i _).length; rw [List.length_set, List.length_set]; exact S.len, fun b u e => ?_, S.old, S.new, fun b u e n => ?_, fun b n => ?_, fun j => ?_, fun j a h => ?_, fun j k a h h' => ?_, (fun a h => by cases h), ?_⟩
  · rw [upd_ne (fun z => by rw [z, hF] at e; cases e)]; exact S.sub _ _ e
  · rw [upd_ne (fun z => by rw [z, h0] at e; cases e)]; exact S.keep b u e n
  · rw [upd_ne (fun z => by rw [z] at n; exact n h0)]; exact S.live b n
  · show SlotOk c.K F (upd H q o) (σ.set i (some (.ref q))) j (ρ.sl.set i (some (.own d)))[j]?
    rw [set_get]
    by_cases e : i = j
    · subst e
      rw [if_pos rfl]
      by_cases z : i < ρ.sl.length
      · rw [if_pos z]
        exact ⟨q, by rw [set_get, if_pos rfl, if_pos (by rw [S.len]; exact z)], ObjD.own upd_same ob⟩
      · rw [if_neg z]; trivial
    · rw [if_neg e]
      have h := S.slots j
      have e2 : (σ.set i (some (V.ref q)))[j]? = σ[j]? := by rw [set_get, if_neg e]
      cases z : ρ.sl[j]? with
      | none => trivial
      | some x =>
        rw [z] at h
        cases x with
        | none => trivial
        | some x =>
          cases x with
          | fz d =>
            obtain ⟨v, h1, h2⟩ := h
            exact ⟨v, by rw [e2]; exact h1, h2⟩
          | own d =>
            obtain ⟨a, h1, h2⟩ := h
            refine ⟨a, by rw [e2]; exact h1, h2.same (Same.refl _) ?_⟩
            rw [upd_ne (fun y => by rw [y] at h2; exact h2.there hq)]
  · rcases own j a h with ⟨_, rfl⟩ | ⟨_, ow, _⟩
    · exact ⟨hF, h0, fun z => by cases z⟩
    · exact S.mine j a ow
  · rcases own j a h with ⟨rfl, rfl⟩ | ⟨n1, ow, na⟩
    · rcases own k a h' with ⟨rfl, _⟩ | ⟨_, _, na⟩
      · rfl
      · exact absurd rfl na
    · rcases own k a h' with ⟨_, rfl⟩ | ⟨_, ow', _⟩
      · exact absurd rfl na
      · exact S.inj j k a ow ow'
  · refine ⟨Z, c.R.fr r fun a h => by rw [upd_ne (fun y => hZ (by rw [← y]; exact h))], z1, z2, (fun a h => by cases h), fun j a h => ?_⟩
    rcases own j a h with ⟨_, rfl⟩ | ⟨_, ow, _⟩
    · exact hZ
    · exact z4 j a ow
def sNew {R : Rgn} (i : Nat) (we : WE R) : WS R := fun D ρ => we ρ fun d ρ1 => D.nx (ρ1.put i (some (.own d)))
theorem ds_new {i : Nat} {x : Str} {pos' : Pos} (hN : X.N.Nodup) (he : FE X c pa e we) (hi : X.N[i]? = some x := by rfl) (hx : Loc X.env.scope x := by first | exact Or.inl rfl | exact Or.inr rfl) (hs : swapsWith e (some (.Name x pos')) pos.line X.env = pure false := by rfl)
    (hf : X.fn x = true ∨ X.env.scope.names.lookup x = some .local := by first | exact .inl rfl | exact .inr rfl | assumption) : DS1 X c fr (.Assign [.Name x pos'] e pos) (sNew i we) :=
  ⟨(ps_set hN hi hx he.pe hs hf).imp fun E σ H ⟨ρ, F, Dk, S, w, k1, k2, k3, k4⟩ => ⟨ρ, F, [], _, S, w, fun d ρ1 q o F1 H1 hk S1 fs1 ko1 g1 hq ob => k1 _ _ F1 _ hk (S1.setO hq ob i) fs1⟩⟩
end
/-! ### a def's body -/
def startD (N : List Str) (ds : List D) : List (Option DV) := ds.map (fun d => some (.fz d)) ++ List.replicate (N.length - ds.length) none
theorem St.start {K : PySem.W.Frag} {R : Rgn} {F H : Hp} {Z : Addr → Prop} {N : List Str} {vs : List V} {ds : List D} {g : R.G} (sub : Same F H) (r : Reps K F vs ds) (ok : R.ok g Z H) (zf : ∀ b, Z b → F b = none) :
    St ⟨K, R, H, F, Z⟩ F [] (L2.start N vs) ⟨g, startD N ds⟩ H := by
  have own : ∀ i a, ¬ Owns (L2.start N vs) (startD N ds) i a := fun i a h => by
    obtain ⟨_, d, h2⟩ := h
    unfold startD at h2
    rcases List.mem_append.mp (List.mem_of_getElem? h2) with m | m
    · obtain ⟨x, _, e⟩ := List.mem_map.mp m
      cases e
    · have := List.eq_of_mem_replicate m
      cases this
  refine ⟨?_, sub, Same.refl _, fun b n e => absurd e n, fun b o e _ => e, fun b n => n, fun i => ?_, fun i a h => absurd h (own i a), fun i j a h => absurd h (own i a), (fun a h => by cases h), ⟨Z, ok, zf, fun b z n => absurd z n, (fun a h => by cases h), fun i a h => absurd h (own i a)⟩⟩
  · show (vs.map some ++ List.replicate (N.length - vs.length) none).length = (ds.map (fun d => some (DV.fz d)) ++ List.replicate (N.length - ds.length) none).length
    simp [r.length]
  · show SlotOk K F H (vs.map some ++ List.replicate (N.length - vs.length) none) i (ds.map (fun d => some (DV.fz d)) ++ List.replicate (N.length - ds.length) none)[i]?
    by_cases h : i < ds.length
    · rw [List.getElem?_append_left (by simpa using h)]
      have hd : ds[i]? = some ds[i] := by simp [h]
      obtain ⟨v, hv, rp⟩ := r.get' hd
      rw [List.getElem?_map, hd]
      refine ⟨v, ?_, rp⟩
      rw [List.getElem?_append_left (by rw [List.length_map, r.length]; exact h), List.getElem?_map, hv]
      rfl
    · rw [List.getElem?_append_right (by simpa using Nat.le_of_not_lt h)]
      cases e : (List.replicate (N.length - ds.length) (none : Option DV))[i - (ds.map (fun d => some (DV.fz d))).length]? with
      | none => trivial
      | some x =>
        have := List.eq_of_mem_replicate (List.mem_of_getElem? e)
        subst this
        trivial
section
variable {P : Program} {w : World} {K : PySem.W.Frag} {mg : Str → Option Value} {base : Heap} {x q : Str} {st : Stmt} {f : Addr} {fd : FuncData} {N ps : List Str} {k : Nat}
/-- the context of a def's body -/
abbrev bodyX (P : Program) (w : World) (K : PySem.W.Frag) (mg : Str → Option Value) (base : Heap) (N : List Str) (q : Str) (st : Stmt) (f : Addr) (cdv : Value) (A : Around) (outer : List Env) (s : Shared) (H : Hp) (E : XK) : Cx :=
  (cxOf CX0 P w K mg base N q (defScope st) f cdv A outer s H E).nox
theorem fin_grow {R : Rgn} {F H F' H' : Hp} {Z : Addr → Prop} {g : R.G} (fin : Fin ⟨K, R, H, F, Z⟩ F' H' g) : (∀ b, F' b ≠ none → F b ≠ none ∨ H b = none) := fun b n => by
  cases e : F b with
  | none => exact .inr (fin.new b n e)
  | some o => exact .inl fun z => by cases z
theorem FnD {m : WM} (F : FnP K x q st f fd) (S : FnScope N ps (defScope st)) (hm : ∀ ds Kk, m ds Kk → ds.length = ps.length)
    (hbody : ∀ (cdv : Value) (A : Around) (outer : List Env) (s : Shared) (H Fz : Hp) (E : XK), Room k (A.deeper (envOfC q (defScope st) s.heap.objs.size f cdv)) →
      ∃ w' : WS noR, DSs (bodyX P w K mg base N q st f cdv A outer s H E) ⟨K, noR, H, Fz, fun _ => False⟩ false (defBody st) w' ∧
        ∀ ds Kk, m ds Kk → w' { nx := fun _ => Kk .non, rt := fun d _ => Kk d } ⟨noG, startD N ds⟩) : FnOk P w K mg base CX0 (k + 1) f fd ps (spD K m) := by
  refine F.ok S (fun vs H Q E h => ?_) (fun cdv A outer s H vs Q E hr h => ?_)
  · obtain ⟨ds, F, Kk, _, r, hw, _⟩ := h
    rw [r.length]
    exact hm ds Kk hw
  · obtain ⟨ds, Fz, Kk, sub, r, hw, k⟩ := h
    obtain ⟨w', hb, hw'⟩ := hbody cdv A outer s H Fz E hr
    have gr : ∀ {F' H' : Hp} {g : noR.G}, Fin ⟨K, noR, H, Fz, fun _ => False⟩ F' H' g → Grow Fz H F' H' := fun fin => ⟨fin.old, fin.sub, fun b o e => fin.keep b o e id, fin_grow fin⟩
    exact ⟨_, PSs.nox hb.ps, _, Fz, _, St.start sub r (fun a h => h) (fun b h => h.elim), hw' ds Kk hw, fun ρ' σ' F' H' h S' _ => k .non .non F' H' h (gr S'.fin) .non, (fun _ _ _ _ h => h.elim), (fun _ _ _ _ h => h.elim),
      fun d g h v F' H' fin rp => k d v F' H' h (gr fin) rp⟩
theorem FnF {m : WM} (F : FnP K x q st f fd) (S : FnScope N ps (defScope st)) (hm : ∀ ds Kk, m ds Kk → ds.length = ps.length)
    (hbody : ∀ (cdv : Value) (A : Around) (outer : List Env) (s : Shared) (H Fz : Hp) (E : XK), Room k (A.deeper (envOfC q (defScope st) s.heap.objs.size f cdv)) →
      ∃ w' : WS noR, DSs (bodyX P w K mg base N q st f cdv A outer s H E) ⟨K, noR, H, Fz, fun _ => False⟩ true (defBody st) w' ∧
        ∀ ds Kk, m ds Kk → w' { nx := fun _ => False, rt := fun d _ => Kk d } ⟨noG, startD N ds⟩) : FnOk P w K mg base CX0 (k + 1) f fd ps (spF K m) := by
  refine F.ok S (fun vs H Q E h => ?_) (fun cdv A outer s H vs Q E hr h => ?_)
  · obtain ⟨ds, F, Kk, _, r, hw, _⟩ := h
    rw [r.length]
    exact hm ds Kk hw
  · obtain ⟨ds, Fz, Kk, sub, r, hw, k⟩ := h
    obtain ⟨w', hb, hw'⟩ := hbody cdv A outer s H Fz E hr
    have gr : ∀ {F' H' : Hp} {g : noR.G}, Fin ⟨K, noR, H, Fz, fun _ => False⟩ F' H' g → Grow Fz H F' H' := fun fin => ⟨fin.old, fin.sub, fun b o e => fin.keep b o e id, fin_grow fin⟩
    exact ⟨_, PSs.nox hb.ps, _, Fz, _, St.start sub r (fun a h => h) (fun b h => h.elim), hw' ds Kk hw, (fun ρ' σ' F' H' h S' _ => h.elim), (fun _ _ _ _ h => h.elim), (fun _ _ _ _ h => h.elim),
      fun d g h q o F' H' fin hq ob => k d q o F' H' h (gr fin) hq ob⟩
theorem FnR {R : Rgn} {m : WMR R} (F : FnP K x q st f fd) (S : FnScope N ps (defScope st)) (hm : ∀ ds g Kk, m ds g Kk → ds.length = ps.length)
    (hbody : ∀ (cdv : Value) (A : Around) (outer : List Env) (s : Shared) (H Fz : Hp) (Z : Addr → Prop) (E : XK), Room k (A.deeper (envOfC q (defScope st) s.heap.objs.size f cdv)) →
      ∃ w' : WS R, DSs (bodyX P w K mg base N q st f cdv A outer s H E) ⟨K, R, H, Fz, Z⟩ false (defBody st) w' ∧
        ∀ ds g Kk, m ds g Kk → w' { nx := fun ρ => Kk .non ρ.g, rt := fun d g => Kk d g } ⟨g, startD N ds⟩) : FnOk P w K mg base CX0 (k + 1) f fd ps (spR R K m) := by
  refine F.ok S (fun vs H Q E h => ?_) (fun cdv A outer s H vs Q E hr h => ?_)
  · obtain ⟨ds, F, Z, g, Kk, _, r, _, _, hw, _⟩ := h
    rw [r.length]
    exact hm ds g Kk hw
  · obtain ⟨ds, Fz, Z, g, Kk, sub, r, ok, zf, hw, k⟩ := h
    obtain ⟨w', hb, hw'⟩ := hbody cdv A outer s H Fz Z E hr
    have gr : ∀ {F' H' : Hp} {g' : R.G}, Fin ⟨K, R, H, Fz, Z⟩ F' H' g' → ∃ Z', GrowR R g Fz H Z g' F' H' Z' := fun {F' H' g'} fin => by
      obtain ⟨Z', ok', z1, z2⟩ := fin.reg
      refine ⟨Z', fin.old, fin.sub, fin_grow fin, fin.keep, fin.live, ok', z1, fun b h => ?_⟩
      by_cases e : Z b
      · exact .inl e
      · exact .inr (z2 b h e)
    exact ⟨_, PSs.nox hb.ps, _, Fz, _, St.start sub r ok zf, hw' ds g Kk hw, fun ρ' σ' F' H' h S' _ => (gr S'.fin).elim fun Z' gz => k .non ρ'.g .non F' Z' H' h gz .non, (fun _ _ _ _ h => h.elim), (fun _ _ _ _ h => h.elim),
      fun d g' h v F' H' fin rp => (gr fin).elim fun Z' gz => k d g' v F' Z' H' h gz rp⟩
theorem FnRF {R : Rgn} {m : WMR R} (F : FnP K x q st f fd) (S : FnScope N ps (defScope st)) (hm : ∀ ds g Kk, m ds g Kk → ds.length = ps.length)
    (hbody : ∀ (cdv : Value) (A : Around) (outer : List Env) (s : Shared) (H Fz : Hp) (Z : Addr → Prop) (E : XK), Room k (A.deeper (envOfC q (defScope st) s.heap.objs.size f cdv)) →
      ∃ w' : WS R, DSs (bodyX P w K mg base N q st f cdv A outer s H E) ⟨K, R, H, Fz, Z⟩ true (defBody st) w' ∧
        ∀ ds g Kk, m ds g Kk → w' { nx := fun ρ => False, rt := fun d g => Kk d g } ⟨g, startD N ds⟩) : FnOk P w K mg base CX0 (k + 1) f fd ps (spRF R K m) := by
  refine F.ok S (fun vs H Q E h => ?_) (fun cdv A outer s H vs Q E hr h => ?_)
  · obtain ⟨ds, F, Z, g, Kk, _, r, _, _, hw, _⟩ := h
    rw [r.length]
    exact hm ds g Kk hw
  · obtain ⟨ds, Fz, Z, g, Kk, sub, r, ok, zf, hw, k⟩ := h
    obtain ⟨w', hb, hw'⟩ := hbody cdv A outer s H Fz Z E hr
    have gr : ∀ {F' H' : Hp} {g' : R.G}, Fin ⟨K, R, H, Fz, Z⟩ F' H' g' → ∃ Z', GrowR R g Fz H Z g' F' H' Z' := fun {F' H' g'} fin => by
      obtain ⟨Z', ok', z1, z2⟩ := fin.reg
      refine ⟨Z', fin.old, fin.sub, fin_grow fin, fin.keep, fin.live, ok', z1, fun b h => ?_⟩
      by_cases e : Z b
      · exact .inl e
      · exact .inr (z2 b h e)
    exact ⟨_, PSs.nox hb.ps, _, Fz, _, St.start sub r ok zf, hw' ds g Kk hw, (fun ρ' σ' F' H' h S' _ => h.elim), (fun _ _ _ _ h => h.elim), (fun _ _ _ _ h => h.elim),
      fun d g' h q o F' H' fin hq ob => (gr fin).elim fun Z' gz => k d g' q o F' Z' H' h gz hq ob⟩
end
end Q

set_option Elab.async false
set_option linter.all false
set_option maxRecDepth 100000
set_option maxHeartbeats 4000000
namespace Q
open PySem PySem.Spec PyProof.Rows L2
section
variable {X : Cx} {c : Ctx} {fr : Bool} {st : Stmt} {rest : List Stmt} {e : Expr} {es : List Expr} {pos p : Pos} {pa pb ba bb : Bool} {we : WE c.R} {wa : WA c.R} {wt : WB c.R} {w w1 w2 : WS c.R}
/-- an object of the def's own is written -/
theorem St.write {F H : Hp} {O : List Addr} {σ : L2.St} {ρ : DS c.R} {i : Nat} {q : Addr} {d d' : D} {o : HO} (S : St c F O σ ρ H) (h1 : σ[i]? = some (some (.ref q))) (h2 : ρ.sl[i]? = some (some (.own d))) (ob : ObjD c.K F o d') :
    St c F O σ (ρ.put i (some (.own d'))) (upd H q o) := by
  have ns : Owns σ ρ.sl i q := ⟨h1, d, h2⟩
  obtain ⟨m1, m2, m3⟩ := S.mine i q ns
  obtain ⟨Z, r, z1, z2, z3, z4⟩ := S.reg
  have own : ∀ j a, Owns σ (ρ.put i (some (.own d'))).sl j a → Owns σ ρ.sl j a := fun j a ⟨g1, x, g2⟩ => by
    have g2 : (ρ.sl.set i (some (.own d')))[j]? = some (some (.own x)) := g2
    rw [set_get] at g2
    by_cases e : i = j
    · subst e; exact ⟨g1, d, h2⟩
    · rw [if_neg e] at g2
      exact ⟨g1, x, g2⟩
  refine ⟨by show σ.length = (ρ.sl.set i _).length; rw [List.length_set]; exact S.len, fun b u z => ?_, S.old, S.new, fun b u z n => ?_, fun b n => ?_, fun j => ?_, fun j a h => S.mine j a (own j a h), fun j k a h h' => S.inj j k a (own j a h) (own k a h'), fun a h => ?_, ?_⟩
  · rw [upd_ne (fun y => by rw [y, m1] at z; cases z)]; exact S.sub _ _ z
  · rw [upd_ne (fun y => by rw [y, m2] at z; cases z)]; exact S.keep b u z n
  · rw [upd_ne (fun y => by rw [y] at n; exact n m2)]; exact S.live b n
  · show SlotOk c.K F (upd H q o) σ j (ρ.sl.set i (some (.own d')))[j]?
    rw [set_get]
    by_cases e : i = j
    · subst e
      rw [if_pos rfl]
      by_cases z : i < ρ.sl.length
      · rw [if_pos z]
        exact ⟨q, h1, ObjD.own upd_same ob⟩
      · rw [if_neg z]; trivial
    · rw [if_neg e]
      have h := S.slots j
      cases z : ρ.sl[j]? with
      | none => trivial
      | some x =>
        rw [z] at h
        cases x with
        | none => trivial
        | some x =>
          cases x with
          | fz d => exact h
          | own d =>
            obtain ⟨a, g1, g2⟩ := h
            refine ⟨a, g1, g2.same (Same.refl _) ?_⟩
            rw [upd_ne (fun y => e (S.inj i j q ns ⟨by rw [← y]; exact g1, d, z⟩))]
  · obtain ⟨n1, n2, n3⟩ := S.out a h
    refine ⟨n1, n2, ?_⟩
    rw [upd_ne (fun y => m3 (by rw [← y]; exact h))]
    exact n3
  · exact ⟨Z, c.R.fr r fun a h => by rw [upd_ne (fun y => z4 i q ns (by rw [← y]; exact h))], z1, z2, z3, fun j a h => z4 j a (own j a h)⟩
theorem own_at {F H : Hp} {O : List Addr} {σ : L2.St} {ρ : DS c.R} {i : Nat} {d : D} (S : St c F O σ ρ H) (h2 : ρ.sl[i]? = some (some (.own d))) : ∃ q, σ[i]? = some (some (.ref q)) ∧ OwnAt c.K F H q d := by
  have h := S.slots i
  rw [h2] at h
  exact h
/-- x.append(e) -/
def sApp {R : Rgn} (i : Nat) (we : WE R) : WS R := fun D ρ => (∃ ds, ρ.sl[i]? = some (some (.own (.lst ds)))) ∧ we ρ fun d ρ1 => ∃ ds, ρ1.sl[i]? = some (some (.own (.lst ds))) ∧ ds.length < 100000 ∧ D.nx (ρ1.put i (some (.own (.lst (ds ++ [d])))))
theorem ds_app {i : Nat} {x : Str} {ep pp qp : Pos} (he : DE X c pa false e we) (hk : X.K = c.K := by rfl) (hN : X.N[i]? = some x := by rfl) (hv : Vis X.env.scope x := by first | exact .inl rfl | exact .inr (.inl rfl) | exact .inr (.inr rfl))
    (hd : (x == ("__debug__" : Str)) = false := by decide) (hcd : (x == ("__classdict__" : Str)) = false := by decide)
    (hbase : attributeBase (.Name x pp) "append" X.env (eval (.Name x pp) X.env) = eval (.Name x pp) X.env := by rfl)
    (hfew : ((backTo ep (starEach [e] X.env)).all (fun x => !x.1) && (backToKw ep (keywordEach [] X.env)).all (fun x => x.1.isSome) && decide (([e] : List Expr).length + ([] : List Keyword).length + (if ([] : List Keyword).isEmpty then 0 else 1) < 30)) = true := by rfl)
    (hline : (qp.endLine == ep.line) = true := by rfl) (hst : starEach [e] X.env = (false, eval e X.env) :: starEach [] X.env := by rfl) (hplain : (backTo ep (starEach [] X.env)).any (·.1) = false := by rfl)
    (hs : swapsWith (.Call (.Attribute (.Name x pp) "append" qp) [e] [] ep) none pos.line X.env = pure false := by rfl) :
    DS1 X c fr (.Expr (.Call (.Attribute (.Name x pp) "append" qp) [e] [] ep) pos) (sApp i we) :=
  ⟨(ps_expr (pe_bm PySem.F.plainAttrs_list PySem.F.slot_list_append PySem.F.type_list_append mt_append (pe_var hN hv hd hcd) (pa_cons he.pe pa_nil hst) hbase hfew hline hst hplain) hs).imp fun E σ H ⟨ρ, F, Dk, S, ⟨⟨ds0, h0⟩, w⟩, k1, k2, k3, k4⟩ => by
    obtain ⟨q, hq, vs0, hvs0, _⟩ := own_at S h0
    refine ⟨.ref q, hq, .inl ⟨rfl, vs0, SqL.of hvs0⟩, ρ, F, [], _, S, w, fun d ρ1 v F1 H1 ⟨ds, h2, hz, hk⟩ S1 fs1 ko1 g1 r1 => ?_⟩
    obtain ⟨q', hq', vs, hvs, rv⟩ := own_at S1 h2
    rw [hq] at hq'
    cases hq'
    refine ⟨q, vs, v, rfl, rfl, hvs, by rw [rv.length]; exact Nat.lt_of_lt_of_le hz big_line, ?_⟩
    exact k1 _ σ F1 _ hk (S1.write hq h2 (o := .lst (vs ++ [v])) (rv.snoc r1)) fs1⟩
/-- x.extend(e), e a list -/
def sExt {R : Rgn} (i : Nat) (we : WE R) : WS R := fun D ρ => (∃ ds, ρ.sl[i]? = some (some (.own (.lst ds)))) ∧ we ρ fun d ρ1 => ∃ ds es, d = .lst es ∧ ρ1.sl[i]? = some (some (.own (.lst ds))) ∧ ds.length + es.length ≤ 100000 ∧ D.nx (ρ1.put i (some (.own (.lst (ds ++ es)))))
theorem ds_ext {i : Nat} {x : Str} {ep pp qp : Pos} (he : DE X c pa ba e we) (hk : X.K = c.K := by rfl) (hN : X.N[i]? = some x := by rfl) (hv : Vis X.env.scope x := by first | exact .inl rfl | exact .inr (.inl rfl) | exact .inr (.inr rfl))
    (hd : (x == ("__debug__" : Str)) = false := by decide) (hcd : (x == ("__classdict__" : Str)) = false := by decide)
    (hbase : attributeBase (.Name x pp) "extend" X.env (eval (.Name x pp) X.env) = eval (.Name x pp) X.env := by rfl)
    (hfew : ((backTo ep (starEach [e] X.env)).all (fun x => !x.1) && (backToKw ep (keywordEach [] X.env)).all (fun x => x.1.isSome) && decide (([e] : List Expr).length + ([] : List Keyword).length + (if ([] : List Keyword).isEmpty then 0 else 1) < 30)) = true := by rfl)
    (hline : (qp.endLine == ep.line) = true := by rfl) (hst : starEach [e] X.env = (false, eval e X.env) :: starEach [] X.env := by rfl) (hplain : (backTo ep (starEach [] X.env)).any (·.1) = false := by rfl)
    (hs : swapsWith (.Call (.Attribute (.Name x pp) "extend" qp) [e] [] ep) none pos.line X.env = pure false := by rfl) :
    DS1 X c fr (.Expr (.Call (.Attribute (.Name x pp) "extend" qp) [e] [] ep) pos) (sExt i we) :=
  ⟨(ps_expr (pe_bm PySem.F.plainAttrs_list PySem.F.slot_list_extend PySem.F.type_list_extend mt_extend (pe_var hN hv hd hcd) (pa_cons he.pe pa_nil hst) hbase hfew hline hst hplain) hs).imp fun E σ H ⟨ρ, F, Dk, S, ⟨⟨ds0, h0⟩, w⟩, k1, k2, k3, k4⟩ => by
    obtain ⟨q, hq, vs0, hvs0, _⟩ := own_at S h0
    refine ⟨.ref q, hq, .inl ⟨rfl, vs0, SqL.of hvs0⟩, ρ, F, [], _, S, w, fun d ρ1 v F1 H1 ⟨ds, es, e1, h2, hz, hk⟩ S1 fs1 ko1 g1 r1 => ?_⟩
    subst e1
    obtain ⟨q', hq', vs, hvs, rv⟩ := own_at S1 h2
    rw [hq] at hq'
    cases hq'
    obtain ⟨b, us, rfl, hb, ru⟩ := (r1.bv S1).lst S1.sub
    refine ⟨q, b, vs, us, rfl, rfl, hvs, hb, by rw [rv.length, ru.length]; exact Nat.le_trans hz big_line, ?_⟩
    exact k1 _ σ F1 _ hk (S1.write hq h2 (o := .lst (vs ++ us)) (rv.append ru)) fs1⟩
/-- x[k] = e, x a list of the def's own -/
def sPutL {R : Rgn} (i : Nat) (we wk : WE R) : WS R := fun D ρ => we ρ fun d ρ1 => (∃ d0, ρ1.sl[i]? = some (some (.own d0))) ∧ wk ρ1 fun k ρ2 => ∃ n ds j, k = .int n ∧ ρ2.sl[i]? = some (some (.own (.lst ds))) ∧ ixN ds.length n = some j ∧ D.nx (ρ2.put i (some (.own (.lst (ds.set j d)))))
theorem ds_putL {i : Nat} {x : Str} {k : Expr} {wk : WE c.R} {pp qp : Pos} (he : DE X c pa false e we) (hx : DE X c pb bb k wk) (hN : X.N[i]? = some x := by rfl) (hv : Vis X.env.scope x := by first | exact .inl rfl | exact .inr (.inl rfl) | exact .inr (.inr rfl))
    (hd : (x == ("__debug__" : Str)) = false := by decide) (hcd : (x == ("__classdict__" : Str)) = false := by decide)
    (hasg : ∀ v, assign (.Subscript (.Name x pp) k qp) X.env v = (do
      let ov ← holding [v] (eval (.Name x pp) X.env)
      let iv ← holding [v, ov] (eval k X.env)
      standAt qp
      holding [v, ov, iv] (setItem ov iv v)
      release [v, ov, iv] []) := by intro _; rfl)
    (hs : swapsWithSole [.Subscript (.Name x pp) k qp] e pos.line X.env = pure false := by rfl) (hw : swappedStores [.Subscript (.Name x pp) k qp] e X.env = pure none := by rfl) :
    DS1 X c fr (.Assign [.Subscript (.Name x pp) k qp] e pos) (sPutL i we wk) :=
  ⟨(ps_asg he.pe (pg_sub (pe_var hN hv hd hcd) hx.pe set_list hasg) hs hw).imp fun E σ H ⟨ρ, F, Dk, S, w, k1, k2, k3, k4⟩ => by
    refine ⟨ρ, F, [], _, S, w, fun d ρ1 v F1 H1 ⟨⟨d0, h0⟩, hk⟩ S1 fs1 ko1 g1 r1 => ?_⟩
    obtain ⟨q, hq, _⟩ := own_at S1 h0
    refine ⟨.ref q, hq, ρ1, F1, [], _, S1, hk, fun kd ρ2 kv F2 H2 ⟨n, ds, j, en, h2, hj, hk2⟩ S2 fs2 ko2 g2 r2 => ?_⟩
    subst en
    obtain ⟨q', hq', vs, hvs, rv⟩ := own_at S2 h2
    rw [hq] at hq'
    cases hq'
    refine ⟨q, vs, n, j, rfl, (r2.bv S2).int, hvs, by rw [rv.length]; exact hj, ?_⟩
    exact k1 _ σ F2 _ hk2 (S2.write hq h2 (o := .lst (vs.set j v)) (Reps.set (Rep.same fs2 r1) j rv)) (fs1.trans fs2)⟩
end
end Q

set_option Elab.async false
set_option linter.all false
set_option maxRecDepth 100000
set_option maxHeartbeats 4000000
/-! the operators of Python over data -/
namespace Q
open PySem PySem.Spec PyProof.Rows L2
theorem BV.rt {K : PySem.W.Frag} {F H : Hp} {v : V} {ds : List D} (h : BV K F H v (.tup ds)) : Rep K F v (.tup ds) := by
  rcases h with r | ⟨_, o⟩
  · exact r
  · exact o.elim
/-! ### + - -/
def addD : D → D → Option D
  | .int a, .int b => some (.int (a + b))
  | .str a, .str b => if a.length + b.length ≤ 100000 then some (.str (a ++ b)) else none
  | .lst a, .lst b => if a.length + b.length ≤ 100000 then some (.lst (a ++ b)) else none
  | .tup a, .tup b => if a.length + b.length ≤ 100000 then some (.tup (a ++ b)) else none
  | _, _ => none
def rAddA (K : PySem.W.Frag) : R2 := fun x y H Q => ((rI0 (fun i j => .int (i + j)) x y H Q ∨ (∃ i j, x = .str i ∧ y = .str j ∧ i.length + j.length ≤ sizeLine ∧ Q (.str (i ++ j)) H)) ∨ rCat x y H Q) ∨ rCatA K x y H Q
theorem op_addA {X : Cx} : OpR X (binaryOp .Add) (rAddA X.K) := ((op_add.or op_add_str).or op_cat).or op_catA
theorem add_ok {K : PySem.W.Frag} : R2D K (rAddA K) addD := fun {F H v u x y z Q} s bx by' hz k => by
  cases x <;> cases y <;> simp only [addD, reduceCtorEq] at hz
  case int.int a b => cases hz; exact .inl (.inl (.inl ⟨a, b, bx.int, by'.int, k _ F H .no (.int _)⟩))
  case str.str a b =>
    split at hz
    · next h => cases hz; exact .inl (.inl (.inr ⟨a, b, bx.str, by'.str, Nat.le_trans h big_line, k _ F H .no (.str _)⟩))
    · cases hz
  case lst.lst a b =>
    split at hz
    · next h =>
      cases hz
      obtain ⟨p, vs, rfl, h1, r1⟩ := bx.lst s
      obtain ⟨q, us, rfl, h2, r2⟩ := by'.lst s
      refine .inl (.inr ⟨p, q, vs, us, rfl, rfl, h1, h2, by rw [r1.length, r2.length]; exact Nat.le_trans h big_line, fun l hl => ?_⟩)
      exact k _ _ _ (Al.one hl) (.lst upd_same ((r1.append r2).same (Same.upd_at s hl)))
    · cases hz
  case tup.tup a b =>
    split at hz
    · next h =>
      cases hz
      obtain ⟨p, vs, e1, h1, r1⟩ := bx.tup s
      obtain ⟨q, us, e2, h2, r2⟩ := by'.tup s
      have f1 : Rep K F v (.tup a) := bx.rt
      have f2 : Rep K F u (.tup b) := by'.rt
      subst e1 e2
      refine .inr ⟨p, q, vs, us, rfl, rfl, h1, h2, by rw [r1.length, r2.length]; exact Nat.le_trans h big_line, fun e => ?_, fun _ e => ?_, fun _ _ l hl => ?_⟩
      · subst e
        cases r1
        exact k _ F H .no f2
      · subst e
        cases r2
        rw [List.append_nil] at k
        exact k _ F H .no f1
      · exact k _ _ _ (Al.one hl) (.tup (SqT.of upd_same) ((r1.append r2).same (Same.upd_at s hl)))
    · cases hz
def subD : D → D → Option D
  | .int a, .int b => some (.int (a - b))
  | _, _ => none
theorem sub_ok {K : PySem.W.Frag} : R2D K (rI0 fun i j => .int (i - j)) subD := fun {F H v u x y z Q} s bx by' hz k => by
  cases x <;> cases y <;> simp only [subD, reduceCtorEq] at hz
  case int.int a b => cases hz; exact ⟨a, b, bx.int, by'.int, k _ F H .no (.int _)⟩
def modD : D → D → Option D
  | .int a, .int b => if 0 < b then some (.int (a % b)) else none
  | _, _ => none
theorem mod_ok {K : PySem.W.Frag} : R2D K (rI (fun _ j => 0 < j) fun i j => .int (i % j)) modD := fun {F H v u x y z Q} s bx by' hz k => by
  cases x <;> cases y <;> simp only [modD, reduceCtorEq] at hz
  case int.int a b =>
    split at hz
    · next h => cases hz; exact ⟨a, b, bx.int, by'.int, h, k _ F H .no (.int _)⟩
    · cases hz
/-! ### comparisons of numbers -/
def cmpD (p : Int → Int → Bool) : D → D → Option D
  | .int a, .int b => some (.bl (p a b))
  | _, _ => none
theorem cmp_ok {K : PySem.W.Frag} {p : Int → Int → Bool} : R2D K (rI0 fun i j => .bl (p i j)) (cmpD p) := fun {F H v u x y z Q} s bx by' hz k => by
  cases x <;> cases y <;> simp only [cmpD, reduceCtorEq] at hz
  case int.int a b => cases hz; exact ⟨a, b, bx.int, by'.int, k _ F H .no (.bl _)⟩
/-! ### equality of data -/
mutual
def pyD : D → Option PyData
  | .non => some .none
  | .bl b => some (.bool b)
  | .int i => some (.int i)
  | .str x => some (.str x)
  | .lst xs => (pyDs xs).map .list
  | .tup xs => (pyDs xs).map .tuple
  | .dct _ _ => none
  | .dtt _ _ => none
  | .ins _ _ _ => none
  | .raw _ => none
def pyDs : List D → Option (List PyData)
  | [] => some []
  | x :: xs => (pyD x).bind fun y => (pyDs xs).map fun ys => y :: ys
end
mutual
theorem py_plain : ∀ {d : D} {p : PyData}, pyD d = some p → p.plain = true
  | .non, _, h => by cases h; rfl
  | .bl _, _, h => by cases h; rfl
  | .int _, _, h => by cases h; rfl
  | .str _, _, h => by cases h; rfl
  | .lst xs, _, h => by
    simp only [pyD, Option.map_eq_some_iff] at h
    obtain ⟨ps, h1, rfl⟩ := h
    exact py_plains h1
  | .tup xs, _, h => by
    simp only [pyD, Option.map_eq_some_iff] at h
    obtain ⟨ps, h1, rfl⟩ := h
    exact py_plains h1
theorem py_plains : ∀ {ds : List D} {ps : List PyData}, pyDs ds = some ps → PyData.plainAll ps = true
  | [], _, h => by cases h; rfl
  | d :: ds, _, h => by
    simp only [pyDs, Option.bind_eq_some_iff, Option.map_eq_some_iff] at h
    obtain ⟨p, h1, ps, h2, rfl⟩ := h
    simp only [PyData.plainAll, py_plain h1, py_plains h2, Bool.and_self]
end
section
variable {K : PySem.W.Frag} {F H : Hp}
mutual
theorem Rep.dp (s : Same F H) : ∀ {v : V} {d : D} {p : PyData}, Rep K F v d → pyD d = some p → Dp K H v p
  | _, _, _, .non, h => by cases h; exact .non
  | _, _, _, .bl b, h => by cases h; exact .bl b
  | _, _, _, .int b, h => by cases h; exact .int b
  | _, _, _, .str b, h => by cases h; exact .str b
  | _, _, _, .lst e r, h => by
    simp only [pyD, Option.map_eq_some_iff] at h
    obtain ⟨ps, h1, rfl⟩ := h
    exact .lst (SqL.of (s _ _ e)) (Reps.dp s r h1)
  | _, _, _, .tup e r, h => by
    simp only [pyD, Option.map_eq_some_iff] at h
    obtain ⟨ps, h1, rfl⟩ := h
    exact .tup (SqT.same s e) (Reps.dp s r h1)
  | _, _, _, .dK _ _ _, h => by cases h
  | _, _, _, .dT _ _ _, h => by cases h
  | _, _, _, .ins _ _ _, h => by cases h
  | _, _, _, .raw _, h => by cases h
theorem Reps.dp (s : Same F H) : ∀ {vs : List V} {ds : List D} {ps : List PyData}, Reps K F vs ds → pyDs ds = some ps → DpAll K H vs ps
  | _, _, _, .nil, h => by cases h; exact .nil
  | _, _, _, .cons r t, h => by
    simp only [pyDs, Option.bind_eq_some_iff, Option.map_eq_some_iff] at h
    obtain ⟨p, h1, ps, h2, rfl⟩ := h
    exact .cons (Rep.dp s r h1) (Reps.dp s t h2)
end
theorem BV.dp {v : V} {d : D} {p : PyData} (s : Same F H) (h : BV K F H v d) (e : pyD d = some p) : Dp K H v p := by
  rcases h with r | ⟨rfl, o⟩
  · exact r.dp s e
  · cases d <;> simp only [OwnAt] at o
    · obtain ⟨vs, h1, r⟩ := o
      simp only [pyD, Option.map_eq_some_iff] at e
      obtain ⟨ps, h2, rfl⟩ := e
      exact .lst (SqL.of h1) (r.dp s h2)
    · cases e
    · cases e
end
def xr : Bool → Bool → Bool
  | false, b => b
  | true, b => !b
@[simp] theorem xr_f (b : Bool) : xr false b = b := rfl
@[simp] theorem xr_t (b : Bool) : xr true b = !b := rfl
theorem rel_bl {b k : Bool} (h : b = k) : L2.RelV (.bl b) (.bool k) := by rw [h]; rfl
def rEqP (neg : Bool) (K : PySem.W.Frag) : R2 := fun x y H Q => ∃ d e, Dp K H x d ∧ Dp K H y e ∧ d.plain = true ∧ e.plain = true ∧ min d.depth e.depth ≤ 60 ∧ Q (.bl (xr neg (PyData.eqv d e))) H
section
variable {X : Cx}
theorem op_eqP (hu : X.A.units + 64 < cLine) : OpR X (compareOp .Eq) (rEqP false X.K) := by
  intro pins s σ H x y v u Q I rx ry h
  obtain ⟨d, e, hd, he, sd, se, hz, q⟩ := h
  obtain ⟨as, r1⟩ := Dp.reads I d x v hd rx
  obtain ⟨bs, r2⟩ := Dp.reads I e y u he ry
  exact SeqAt.eq_plain r1 r2 sd se (by omega) ⟨.bl _, H, I, rel_bl (by simp), q⟩
theorem op_neP (hu : X.A.units + 64 < cLine) : OpR X (compareOp .NotEq) (rEqP true X.K) := by
  intro pins s σ H x y v u Q I rx ry h
  obtain ⟨d, e, hd, he, sd, se, hz, q⟩ := h
  obtain ⟨as, r1⟩ := Dp.reads I d x v hd rx
  obtain ⟨bs, r2⟩ := Dp.reads I e y u he ry
  exact SeqAt.ne_plain r1 r2 sd se (by omega) ⟨.bl _, H, I, rel_bl (by simp), q⟩
end
def eqP0 (neg : Bool) (x y : D) : Option D := (pyD x).bind fun p => (pyD y).bind fun q => if min p.depth q.depth ≤ 60 then some (.bl (xr neg (PyData.eqv p q))) else none
theorem eq_ok0 {K : PySem.W.Frag} {neg : Bool} : R2D K (rEqP neg K) (eqP0 neg) := fun {F H v u x y z Q} s bx by' hz k => by
  simp only [eqP0, Option.bind_eq_some_iff] at hz
  obtain ⟨p, h1, q, h2, h3⟩ := hz
  split at h3
  · next h => cases h3; exact ⟨p, q, bx.dp s h1, by'.dp s h2, py_plain h1, py_plain h2, h, k _ F H .no (.bl _)⟩
  · cases h3
/-! .. told over the data itself -/
mutual
def deq : D → D → Bool
  | .non, .non => true
  | .bl a, .bl b => a == b
  | .bl a, .int j => (if a then 1 else 0) == j
  | .int i, .bl b => i == (if b then 1 else 0)
  | .int i, .int j => i == j
  | .str x, .str y => x == y
  | .lst xs, .lst ys => deqs xs ys
  | .tup xs, .tup ys => deqs xs ys
  | _, _ => false
def deqs : List D → List D → Bool
  | [], [] => true
  | x :: xs, y :: ys => deq x y && deqs xs ys
  | _, _ => false
end
mutual
def isDat : D → Bool
  | .lst xs => isDats xs
  | .tup xs => isDats xs
  | .dct _ _ => false
  | .dtt _ _ => false
  | .ins _ _ _ => false
  | .raw _ => false
  | _ => true
def isDats : List D → Bool
  | [] => true
  | x :: xs => isDat x && isDats xs
end
mutual
def dep : D → Nat
  | .lst xs => deps xs + 1
  | .tup xs => deps xs + 1
  | _ => 0
def deps : List D → Nat
  | [] => 0
  | x :: xs => max (dep x) (deps xs)
end
mutual
theorem py_of : ∀ {d : D}, isDat d = true → ∃ p, pyD d = some p ∧ p.depth = dep d
  | .non, _ => ⟨_, rfl, by simp [PyData.depth, dep]⟩
  | .bl _, _ => ⟨_, rfl, by simp [PyData.depth, dep]⟩
  | .int _, _ => ⟨_, rfl, by simp [PyData.depth, dep]⟩
  | .str _, _ => ⟨_, rfl, by simp [PyData.depth, dep]⟩
  | .lst xs, h => by
    obtain ⟨ps, h1, h2⟩ := py_ofs (ds := xs) (by simpa [isDat] using h)
    exact ⟨.list ps, by simp only [pyD, h1, Option.map_some], by simp only [PyData.depth, dep, h2]⟩
  | .tup xs, h => by
    obtain ⟨ps, h1, h2⟩ := py_ofs (ds := xs) (by simpa [isDat] using h)
    exact ⟨.tuple ps, by simp only [pyD, h1, Option.map_some], by simp only [PyData.depth, dep, h2]⟩
  | .dct _ _, h => by simp [isDat] at h
  | .dtt _ _, h => by simp [isDat] at h
  | .ins _ _ _, h => by simp [isDat] at h
  | .raw _, h => by simp [isDat] at h
theorem py_ofs : ∀ {ds : List D}, isDats ds = true → ∃ ps, pyDs ds = some ps ∧ PyData.depthAll ps = deps ds
  | [], _ => ⟨[], rfl, by simp [PyData.depthAll, deps]⟩
  | d :: ds, h => by
    have h' : isDat d = true ∧ isDats ds = true := by simpa [isDats] using h
    obtain ⟨p, h1, h2⟩ := py_of h'.1
    obtain ⟨ps, h3, h4⟩ := py_ofs h'.2
    exact ⟨p :: ps, by simp only [pyDs, h1, h3, Option.bind_some, Option.map_some], by simp only [PyData.depthAll, deps, h2, h4]⟩
end
mutual
theorem deq_of : ∀ {d e : D} {p q : PyData}, pyD d = some p → pyD e = some q → PyData.eqv p q = deq d e := fun {d e p q} h1 h2 => by
  match d, h1 with
  | .non, h1 => cases h1; cases e <;> first | (cases h2; done) | (cases h2; simp [PyData.eqv, deq]; done) | (simp only [pyD, Option.map_eq_some_iff] at h2; obtain ⟨ps, _, rfl⟩ := h2; simp [PyData.eqv, deq]; done)
  | .bl _, h1 => cases h1; cases e <;> first | (cases h2; done) | (cases h2; simp [PyData.eqv, deq]; done) | (simp only [pyD, Option.map_eq_some_iff] at h2; obtain ⟨ps, _, rfl⟩ := h2; simp [PyData.eqv, deq]; done)
  | .int _, h1 => cases h1; cases e <;> first | (cases h2; done) | (cases h2; simp [PyData.eqv, deq]; done) | (simp only [pyD, Option.map_eq_some_iff] at h2; obtain ⟨ps, _, rfl⟩ := h2; simp [PyData.eqv, deq]; done)
  | .str _, h1 => cases h1; cases e <;> first | (cases h2; done) | (cases h2; simp [PyData.eqv, deq]; done) | (simp only [pyD, Option.map_eq_some_iff] at h2; obtain ⟨ps, _, rfl⟩ := h2; simp [PyData.eqv, deq]; done)
  | .lst xs, h1 =>
    simp only [pyD, Option.map_eq_some_iff] at h1
    obtain ⟨ps, g1, rfl⟩ := h1
    match e, h2 with
    | .lst ys, h2 =>
      simp only [pyD, Option.map_eq_some_iff] at h2
      obtain ⟨qs, g2, rfl⟩ := h2
      simp only [PyData.eqv, deq]
      exact deqs_of g1 g2
    | .tup ys, h2 =>
      simp only [pyD, Option.map_eq_some_iff] at h2
      obtain ⟨qs, h2, rfl⟩ := h2
      simp [PyData.eqv, deq]
    | .non, h2 => cases h2; simp [PyData.eqv, deq]
    | .bl _, h2 => cases h2; simp [PyData.eqv, deq]
    | .int _, h2 => cases h2; simp [PyData.eqv, deq]
    | .str _, h2 => cases h2; simp [PyData.eqv, deq]
  | .tup xs, h1 =>
    simp only [pyD, Option.map_eq_some_iff] at h1
    obtain ⟨ps, g1, rfl⟩ := h1
    match e, h2 with
    | .tup ys, h2 =>
      simp only [pyD, Option.map_eq_some_iff] at h2
      obtain ⟨qs, g2, rfl⟩ := h2
      simp only [PyData.eqv, deq]
      exact deqs_of g1 g2
    | .lst ys, h2 =>
      simp only [pyD, Option.map_eq_some_iff] at h2
      obtain ⟨qs, h2, rfl⟩ := h2
      simp [PyData.eqv, deq]
    | .non, h2 => cases h2; simp [PyData.eqv, deq]
    | .bl _, h2 => cases h2; simp [PyData.eqv, deq]
    | .int _, h2 => cases h2; simp [PyData.eqv, deq]
    | .str _, h2 => cases h2; simp [PyData.eqv, deq]
theorem deqs_of : ∀ {ds es : List D} {ps qs : List PyData}, pyDs ds = some ps → pyDs es = some qs → PyData.eqvAll ps qs = deqs ds es
  | [], [], _, _, h1, h2 => by cases h1; cases h2; simp [PyData.eqvAll, deqs]
  | [], e :: es, _, _, h1, h2 => by
    cases h1
    simp only [pyDs, Option.bind_eq_some_iff, Option.map_eq_some_iff] at h2
    obtain ⟨q, _, qs, _, rfl⟩ := h2
    simp [PyData.eqvAll, deqs]
  | d :: ds, [], _, _, h1, h2 => by
    cases h2
    simp only [pyDs, Option.bind_eq_some_iff, Option.map_eq_some_iff] at h1
    obtain ⟨q, _, qs, _, rfl⟩ := h1
    simp [PyData.eqvAll, deqs]
  | d :: ds, e :: es, _, _, h1, h2 => by
    simp only [pyDs, Option.bind_eq_some_iff, Option.map_eq_some_iff] at h1 h2
    obtain ⟨p, h3, ps, h4, rfl⟩ := h1
    obtain ⟨q, h5, qs, h6, rfl⟩ := h2
    simp only [PyData.eqvAll, deqs]
    rw [deq_of h3 h5, deqs_of h4 h6]
end
def eqD (neg : Bool) (x y : D) : Option D := if isDat x = true ∧ isDat y = true ∧ min (dep x) (dep y) ≤ 60 then some (.bl (xr neg (deq x y))) else none
theorem eq_ok {K : PySem.W.Frag} {neg : Bool} : R2D K (rEqP neg K) (eqD neg) := fun {F H v u x y z Q} s bx by' hz k => by
  unfold eqD at hz
  split at hz
  · next h =>
    obtain ⟨p, h1, h2⟩ := py_of h.1
    obtain ⟨q, h3, h4⟩ := py_of h.2.1
    refine eq_ok0 (z := z) s bx by' ?_ k
    unfold eqP0
    rw [h1, h3, Option.bind_some, Option.bind_some, h2, h4, if_pos h.2.2, deq_of h1 h3]
    exact hz
  · cases hz
/-! ### in -/
def rInP (neg : Bool) (K : PySem.W.Frag) : R2 := fun x y H Q => ∃ d es, Dp K H x d ∧ (Dp K H y (.list es) ∨ Dp K H y (.tuple es)) ∧ d.plain = true ∧ PyData.plainAll es = true ∧ min (PyData.depthAll es) d.depth ≤ 60 ∧ Q (.bl (xr neg (es.any fun z => PyData.eqv z d))) H
section
variable {X : Cx}
theorem op_inP (hu : X.A.units + 64 < cLine) : OpR X (compareOp .In) (rInP false X.K) := by
  intro pins s σ H x y v u Q I rx ry h
  obtain ⟨d, es, hd, he | he, sd, se, hz, q⟩ := h
  · obtain ⟨as, r1⟩ := Dp.reads I d x v hd rx
    obtain ⟨bs, r2⟩ := Dp.reads I _ y u he ry
    exact SeqAt.in_list_data r2 r1 se sd (by omega) ⟨.bl _, H, I, rel_bl (by simp), q⟩
  · obtain ⟨as, r1⟩ := Dp.reads I d x v hd rx
    obtain ⟨bs, r2⟩ := Dp.reads I _ y u he ry
    exact SeqAt.in_tuple_data r2 r1 se sd (by omega) ⟨.bl _, H, I, rel_bl (by simp), q⟩
theorem op_niP (hu : X.A.units + 64 < cLine) : OpR X (compareOp .NotIn) (rInP true X.K) := by
  intro pins s σ H x y v u Q I rx ry h
  obtain ⟨d, es, hd, he | he, sd, se, hz, q⟩ := h
  · obtain ⟨as, r1⟩ := Dp.reads I d x v hd rx
    obtain ⟨bs, r2⟩ := Dp.reads I _ y u he ry
    exact SeqAt.notIn_list_data r2 r1 se sd (by omega) ⟨.bl _, H, I, rel_bl (by simp), q⟩
  · obtain ⟨as, r1⟩ := Dp.reads I d x v hd rx
    obtain ⟨bs, r2⟩ := Dp.reads I _ y u he ry
    exact SeqAt.notIn_tuple_data r2 r1 se sd (by omega) ⟨.bl _, H, I, rel_bl (by simp), q⟩
end
def inSq (neg : Bool) (x : D) (ds : List D) : Option D := if isDat x = true ∧ isDats ds = true ∧ min (deps ds) (dep x) ≤ 60 then some (.bl (xr neg (ds.any fun z => deq z x))) else none
theorem any_deq {x : D} {p : PyData} (hp : pyD x = some p) : ∀ {ds : List D} {ps : List PyData}, pyDs ds = some ps → (ps.any fun z => PyData.eqv z p) = ds.any fun z => deq z x
  | [], _, h => by cases h; rfl
  | d :: ds, _, h => by
    simp only [pyDs, Option.bind_eq_some_iff, Option.map_eq_some_iff] at h
    obtain ⟨q, h1, qs, h2, rfl⟩ := h
    rw [List.any_cons, List.any_cons, deq_of h1 hp, any_deq hp h2]
/-- a sign in a text -/
def inTx (neg : Bool) (x : D) (z : Str) : Option D := match x with
  | .str ⟨⟨[c]⟩⟩ => some (.bl (xr neg (decide (c ∈ z.cps.toList))))
  | _ => none
def inD (neg : Bool) (x : D) : D → Option D
  | .lst ds => inSq neg x ds
  | .tup ds => inSq neg x ds
  | .str z => inTx neg x z
  | _ => none
def rSign (neg : Bool) : R2 := fun x y H Q => ∃ (c : Nat) (z : Str), x = .str ⟨#[c]⟩ ∧ y = .str z ∧ Q (.bl (xr neg (decide (c ∈ z.cps.toList)))) H
def rInA (neg : Bool) (K : PySem.W.Frag) : R2 := fun x y H Q => rInP neg K x y H Q ∨ rSign neg x y H Q
theorem OpR.imp {X : Cx} {f : Value → Value → Sem Value} {r r' : R2} (h : OpR X f r) (i : ∀ x y H Q, r' x y H Q → r x y H Q) : OpR X f r' := fun pins s σ H x y v u Q I rx ry q => h pins s σ H x y v u Q I rx ry (i x y H Q q)
theorem op_inA {X : Cx} (hu : X.A.units + 64 < cLine) : OpR X (compareOp .In) (rInA false X.K) := (op_inP hu).or (OpR.imp op_in_sign fun x y H Q ⟨c, z, e1, e2, q⟩ => ⟨c, z, e1, e2, by exact q⟩)
theorem op_niA {X : Cx} (hu : X.A.units + 64 < cLine) : OpR X (compareOp .NotIn) (rInA true X.K) := (op_niP hu).or (OpR.imp op_notIn_sign fun x y H Q ⟨c, z, e1, e2, q⟩ => ⟨c, z, e1, e2, by exact q⟩)
theorem inSq_ok {K : PySem.W.Frag} {neg : Bool} {F H : Hp} {v u : V} {x z : D} {y : D} {ds : List D} {Q : VK} (s : Same F H) (bx : BV K F H v x) (by' : BV K F H u y) (hy : y = .lst ds ∨ y = .tup ds) (hz : inSq neg x ds = some z)
    (k : ∀ v' F' H', Al F H F' H' → Rep K F' v' z → Q v' H') : rInA neg K v u H Q := by
  unfold inSq at hz
  split at hz
  · next h =>
    obtain ⟨p, h1, h2⟩ := py_of h.1
    obtain ⟨ps, h3, h4⟩ := py_ofs h.2.1
    cases hz
    refine .inl ⟨p, ps, bx.dp s h1, ?_, py_plain h1, py_plains h3, by rw [h2, h4]; exact h.2.2, by rw [any_deq h1 h3]; exact k _ F H .no (.bl _)⟩
    rcases hy with rfl | rfl
    · exact .inl (by'.dp s (by simp only [pyD, h3, Option.map_some]))
    · exact .inr (by'.dp s (by simp only [pyD, h3, Option.map_some]))
  · cases hz
theorem in_ok {K : PySem.W.Frag} {neg : Bool} : R2D K (rInA neg K) (inD neg) := fun {F H v u x y z Q} s bx by' hz k => by
  cases y <;> simp only [inD, reduceCtorEq] at hz
  case lst ds => exact inSq_ok s bx by' (.inl rfl) hz k
  case tup ds => exact inSq_ok s bx by' (.inr rfl) hz k
  case str t =>
    unfold inTx at hz
    split at hz
    · next c => cases hz; exact .inr ⟨c, t, bx.str, by'.str, k _ F H .no (.bl _)⟩
    · cases hz
/-! ### [i] -/
def signs (z : Str) : List D := z.cps.toList.map fun c => .str ⟨#[c]⟩
def ixD : D → D → Option D
  | .lst ds, .int i => (ixN ds.length i).bind fun j => ds[j]?
  | .tup ds, .int i => (ixN ds.length i).bind fun j => ds[j]?
  | .str z, .int i => if z.length ≤ 100000 then (ixN z.cps.toList.length i).bind fun j => (signs z)[j]? else none
  | _, _ => none
theorem ix_at {K : PySem.W.Frag} {F : Hp} {vs : List V} {ds : List D} {i : Int} {z : D} (r : Reps K F vs ds) (h : ((ixN ds.length i).bind fun j => ds[j]?) = some z) : ∃ v, atI vs i = some v ∧ Rep K F v z := by
  simp only [Option.bind_eq_some_iff] at h
  obtain ⟨j, h1, h2⟩ := h
  obtain ⟨v, h3, h4⟩ := r.get' h2
  refine ⟨v, ?_, h4⟩
  unfold atI
  rw [r.length, h1]
  exact h3
theorem ix_ok {K : PySem.W.Frag} : R2D K (rIx K) ixD := fun {F H v u x y z Q} s bx by' hz k => by
  cases x <;> cases y <;> simp only [ixD, reduceCtorEq] at hz
  case lst.int ds i =>
    obtain ⟨p, vs, rfl, h1, r⟩ := bx.lst s
    obtain ⟨w, h2, h3⟩ := ix_at r hz
    exact .inl ⟨p, vs, i, w, rfl, by'.int, SqL.of h1, h2, k _ F H .no h3⟩
  case tup.int ds i =>
    obtain ⟨p, vs, rfl, h1, r⟩ := bx.tup s
    obtain ⟨w, h2, h3⟩ := ix_at r hz
    exact .inr (.inl ⟨p, vs, i, w, rfl, by'.int, h1, h2, k _ F H .no h3⟩)
  case str.int t i =>
    split at hz
    · next h =>
      simp only [Option.bind_eq_some_iff] at hz
      obtain ⟨j, h1, h2⟩ := hz
      simp only [signs, List.getElem?_map, Option.map_eq_some_iff] at h2
      obtain ⟨c, h2, rfl⟩ := h2
      exact .inr (.inr ⟨t, i, c, bx.str, by'.int, Nat.le_trans h big_line, by unfold atI; rw [h1]; exact h2, k _ F H .no (.str _)⟩)
    · cases hz
end Q

set_option Elab.async false
set_option linter.all false
set_option maxRecDepth 100000
set_option maxHeartbeats 4000000
/-! operators, built-ins: rules over data, any kinds -/
namespace Q
open PySem PySem.Spec PyProof.Rows L2
section
variable {X : Cx} {c : Ctx} {e a b d : Expr} {es : List Expr} {pos p : Pos} {pa pb pd ba bb bd : Bool} {wa wb wd we : WE c.R} {j : Nat}
theorem de_add (ha : DE X c pa ba a wa) (hb : DE X c pb bb b wb) (hs : ba = false ∨ pb = true := by first | exact .inl rfl | exact .inr rfl) : DE X c (pa && pb) false (.BinOp a .Add b pos) (wOp addD wa wb) :=
  de_op (op_addA (X := X)) (by rw [ha.kk]; exact add_ok) ha hb hs
theorem de_sub (ha : DE X c pa ba a wa) (hb : DE X c pb bb b wb) (hs : ba = false ∨ pb = true := by first | exact .inl rfl | exact .inr rfl) : DE X c (pa && pb) false (.BinOp a .Sub b pos) (wOp subD wa wb) := de_op (op_sub (X := X)) sub_ok ha hb hs
theorem de_mod (ha : DE X c pa ba a wa) (hb : DE X c pb bb b wb) (hs : ba = false ∨ pb = true := by first | exact .inl rfl | exact .inr rfl) : DE X c (pa && pb) false (.BinOp a .Mod b pos) (wOp modD wa wb) := de_op (op_mod (X := X)) mod_ok ha hb hs
/-- a comparison, as a value and as a test -/
structure CmpR (X : Cx) (c : Ctx) (op : CmpOp) (g : D → D → Option D) : Prop where
  ex : ∃ r, OpR X (compareOp op) r ∧ R2D c.K r g
theorem c_lt : CmpR X c .Lt (cmpD fun i j => decide (i < j)) := ⟨_, op_lt, cmp_ok⟩
theorem c_le : CmpR X c .LtE (cmpD fun i j => decide (i ≤ j)) := ⟨_, op_le, cmp_ok⟩
theorem c_gt : CmpR X c .Gt (cmpD fun i j => decide (j < i)) := ⟨_, op_gt, cmp_ok⟩
theorem c_ge : CmpR X c .GtE (cmpD fun i j => decide (j ≤ i)) := ⟨_, op_ge, cmp_ok⟩
theorem c_eq (hr : Room j X.A) (hk : X.K = c.K := by rfl) : CmpR X c .Eq (eqD false) := ⟨_, op_eqP hr.units, by rw [hk]; exact eq_ok⟩
theorem c_ne (hr : Room j X.A) (hk : X.K = c.K := by rfl) : CmpR X c .NotEq (eqD true) := ⟨_, op_neP hr.units, by rw [hk]; exact eq_ok⟩
theorem c_in (hr : Room j X.A) (hk : X.K = c.K := by rfl) : CmpR X c .In (inD false) := ⟨_, op_inA hr.units, by rw [hk]; exact in_ok⟩
theorem c_ni (hr : Room j X.A) (hk : X.K = c.K := by rfl) : CmpR X c .NotIn (inD true) := ⟨_, op_niA hr.units, by rw [hk]; exact in_ok⟩
def isNonD : D → Option Bool
  | .non => some true
  | .raw _ => none
  | _ => some false
def isD (neg : Bool) (x : D) : D → Option D
  | .non => (isNonD x).map fun k => .bl (xr neg (k))
  | _ => none
theorem isN_of {K : PySem.W.Frag} {F H : Hp} {v : V} {x : D} {k : Bool} (h : BV K F H v x) (e : isNonD x = some k) : decide (v = .non) = k := by
  rcases h with r | ⟨rfl, o⟩
  · cases r <;> cases e <;> simp
  · cases x <;> cases e <;> simp [OwnAt] at o ⊢
theorem is_ok {K : PySem.W.Frag} : R2D K (fun x y H Q => y = .non ∧ Q (.bl (decide (x = .non))) H) (isD false) := fun {F H v u x y z Q} s bx by' hz k => by
  cases y <;> simp only [isD, reduceCtorEq, Option.map_eq_some_iff] at hz
  obtain ⟨b, h1, rfl⟩ := hz
  refine ⟨by'.non, ?_⟩
  rw [isN_of bx h1]
  exact k _ F H .no (.bl _)
theorem isn_ok {K : PySem.W.Frag} : R2D K (fun x y H Q => y = .non ∧ Q (.bl (!decide (x = .non))) H) (isD true) := fun {F H v u x y z Q} s bx by' hz k => by
  cases y <;> simp only [isD, reduceCtorEq, Option.map_eq_some_iff] at hz
  obtain ⟨b, h1, rfl⟩ := hz
  refine ⟨by'.non, ?_⟩
  rw [isN_of bx h1]
  exact k _ F H .no (.bl _)
theorem c_is : CmpR X c .Is (isD false) := ⟨_, op_isN, is_ok⟩
theorem c_isn : CmpR X c .IsNot (isD true) := ⟨_, op_notN, isn_ok⟩
theorem de_cm {op : CmpOp} {g : D → D → Option D} (ho : CmpR X c op g) (ha : DE X c pa ba a wa) (hb : DE X c pb bb b wb) (hm : behindInMarks op b = false := by rfl)
    (hs : ba = false ∨ pb = true := by first | exact .inl rfl | exact .inr rfl) : DE X c (pa && pb) false (.Compare a [op] [b] pos) (wOp g wa wb) := by
  obtain ⟨r, h1, h2⟩ := ho.ex
  exact de_cmp h1 h2 ha hb hm hs
theorem dt_cm {op : CmpOp} {g : D → D → Option D} (ho : CmpR X c op g) (ha : DE X c pa ba a wa) (hb : DE X c pb bb b wb) (hm : behindInMarks op b = false := by rfl)
    (hs : ba = false ∨ pb = true := by first | exact .inl rfl | exact .inr rfl) : DT X c (pa && pb) (.Compare a [op] [b] pos) (wTest (wOp g wa wb)) := by
  obtain ⟨r, h1, h2⟩ := ho.ex
  exact dt_cmp h1 h2 ha hb hm hs
/-- a op b op' d -/
def wChain {R : Rgn} (g g' : D → D → Option D) (wa wb wd : WE R) : WE R := fun ρ K => wa ρ fun x ρ1 => wb ρ1 fun y ρ2 => ∃ z, g x y = some (.bl z) ∧ if z = true then wd ρ2 fun w ρ3 => ∃ z', g' y w = some z' ∧ K z' ρ3 else K (.bl false) ρ2
theorem chain_ok {r r' : R2} {g g' : D → D → Option D} (h1 : R2D c.K r g) (h2 : R2D c.K r' g') {σ : L2.St} {H : Hp} {Q : VK} (h : liftE c true false (wChain g g' wa wb wd) σ H Q) (hc : pa = true ∧ pb = true ∧ pd = true) :
    tChain r r' (liftE c pa ba wa) (liftE c pb bb wb) (liftE c pd bd wd) σ H Q := by
  obtain ⟨rfl, rfl, rfl⟩ := hc
  obtain ⟨ρ, F, O, Kk, S, w, k⟩ := h
  refine ⟨ρ, F, O, _, S, w, fun x ρ1 v F1 H1 hk S1 fs1 ko1 g1 r1 => ⟨ρ1, F1, O, _, S1, hk, fun y ρ2 u F2 H2 ⟨z, hz, kz⟩ S2 fs2 ko2 g2 r2 => ?_⟩⟩
  obtain ⟨e1, q1⟩ := g1 rfl
  obtain ⟨e2, q2⟩ := g2 rfl
  subst e2
  subst e1
  have c1 : VRep c.K F2 σ ρ2.sl v x ba := r1.carry fs2 (.inr rfl)
  refine h1 S2.sub (c1.bv S2) (r2.bv S2) hz fun v' F3 H3 al rp => ?_
  have S3 := S2.grow (al.grow S2.sub)
  cases rp
  refine ⟨z, rfl, ?_⟩
  cases z with
  | false =>
    rw [if_neg (by decide)] at kz ⊢
    exact k _ _ _ F3 H3 kz S3 (fs1.trans (fs2.trans (al.fs S2.sub))) (fun q hq => by rw [ko_al S2 al q hq, ko2 q hq, ko1 q hq]) (fun _ => ⟨rfl, q1.trans (q2.trans (al.grow S2.sub))⟩) (.bl false)
  | true =>
    rw [if_pos rfl] at kz ⊢
    refine ⟨ρ2, F3, O, _, S3, kz, fun w' ρ4 v4 F4 H4 ⟨z', hz', kz'⟩ S4 fs4 ko4 g4 r4 => ?_⟩
    obtain ⟨e4, q4⟩ := g4 rfl
    subst e4
    have c2 : VRep c.K F4 σ ρ4.sl u y bb := r2.carry ((al.fs S2.sub).trans fs4) (.inr rfl)
    refine h2 S4.sub (c2.bv S4) (r4.bv S4) hz' fun v5 F5 H5 al5 rp5 => ?_
    exact k _ _ _ F5 H5 kz' (S4.grow (al5.grow S4.sub)) (fs1.trans (fs2.trans ((al.fs S2.sub).trans (fs4.trans (al5.fs S4.sub))))) (fun q hq => by rw [ko_al S4 al5 q hq, ko4 q hq, ko_al S2 al q hq, ko2 q hq, ko1 q hq])
      (fun _ => ⟨rfl, q1.trans (q2.trans ((al.grow S2.sub).trans (q4.trans (al5.grow S4.sub))))⟩) rp5
theorem de_chain {op op' : CmpOp} {g g' : D → D → Option D} (ho : CmpR X c op g) (ho' : CmpR X c op' g') (ha : DE X c pa ba a wa) (hb : DE X c pb bb b wb) (hd : DE X c pd bd d wd)
    (hc : pa = true ∧ pb = true ∧ pd = true := by exact ⟨rfl, rfl, rfl⟩) (hm : lastMarks [op, op'] [b, d] = false := by with_unfolding_all rfl) : DE X c true false (.Compare a [op, op'] [b, d] pos) (wChain g g' wa wb wd) := by
  obtain ⟨r, h1, h2⟩ := ho.ex
  obtain ⟨r', h1', h2'⟩ := ho'.ex
  exact ⟨(pe_chain h1 h1' ha.pe hb.pe hd.pe hm).imp fun σ H Q h => chain_ok h2 h2' h hc, ha.kk⟩
theorem dt_chain {op op' : CmpOp} {g g' : D → D → Option D} (ho : CmpR X c op g) (ho' : CmpR X c op' g') (ha : DE X c pa ba a wa) (hb : DE X c pb bb b wb) (hd : DE X c pd bd d wd)
    (hc : pa = true ∧ pb = true ∧ pd = true := by exact ⟨rfl, rfl, rfl⟩) (hm : lastMarks [op, op'] [b, d] = false := by with_unfolding_all rfl) : DT X c true (.Compare a [op, op'] [b, d] pos) (wTest (wChain g g' wa wb wd)) := by
  obtain ⟨r, h1, h2⟩ := ho.ex
  obtain ⟨r', h1', h2'⟩ := ho'.ex
  exact ⟨(pt_chain h1 h1' ha.pe hb.pe hd.pe hm).imp fun σ H Q h => chain_ok h2 h2' (test_ok (ba := false) h) hc⟩
/-! ### subscripts, slices -/
theorem de_ixA (ha : DE X c pa ba a wa) (hb : DE X c pb bb b wb) (hx : PlainIx b := by exact fun _ _ => rfl) (hs : ba = false ∨ pb = true := by first | exact .inl rfl | exact .inr rfl) : DE X c (pa && pb) false (.Subscript a b pos) (wOp ixD wa wb) :=
  de_ix (ix_seq (X := X)) (by rw [ha.kk]; exact ix_ok) ha hb hx hs
def wPart {R : Rgn} (w : Option (WE R)) (ρ : DS R) (K : Option Int → Prop) : Prop := match w with
  | none => K none
  | some w => w ρ fun x ρ1 => ∃ i, x = .int i ∧ ρ1 = ρ ∧ K (some i)
structure DP (X : Cx) (c : Ctx) (e : Option Expr) (w : Option (WE c.R)) : Prop where
  po : PO X e (fun σ H Q => ∃ (ρ : DS c.R) (F : Hp) (O : List Addr) (Kk : Option Int → Prop), St c F O σ ρ H ∧ wPart w ρ Kk ∧ ∀ o F' H', Kk o → St c F' O σ ρ H' → Same F F' → (∀ a ∈ O, H' a = H a) → Grow F H F' H' → Q o H')
theorem dp_no : DP X c none none := ⟨⟨fun pins s σ H Q I ⟨ρ, F, O, Kk, S, w, k⟩ => po_none.run pins s σ H Q I (k none F H w S (Same.refl _) (fun _ _ => rfl) (Grow.refl S.sub))⟩⟩
theorem dp_at (h : DE X c true ba e we) : DP X c (some e) (some we) := ⟨⟨fun pins s σ H Q I ⟨ρ, F, O, Kk, S, w, k⟩ => (po_some h.pe).run pins s σ H Q I
  ⟨ρ, F, O, _, S, w, fun x ρ1 v F1 H1 ⟨i, e1, e2, hk⟩ S1 fs1 ko1 g1 r1 => by subst e1; subst e2; exact ⟨i, (r1.bv S1).int, k (some i) F1 H1 hk S1 fs1 ko1 (g1 rfl).2⟩⟩⟩⟩
def cutD (xs : List D) (lo hi : Option Int) : List D := (xs.drop (HT.sIx xs.length 0 lo)).take (HT.sIx xs.length xs.length hi - HT.sIx xs.length 0 lo)
def slD (lo hi : Option Int) : D → Option D
  | .lst ds => some (.lst (cutD ds lo hi))
  | .tup ds => some (.tup (cutD ds lo hi))
  | .str z => if z.length ≤ 100000 then some (.str (cutS z lo hi)) else none
  | _ => none
def wSl {R : Rgn} (we : WE R) (lo hi : Option (WE R)) : WE R := fun ρ K => we ρ fun x ρ1 => wPart lo ρ1 fun l => wPart hi ρ1 fun h => ∃ z, slD l h x = some z ∧ K z ρ1
theorem Reps.cut {K : PySem.W.Frag} {F : Hp} {vs : List V} {ds : List D} (r : Reps K F vs ds) (lo hi : Option Int) : Reps K F (cutV vs lo hi) (cutD ds lo hi) := by
  unfold cutV cutD
  rw [r.length]
  exact (r.drop _).take _
theorem rst {K : PySem.W.Frag} {F H : Hp} {v : V} {x z : D} {lo hi : Option Int} {Q : VK} (s : Same F H) (bx : BV K F H v x) (hz : slD lo hi x = some z) (k : ∀ v' F' H', Al F H F' H' → Rep K F' v' z → Q v' H') :
    (rSlL K v lo hi H Q ∨ rSlA K v lo hi H Q) ∨ rSlS v lo hi H Q := by
  cases x <;> simp only [slD, reduceCtorEq] at hz
  case lst ds =>
    cases hz
    obtain ⟨p, vs, rfl, h1, r⟩ := bx.lst s
    exact .inl (.inl ⟨p, vs, rfl, SqL.of h1, fun l hl => k _ _ _ (Al.one hl) (.lst upd_same ((r.cut lo hi).same (Same.upd_at s hl)))⟩)
  case tup ds =>
    cases hz
    have f1 := bx.rt
    obtain ⟨p, vs, rfl, h1, r⟩ := bx.tup s
    refine .inl (.inr ⟨p, vs, rfl, h1, fun ⟨e1, e2⟩ => ?_, fun _ l hl => k _ _ _ (Al.one hl) (.tup (SqT.of upd_same) ((r.cut lo hi).same (Same.upd_at s hl)))⟩)
    have : cutD ds lo hi = ds := by
      unfold cutD
      rw [← r.length, e1, e2, List.drop_zero, Nat.sub_zero, r.length, List.take_length]
    rw [this] at k
    exact k _ F H .no f1
  case str t =>
    split at hz
    · next h => cases hz; exact .inr ⟨t, bx.str, Nat.le_trans h big_line, k _ F H .no (.str _)⟩
    · cases hz
theorem de_sl {lo hi : Option Expr} {wl wh : Option (WE c.R)} {p2 : Pos} (he : DE X c pa ba e we) (hl : DP X c lo wl) (hh : DP X c hi wh) : DE X c pa false (.Subscript e (.Slice lo hi none p2) pos) (wSl we wl wh) :=
  ⟨(pe_slice ((sl_list (X := X)).or sl_tupA |>.or sl_str) he.pe hl.po hh.po).imp fun σ H Q ⟨ρ, F, O, Kk, S, w, k⟩ => ⟨ρ, F, O, _, S, w, fun x ρ1 v F1 H1 hk S1 fs1 ko1 g1 r1 => ⟨ρ1, F1, O, _, S1, hk, fun l F2 H2 hk2 S2 fs2 ko2 g2 =>
    ⟨ρ1, F2, O, _, S2, hk2, fun h F3 H3 ⟨z, hz, hk3⟩ S3 fs3 ko3 g3 => by
      have c1 : VRep c.K F3 σ ρ1.sl v x ba := (r1.carry fs2 (.inr rfl)).carry fs3 (.inr rfl)
      rw [he.kk]
      exact rst S3.sub (c1.bv S3) hz fun v' F' H' al rp => k z ρ1 v' F' H' hk3 (S3.grow (al.grow S3.sub)) (fs1.trans (fs2.trans (fs3.trans (al.fs S3.sub)))) (fun q hq => by rw [ko_al S3 al q hq, ko3 q hq, ko2 q hq, ko1 q hq])
        (fun e => ⟨(g1 e).1, (g1 e).2.trans (g2.trans (g3.trans (al.grow S3.sub)))⟩) rp⟩⟩⟩, he.kk⟩
/-! ### len, list, tuple, all, any -/
def lenD : D → Option D
  | .lst ds => some (.int ds.length)
  | .tup ds => some (.int ds.length)
  | .str z => if z.length ≤ 100000 then some (.int z.length) else none
  | .dct ks _ => some (.int ks.length)
  | .dtt ks _ => some (.int ks.length)
  | _ => none
theorem Reps.len2 {K : PySem.W.Frag} {F : Hp} {α : Type} {kvs : List (α × V)} {ks ds : List D} {f : α → D} (n : ks = kvs.map fun p => f p.1) : ks.length = kvs.length := by rw [n, List.length_map]
def rLenA (K : PySem.W.Frag) : List V → Hp → VK → Prop := fun xs H Q => (((∃ p ys, xs = [.ref p] ∧ (SqL K H p ys ∨ SqT K H p ys) ∧ Q (.int ys.length) H) ∨ (∃ z, xs = [.str z] ∧ z.length ≤ sizeLine ∧ Q (.int z.length) H)) ∨
  (∃ a kvs, xs = [V.ref a] ∧ H a = some (.dK kvs) ∧ Q (.int kvs.length) H)) ∨ rLenT xs H Q
theorem call_lenA : CallR X (.builtin "len") (rLenA X.K) := ((call_len_seq.or call_len_str).or call_lenD).or call_len_dT
theorem len_ok {K : PySem.W.Frag} : R1D K (rLenA K) lenD := fun {F H v x z Q} s bx hz k => by
  cases x <;> simp only [lenD, reduceCtorEq] at hz
  case lst ds =>
    cases hz
    obtain ⟨p, vs, rfl, h1, r⟩ := bx.lst s
    exact .inl (.inl (.inl ⟨p, vs, rfl, .inl (SqL.of h1), by rw [r.length]; exact k _ F H .no (.int _)⟩))
  case tup ds =>
    cases hz
    obtain ⟨p, vs, rfl, h1, r⟩ := bx.tup s
    exact .inl (.inl (.inl ⟨p, vs, rfl, .inr h1, by rw [r.length]; exact k _ F H .no (.int _)⟩))
  case str t =>
    split at hz
    · next h => cases hz; exact .inl (.inl (.inr ⟨t, by rw [bx.str], Nat.le_trans h big_line, k _ F H .no (.int _)⟩))
    · cases hz
  case dct ks ds =>
    cases hz
    obtain ⟨p, kvs, rfl, h1, n, r⟩ := bx.dct s
    exact .inl (.inr ⟨p, kvs, rfl, h1, by rw [← Reps.len2 (K := K) (F := F) (ds := ds) n]; exact k _ F H .no (.int _)⟩)
  case dtt ks ds =>
    cases hz
    obtain ⟨p, kvs, rfl, h1, n, r⟩ := bx.dtt s
    exact .inr ⟨p, kvs, rfl, h1, by rw [← Reps.len2 (K := K) (F := F) (ds := ds) n]; exact k _ F H .no (.int _)⟩
theorem de_len (hm : X.mg "len" = none) (ha : DE X c pa ba e we) (hg : Gl X "len" := by rfl)
    (he : starEach [e] X.env = (false, eval e X.env) :: starEach [] X.env := by rfl) (hpl : (backTo pos (starEach [] X.env)).any (·.1) = false := by rfl) : DE X c pa false (.Call (.Name "len" p) [e] [] pos) (wUn lenD we) :=
  de_c1 (call_lenA (X := X)) (by rw [ha.kk]; exact len_ok) hm ha hg (by decide +kernel) (by decide) (by decide) he hpl
def tupleD : D → Option D
  | .lst ds => some (.tup ds)
  | .tup ds => some (.tup ds)
  | _ => none
theorem tuple_ok {K : PySem.W.Frag} : R1D K (fun xs H Q => ∃ p ys, xs = [.ref p] ∧ ((SqL K H p ys ∧ ∀ l, H l = none → Q (.ref l) (upd H l (.tup ys))) ∨ (SqT K H p ys ∧ Q (.ref p) H))) tupleD := fun {F H v x z Q} s bx hz k => by
  cases x <;> simp only [tupleD, reduceCtorEq] at hz
  case lst ds =>
    cases hz
    obtain ⟨p, vs, rfl, h1, r⟩ := bx.lst s
    exact ⟨p, vs, rfl, .inl ⟨SqL.of h1, fun l hl => k _ _ _ (Al.one hl) (.tup (SqT.of upd_same) (r.same (Same.upd_at s hl)))⟩⟩
  case tup ds =>
    cases hz
    have f1 := bx.rt
    obtain ⟨p, vs, rfl, h1, r⟩ := bx.tup s
    exact ⟨p, vs, rfl, .inr ⟨h1, k _ F H .no f1⟩⟩
theorem de_tuple (hm : X.mg "tuple" = none) (ha : DE X c pa ba e we) (hg : Gl X "tuple" := by rfl)
    (he : starEach [e] X.env = (false, eval e X.env) :: starEach [] X.env := by rfl) (hpl : (backTo pos (starEach [] X.env)).any (·.1) = false := by rfl) : DE X c pa false (.Call (.Name "tuple" p) [e] [] pos) (wUn tupleD we) :=
  de_t1 (call_tuple_of (X := X)) (by rw [ha.kk]; exact tuple_ok) hm ha hg (by decide +kernel) (by decide) (by decide) he hpl
def listD : D → Option D
  | .lst ds => some (.lst ds)
  | .tup ds => some (.lst ds)
  | _ => none
theorem list_ok {K : PySem.W.Frag} : R1F K (fun xs H Q => ∃ p ys, xs = [.ref p] ∧ (SqL K H p ys ∨ SqT K H p ys) ∧ ∀ l, H l = none → Q (.ref l) (upd H l (.lst ys))) listD := fun {F H v x z Q} s bx hz k => by
  cases x <;> simp only [listD, reduceCtorEq] at hz
  case lst ds =>
    cases hz
    obtain ⟨p, vs, rfl, h1, r⟩ := bx.lst s
    exact ⟨p, vs, rfl, .inl (SqL.of h1), fun l hl => k l (.lst vs) hl r⟩
  case tup ds =>
    cases hz
    obtain ⟨p, vs, rfl, h1, r⟩ := bx.tup s
    exact ⟨p, vs, rfl, .inr h1, fun l hl => k l (.lst vs) hl r⟩
theorem fe_list (hm : X.mg "list" = none) (ha : DE X c pa ba e we) (hg : Gl X "list" := by rfl)
    (he : starEach [e] X.env = (false, eval e X.env) :: starEach [] X.env := by rfl) (hpl : (backTo pos (starEach [] X.env)).any (·.1) = false := by rfl) : FE X c pa (.Call (.Name "list" p) [e] [] pos) (wUn listD we) :=
  fe_t1 (call_list_of (X := X)) (by rw [ha.kk]; exact list_ok) hm ha hg (by decide +kernel) (by decide) (by decide) he hpl
def blsD : List D → Option (List Bool)
  | [] => some []
  | .bl b :: ds => (blsD ds).map fun bs => b :: bs
  | _ :: _ => none
theorem bls_of {K : PySem.W.Frag} {F : Hp} : ∀ {vs : List V} {ds : List D} {bs : List Bool}, Reps K F vs ds → blsD ds = some bs → vs = bs.map V.bl
  | _, _, _, .nil, h => by cases h; rfl
  | _, .bl b :: _, _, .cons r t, h => by
    simp only [blsD, Option.map_eq_some_iff] at h
    obtain ⟨bs, h1, rfl⟩ := h
    cases r
    rw [bls_of t h1]; rfl
  | _, .non :: _, _, .cons _ _, h => by cases h
  | _, .int _ :: _, _, .cons _ _, h => by cases h
  | _, .str _ :: _, _, .cons _ _, h => by cases h
  | _, .lst _ :: _, _, .cons _ _, h => by cases h
  | _, .tup _ :: _, _, .cons _ _, h => by cases h
  | _, .dct _ _ :: _, _, .cons _ _, h => by cases h
  | _, .dtt _ _ :: _, _, .cons _ _, h => by cases h
  | _, .ins _ _ _ :: _, _, .cons _ _, h => by cases h
  | _, .raw _ :: _, _, .cons _ _, h => by cases h
def allD : D → Option D
  | .lst ds => (blsD ds).map fun bs => .bl (bs.all id)
  | _ => none
def anyD : D → Option D
  | .lst ds => (blsD ds).map fun bs => .bl (bs.any id)
  | _ => none
theorem all_ok {K : PySem.W.Frag} : R1D K (rAll K) allD := fun {F H v x z Q} s bx hz k => by
  cases x <;> simp only [allD, reduceCtorEq, Option.map_eq_some_iff] at hz
  obtain ⟨bs, h2, rfl⟩ := hz
  obtain ⟨p, vs, rfl, h1, r⟩ := bx.lst s
  have e := bls_of r h2
  subst e
  exact ⟨p, bs, rfl, SqL.of h1, k _ F H .no (.bl _)⟩
theorem any_ok {K : PySem.W.Frag} : R1D K (rAny K) anyD := fun {F H v x z Q} s bx hz k => by
  cases x <;> simp only [anyD, reduceCtorEq, Option.map_eq_some_iff] at hz
  obtain ⟨bs, h2, rfl⟩ := hz
  obtain ⟨p, vs, rfl, h1, r⟩ := bx.lst s
  have e := bls_of r h2
  subst e
  exact ⟨p, bs, rfl, SqL.of h1, k _ F H .no (.bl _)⟩
theorem de_all (hm : X.mg "all" = none) (ha : DE X c pa ba e we) (hc : X.calm = true := by rfl) (hg : Gl X "all" := by rfl)
    (he : starEach [e] X.env = (false, eval e X.env) :: starEach [] X.env := by rfl) (hpl : (backTo pos (starEach [] X.env)).any (·.1) = false := by rfl) : DE X c pa false (.Call (.Name "all" p) [e] [] pos) (wUn allD we) :=
  de_c1 (cr_all (X := X) hc) (by rw [ha.kk]; exact all_ok) hm ha hg (by decide +kernel) (by decide) (by decide) he hpl
theorem de_any (hm : X.mg "any" = none) (ha : DE X c pa ba e we) (hc : X.calm = true := by rfl) (hg : Gl X "any" := by rfl)
    (he : starEach [e] X.env = (false, eval e X.env) :: starEach [] X.env := by rfl) (hpl : (backTo pos (starEach [] X.env)).any (·.1) = false := by rfl) : DE X c pa false (.Call (.Name "any" p) [e] [] pos) (wUn anyD we) :=
  de_c1 (cr_any (X := X) hc) (by rw [ha.kk]; exact any_ok) hm ha hg (by decide +kernel) (by decide) (by decide) he hpl
/-! ### isinstance with built-in types -/
def tyD : D → Option String
  | .non => some "NoneType"
  | .bl _ => some "bool"
  | .int _ => some "int"
  | .str _ => some "str"
  | .lst _ => some "list"
  | .tup _ => some "tuple"
  | .dct _ _ => some "dict"
  | .dtt _ _ => some "dict"
  | _ => none
theorem ty_of {K : PySem.W.Frag} {F H : Hp} {v : V} {x : D} {t : String} (s : Same F H) (h : BV K F H v x) (e : tyD x = some t) : TyX K H v (.type t) := by
  cases x <;> cases e
  case non => rw [h.non]; exact .base .non
  case bl b => rw [h.bl]; exact .base (.bl b)
  case int b => rw [h.int]; exact .base (.int b)
  case str b => rw [h.str]; exact .base (.str b)
  case lst ds => obtain ⟨p, vs, rfl, h1, r⟩ := h.lst s; exact .base (.lst h1)
  case tup ds =>
    obtain ⟨p, vs, rfl, h1, r⟩ := h.tup s
    rcases h1 with (h1 | ⟨o, h1⟩) | h1
    · exact .base (.tup h1)
    · exact .fTuple h1
    · obtain ⟨o, its, n, e, cc, _⟩ := h1
      exact .kTuple e cc
  case dct ks ds =>
    obtain ⟨p, kvs, rfl, h1, n, r⟩ := h.dct s
    exact .base (.dK h1)
  case dtt ks ds =>
    obtain ⟨p, kvs, rfl, h1, n, r⟩ := h.dtt s
    exact .base (.dT h1)
end
end Q

set_option Elab.async false
set_option linter.all false
set_option maxRecDepth 100000
set_option maxHeartbeats 4000000
/-! isinstance, names of the module, targets, what is gone through, comprehensions -/
namespace Q
open PySem PySem.Spec PyProof.Rows L2
/-! ### isinstance -/
inductive Ty where | non | bool | int | str | list | tuple | dict
deriving DecidableEq
def Ty.nm : Ty → String
  | .non => "NoneType" | .bool => "bool" | .int => "int" | .str => "str" | .list => "list" | .tuple => "tuple" | .dict => "dict"
def kD2 : D → Option Ty
  | .non => some .non
  | .bl _ => some .bool
  | .int _ => some .int
  | .str _ => some .str
  | .lst _ => some .list
  | .tup _ => some .tuple
  | .dct _ _ => some .dict
  | .dtt _ _ => some .dict
  | _ => none
def isTy : Ty → Ty → Bool
  | .bool, .int => true
  | a, b => decide (a = b)
def isaD (ns : List Ty) (x : D) : Option D := (kD2 x).map fun t => .bl (ns.any (isTy t))
theorem kit_tt {K : PySem.W.Frag} (a b : Ty) : PySem.W.kitOne K (.type a.nm) (.type b.nm) = some (isTy a b) := kit_ty (by cases a <;> cases b <;> decide +kernel)
theorem kit_ts {K : PySem.W.Frag} (a : Ty) : ∀ bs : List Ty, PySem.W.kitAny K (.type a.nm) (bs.map fun b : Ty => Value.type b.nm) = some (bs.any (isTy a))
  | [] => rfl
  | b :: bs => by
    show (match PySem.W.kitOne K (.type a.nm) (.type b.nm) with | some true => some true | some false => PySem.W.kitAny K (.type a.nm) (bs.map fun b : Ty => Value.type b.nm) | none => none) = _
    rw [kit_tt, kit_ts a bs, List.any_cons]
    cases isTy a b <;> rfl
theorem ty_of2 {K : PySem.W.Frag} {F H : Hp} {v : V} {x : D} {t : Ty} (s : Same F H) (h : BV K F H v x) (e : kD2 x = some t) : TyX K H v (.type t.nm) := by
  cases x <;> cases e <;> exact ty_of s h rfl
section
variable {X : Cx} {c : Ctx} {e a b d : Expr} {es : List Expr} {pos p p2 p3 : Pos} {pa pb pd ba bb bd : Bool} {wa wb wd we : WE c.R} {j : Nat}
/-- the name of a built-in type -/
structure TyN (X : Cx) (x : Str) (t : Ty) : Prop where
  g : Gl X x
  m : X.mg x = none
  v : bootBuiltins x = some (.type t.nm)
  n : x ≠ "__name__" := by decide
  d : (x == ("__debug__" : Str)) = false := by decide
theorem TyN.pe {x : Str} {t : Ty} (h : TyN X x t) : PE X (.Name x pos) (tC (.ty t.nm)) := pe_bltn h.g h.m h.v rfl h.n h.d
theorem isa_ok {F H : Hp} {v : V} {x z : D} {t : Ty} {Q : VK} (s : Same F H) (bx : BV c.K F H v x) (hz : isaD [t] x = some z) (k : Rep c.K F (.bl (isTy ((kD2 x).getD .non) t)) z → Q (.bl (isTy ((kD2 x).getD .non) t)) H) : rIsi c.K [v, .ty t.nm] H Q := by
  simp only [isaD, Option.map_eq_some_iff] at hz
  obtain ⟨u, h1, rfl⟩ := hz
  have k := k (by rw [h1]; simp only [Option.getD_some, List.any_cons, List.any_nil, Bool.or_false]; exact .bl _)
  rw [h1] at k
  exact ⟨v, _, _, _, _, rfl, .ty _, ty_of2 s bx h1, kit_tt u t, k⟩
theorem de_is1 {x : Str} {t : Ty} (hm : X.mg "isinstance" = none) (ht : TyN X x t) (he : DE X c pa ba e we) (hg : Gl X "isinstance" := by rfl)
    (he1 : starEach [e, .Name x p2] X.env = (false, eval e X.env) :: starEach [.Name x p2] X.env := by rfl) (he2 : starEach [.Name x p2] X.env = (false, eval (.Name x p2) X.env) :: starEach [] X.env := by rfl)
    (hpl : (backTo pos (starEach [.Name x p2] X.env)).any (·.1) = false := by rfl) : DE X c pa false (.Call (.Name "isinstance" p) [e, .Name x p2] [] pos) (wUn (isaD [t]) we) :=
  ⟨(pe_callB (call_isi (X := X)) hg hm (by decide +kernel) (pa_cons he.pe (pa_cons ht.pe pa_nil he2) he1) (by decide) (by decide) he1 hpl).imp fun σ H Q ⟨ρ, F, O, Kk, S, w, k⟩ => ⟨ρ, F, O, _, S, w, fun x ρ1 v F1 H1 ⟨z, hz, hk⟩ S1 fs1 ko1 g1 r1 => by
    rw [he.kk]
    exact isa_ok S1.sub (r1.bv S1) hz fun rp => k z ρ1 _ F1 H1 hk S1 fs1 ko1 g1 rp⟩, he.kk⟩
/-- several types -/
structure TyNs (X : Cx) (es : List Expr) (ns : List Ty) : Prop where
  pa : PA X es (fun _ H Q => Q (ns.map fun t => V.ty t.nm) H)
theorem tns_nil : TyNs X [] [] := ⟨pa_nil⟩
theorem tns_cons {x : Str} {t : Ty} {ns : List Ty} (ht : TyN X x t) (hs : TyNs X es ns) (he : starEach (.Name x p :: es) X.env = (false, eval (.Name x p) X.env) :: starEach es X.env := by rfl) : TyNs X (.Name x p :: es) (t :: ns) :=
  ⟨pa_cons ht.pe hs.pa he⟩
theorem clsV_ns : ∀ ns : List Ty, Paired ClsV (ns.map fun t => V.ty t.nm) (ns.map fun t => Value.type t.nm)
  | [] => .nil
  | t :: ns => .cons (.ty _) (clsV_ns ns)
theorem de_isN {ns : List Ty} {kk} (hm : X.mg "isinstance" = none) (ht : TyNs X es ns) (he : DE X c pa ba e we) (hl : ns.length ≤ 10 := by decide) (hg : Gl X "isinstance" := by rfl)
    (he1 : starEach [e, .Tuple es kk p2] X.env = (false, eval e X.env) :: starEach [.Tuple es kk p2] X.env := by rfl) (he2 : starEach [.Tuple es kk p2] X.env = (false, eval (.Tuple es kk p2) X.env) :: starEach [] X.env := by rfl)
    (hpl : (backTo pos (starEach [.Tuple es kk p2] X.env)).any (·.1) = false := by rfl) : DE X c pa false (.Call (.Name "isinstance" p) [e, .Tuple es kk p2] [] pos) (wUn (isaD ns) we) :=
  ⟨(pe_callB (call_isiT (X := X)) hg hm (by decide +kernel) (pa_cons he.pe (pa_cons (pe_tup ht.pa) pa_nil he2) he1) (by decide) (by decide) he1 hpl).imp fun σ H Q ⟨ρ, F, O, Kk, S, w, k⟩ => ⟨ρ, F, O, _, S, w, fun x ρ1 v F1 H1 ⟨z, hz, hk⟩ S1 fs1 ko1 g1 r1 => by
    refine ⟨by rw [List.length_map]; exact Nat.le_trans hl (Nat.le_trans (by decide) big_line), fun q hq => ?_⟩
    simp only [isaD, Option.map_eq_some_iff] at hz
    obtain ⟨u, h1, rfl⟩ := hz
    have al : Al F1 H1 (upd F1 q (.tup (ns.map fun t => V.ty t.nm))) (upd H1 q (.tup (ns.map fun t => V.ty t.nm))) := Al.one hq
    have gr := al.grow S1.sub
    have S2 := S1.grow gr
    rw [he.kk]
    exact ⟨v, q, _, _, _, _, rfl, upd_same, clsV_ns ns, ty_of2 S2.sub ((r1.grow gr.fs).bv S2) h1, kit_ts u ns, k _ ρ1 _ _ _ hk S2 (fs1.trans gr.fs) (fun x hx => by rw [ko_upd S1 hq x hx]; exact ko1 x hx) (fun e => ⟨(g1 e).1, (g1 e).2.trans gr⟩) (.bl _)⟩⟩, he.kk⟩
/-! ### names of the module -/
structure GlD (K : PySem.W.Frag) (mg : Str → Option Value) (x : Str) (d : D) : Prop where
  ex : ∃ u v, mg x = some u ∧ L2.RelV v u ∧ ∀ F, Rep K F v d
theorem de_g {x : Str} {d : D} (h : GlD c.K X.mg x d) (hk : X.K = c.K := by rfl) (hg : Gl X x := by rfl) (hd : (x == ("__debug__" : Str)) = false := by decide) : DE X c true false (.Name x pos) (wC c.R d) := by
  obtain ⟨u, v, h1, h2, h3⟩ := h.ex
  exact de_of_c (pe_glob hg h1 h2 hd) h3 hk
end
/-! ### targets -/
def Wp (ts : List Nat) (σ σ' : L2.St) : Prop := ∀ vs : List Nat, (∀ i ∈ ts, i ∈ vs) → wipe σ' vs = wipe σ vs
theorem wipe_out' {σ : L2.St} {i : Nat} {v : Option V} : ∀ {vs : List Nat}, i ∈ vs → wipe (σ.set i v) vs = wipe σ vs
  | [], h => by cases h
  | j :: vs, h => by
    by_cases e : i = j
    · subst e
      by_cases m : i ∈ vs
      · show (wipe (σ.set i v) vs).set i none = (wipe σ vs).set i none
        rw [wipe_out' m]
      · apply List.ext_getElem?
        intro k
        show ((wipe (σ.set i v) vs).set i none)[k]? = ((wipe σ vs).set i none)[k]?
        rw [set_get, set_get, wipe_length, wipe_length, List.length_set]
        by_cases q : i = k
        · rw [if_pos q, if_pos q]
        · rw [if_neg q, if_neg q]
          by_cases m : k ∈ vs
          · clear h
            have : ∀ us : List Nat, k ∈ us → ∀ τ τ' : L2.St, τ.length = τ'.length → (wipe τ us)[k]? = (wipe τ' us)[k]? := by
              intro us
              induction us with
              | nil => intro h; cases h
              | cons u us ih =>
                intro h τ τ' hl
                show ((wipe τ us).set u none)[k]? = ((wipe τ' us).set u none)[k]?
                rw [set_get, set_get, wipe_length, wipe_length, hl]
                by_cases z : u = k
                · rw [if_pos z, if_pos z]
                · rw [if_neg z, if_neg z]
                  rcases List.mem_cons.mp h with m | m
                  · exact absurd m.symm z
                  · exact ih m τ τ' hl
            exact this vs m _ _ (by rw [List.length_set])
          · rw [wipe_out m, wipe_out m, set_get, if_neg q]
    · have m : i ∈ vs := (List.mem_cons.mp h).resolve_left e
      show (wipe (σ.set i v) vs).set j none = (wipe σ vs).set j none
      rw [wipe_out' m]
abbrev WG (R : Rgn) := D → DS R → (DS R → Prop) → Prop
abbrev WGs (R : Rgn) := List D → DS R → (DS R → Prop) → Prop
def liftG (c : Ctx) (ts : List Nat) (g : WG c.R) : TG := fun v σ H Q => ∃ (ρ : DS c.R) (F : Hp) (O : List Addr) (Kk : DS c.R → Prop) (d : D), St c F O σ ρ H ∧ Rep c.K F v d ∧ g d ρ Kk ∧ ∀ ρ' σ', Kk ρ' → St c F O σ' ρ' H → Wp ts σ σ' → Q σ' H
def liftGs (c : Ctx) (ts : List Nat) (g : WGs c.R) : TGs := fun vs σ H Q => ∃ (ρ : DS c.R) (F : Hp) (O : List Addr) (Kk : DS c.R → Prop) (ds : List D), St c F O σ ρ H ∧ Reps c.K F vs ds ∧ g ds ρ Kk ∧ ∀ ρ' σ', Kk ρ' → St c F O σ' ρ' H → Wp ts σ σ' → Q σ' H
theorem _root_.L2.PG.imp {X : Cx} {e : Expr} {t u : TG} (h : PG X e t) (i : ∀ v σ H Q, u v σ H Q → t v σ H Q) : PG X e u := ⟨fun pins s σ H v w Q I r q => h.run pins s σ H v w Q I r (i v σ H Q q)⟩
theorem _root_.L2.PGs.imp {X : Cx} {e : List Expr} {t u : TGs} (h : PGs X e t) (i : ∀ v σ H Q, u v σ H Q → t v σ H Q) : PGs X e u := ⟨fun pins s σ H v w Q I r q => h.run pins s σ H v w Q I r (i v σ H Q q)⟩
theorem _root_.L2.PI.imp {X : Cx} {tg e : Expr} {t u : TI} (h : PI X tg e t) (i : ∀ σ H Q, u σ H Q → t σ H Q) : PI X tg e u := ⟨fun pins s σ H Q I q => h.run pins s σ H Q I (i σ H Q q)⟩
theorem _root_.L2.PI.or {X : Cx} {tg e : Expr} {t u : TI} (h : PI X tg e t) (k : PI X tg e u) : PI X tg e (fun σ H R => t σ H R ∨ u σ H R) := ⟨fun pins s σ H Q I q => q.elim (h.run pins s σ H Q I) (k.run pins s σ H Q I)⟩
structure DG (X : Cx) (c : Ctx) (e : Expr) (ts : List Nat) (g : WG c.R) : Prop where
  pg : PG X e (liftG c ts g)
structure DGs (X : Cx) (c : Ctx) (es : List Expr) (ts : List Nat) (g : WGs c.R) : Prop where
  pgs : PGs X es (liftGs c ts g)
section
variable {X : Cx} {c : Ctx} {e : Expr} {es : List Expr} {pos p : Pos} {ts us : List Nat} {g : WG c.R} {gs : WGs c.R}
def gNm {R : Rgn} (i : Nat) : WG R := fun d ρ K => K (ρ.put i (some (.fz d)))
theorem dg_name {x : Str} {i : Nat} (hN : X.N.Nodup) (hi : X.N[i]? = some x := by rfl) (hx : Loc X.env.scope x := by first | exact Or.inl rfl | exact Or.inr rfl)
    (hf : X.fn x = true ∨ X.env.scope.names.lookup x = some .local := by first | exact .inl rfl | exact .inr rfl | assumption) : DG X c (.Name x pos) [i] (gNm i) :=
  ⟨(pg_name hN hi hx hf).imp fun v σ H Q ⟨ρ, F, O, Kk, d, S, r, w, k⟩ => k _ _ w (S.setF r i) fun vs h => wipe_out' (h i (by simp))⟩
def gNl {R : Rgn} : WGs R := fun ds ρ K => ds = [] ∧ K ρ
def gCs {R : Rgn} (g : WG R) (gs : WGs R) : WGs R := fun ds ρ K => ∃ d es, ds = d :: es ∧ g d ρ fun ρ1 => gs es ρ1 K
theorem dgs_nil : DGs X c [] [] gNl := ⟨pgs_nil.imp fun vs σ H Q ⟨ρ, F, O, Kk, ds, S, r, ⟨e, w⟩, k⟩ => by subst e; cases r; exact ⟨rfl, k ρ σ w S fun _ _ => rfl⟩⟩
theorem dgs_cons (h1 : DG X c e ts g) (h2 : DGs X c es us gs) (hs : (assignEach (e :: es) X.env).map (·.2) = assign e X.env :: (assignEach es X.env).map (·.2) := by rfl) : DGs X c (e :: es) (ts ++ us) (gCs g gs) :=
  ⟨(pgs_cons h1.pg h2.pgs hs).imp fun vs σ H Q ⟨ρ, F, O, Kk, ds, S, r, ⟨d, ds', e, w⟩, k⟩ => by
    subst e
    cases r with
    | cons r1 r2 =>
      exact ⟨_, _, rfl, ρ, F, O, _, d, S, r1, w, fun ρ1 σ1 hk S1 w1 => ⟨ρ1, F, O, Kk, ds', S1, r2, hk, fun ρ2 σ2 hk2 S2 w2 => k ρ2 σ2 hk2 S2 fun vs h => by
        rw [w2 vs fun i m => h i (List.mem_append.mpr (.inr m)), w1 vs fun i m => h i (List.mem_append.mpr (.inl m))]⟩⟩⟩
def gTp {R : Rgn} (n : Nat) (gs : WGs R) : WG R := fun d ρ K => ∃ ds, d = .tup ds ∧ ds.length = n ∧ gs ds ρ K
theorem dg_tup {kk : Nat} {n : Nat} (h : DGs X c es us gs) (hk : X.K = c.K := by rfl) (hc : X.calm = true := by rfl) (hn : (assignEach es X.env).length = n := by rfl) (hst : (assignEach es X.env).findIdx? (·.1) = none := by rfl) : DG X c (.Tuple es kk pos) us (gTp n gs) :=
  ⟨(pg_tup hc h.pgs hn hst).imp fun v σ H Q ⟨ρ, F, O, Kk, d, S, r, ⟨ds, e, hl, w⟩, k⟩ => by
    subst e
    cases r with
    | tup h1 r1 => rw [hk]; exact ⟨_, _, rfl, SqT.same S.sub h1, by rw [r1.length]; exact hl, ρ, F, O, Kk, ds, S, r1, w, k⟩⟩
/-- target = e -/
def sAsg {R : Rgn} (we : WE R) (g : WG R) : WS R := fun D ρ => we ρ fun d ρ1 => g d ρ1 D.nx
theorem ds_asg {fr pa : Bool} {we : WE c.R} {tg : Expr} (he : DE X c pa false e we) (hg : DG X c tg ts g) (hs : swapsWithSole [tg] e pos.line X.env = pure false := by rfl) (hw : swappedStores [tg] e X.env = pure none := by rfl) (h1 : (assignEach [tg] X.env).map (·.2) = [assign tg X.env] := by rfl) : DS1 X c fr (.Assign [tg] e pos) (sAsg we g) :=
  ⟨(ps_asg he.pe hg.pg hs hw h1).imp fun E σ H ⟨ρ, F, Dk, S, w, k1, k2, k3, k4⟩ => ⟨ρ, F, [], _, S, w, fun d ρ1 v F1 H1 hk S1 fs1 ko1 g1 r1 => ⟨ρ1, F1, [], _, d, S1, r1, hk, fun ρ2 σ2 hk2 S2 _ => k1 ρ2 σ2 F1 H1 hk2 S2 fs1⟩⟩⟩
end
end Q

set_option Elab.async false
set_option linter.all false
set_option maxRecDepth 100000
set_option maxHeartbeats 4000000
/-! going through things; comprehensions -/
namespace Q
open PySem PySem.Spec PyProof.Rows L2
/-- J hands out the data ds, one after another, as long as what was data stays -/
structure Walks (K : PySem.W.Frag) (F0 : Hp) (J : It) (ds : List D) : Prop where
  go : ∀ F H i, Same F0 F → Same F H → i < ds.length → J.go i H ∧ ∀ x H', J.yld i H x H' → ∃ d F', ds[i]? = some d ∧ Al F H F' H' ∧ Rep K F' x d
  stop : ∀ F H, Same F0 F → Same F H → J.stop ds.length H
section
variable {K : PySem.W.Frag} {F0 : Hp} {a : Addr} {vs : List V} {ds : List D}
theorem walks_list (h : F0 a = some (.lst vs)) (r : Reps K F0 vs ds) : Walks K F0 (Itl K a) ds where
  go := fun F H i s1 s2 hi => by
    have hs : SqL K H a vs := SqL.of (s2 _ _ (s1 _ _ h))
    obtain ⟨v, hv, rv⟩ := r.get' (List.getElem?_eq_getElem hi)
    exact ⟨⟨vs, v, hs, hv⟩, fun x H' ⟨e, y⟩ => ⟨_, F, List.getElem?_eq_getElem hi, by rw [e]; exact .no, by
      have := y vs hs
      rw [hv] at this
      cases this
      exact rv.same s1⟩⟩
  stop := fun F H s1 s2 => ⟨vs, SqL.of (s2 _ _ (s1 _ _ h)), by rw [r.length]; exact Nat.le_refl _⟩
theorem walks_tup (h : SqT K F0 a vs) (r : Reps K F0 vs ds) : Walks K F0 (Itt K a) ds where
  go := fun F H i s1 s2 hi => by
    have hs : SqT K H a vs := SqT.same (s1.trans s2) h
    obtain ⟨v, hv, rv⟩ := r.get' (List.getElem?_eq_getElem hi)
    exact ⟨⟨vs, v, hs, hv⟩, fun x H' ⟨e, y⟩ => ⟨_, F, List.getElem?_eq_getElem hi, by rw [e]; exact .no, by
      have := y vs hs
      rw [hv] at this
      cases this
      exact rv.same s1⟩⟩
  stop := fun F H s1 s2 => ⟨vs, SqT.same (s1.trans s2) h, by rw [r.length]; exact Nat.le_refl _⟩
theorem signs_length (z : Str) : (signs z).length = z.cps.size := by simp [signs]
theorem walks_str (z : Str) : Walks K F0 (Its z) (signs z) where
  go := fun F H i s1 s2 hi => by
    have hi' : i < z.cps.size := by rw [← signs_length]; exact hi
    refine ⟨hi', fun x H' ⟨e, ch, h1, h2⟩ => ⟨.str ⟨#[ch]⟩, F, ?_, by rw [e]; exact .no, by rw [h2]; exact .str _⟩⟩
    simp only [signs, List.getElem?_map, Option.map_eq_some_iff]
    exact ⟨ch, by simpa using h1, rfl⟩
  stop := fun F H s1 s2 => by show z.cps.size ≤ (signs z).length; rw [signs_length]; exact Nat.le_refl _
def rngD (lo : Int) (n : Nat) : List D := (List.range n).map fun i => .int (lo + (i : Nat))
theorem walks_rng (lo : Int) (n : Nat) : Walks K F0 (Itr lo n) (rngD lo n) where
  go := fun F H i s1 s2 hi => by
    have hi' : i < n := by simpa [rngD] using hi
    refine ⟨hi', fun x H' ⟨e, h2⟩ => ⟨.int (lo + (i : Nat)), F, ?_, by rw [e]; exact .no, by rw [h2]; exact .int _⟩⟩
    simp [rngD, List.getElem?_range hi']
  stop := fun F H s1 s2 => by show n ≤ (rngD lo n).length; simp [rngD]
def enumD : Nat → List D → List D
  | _, [] => []
  | n, d :: ds => .tup [.int (n : Nat), d] :: enumD (n + 1) ds
theorem enumD_length : ∀ (n : Nat) (ds : List D), (enumD n ds).length = ds.length
  | _, [] => rfl
  | n, _ :: ds => by rw [enumD, List.length_cons, List.length_cons, enumD_length]
theorem enumD_get : ∀ (n : Nat) (ds : List D) (i : Nat) (d : D), ds[i]? = some d → (enumD n ds)[i]? = some (.tup [.int ((n + i : Nat)), d])
  | _, [], i, _, h => by simp at h
  | n, x :: ds, 0, d, h => by simp at h; subst h; rfl
  | n, x :: ds, i + 1, d, h => by
    rw [enumD, List.getElem?_cons_succ, enumD_get (n + 1) ds i d (by simpa using h)]
    congr 5
    omega
theorem al_tup {F H : Hp} {q : Addr} {us : List V} {es : List D} (s : Same F H) (hq : H q = none) (r : Reps K F us es) : Al F H (upd F q (.tup us)) (upd H q (.tup us)) ∧ Rep K (upd F q (.tup us)) (.ref q) (.tup es) :=
  ⟨Al.one hq, .tup (SqT.of upd_same) (r.same (Same.upd_at s hq))⟩
theorem walks_enum (h : F0 a = some (.lst vs)) (r : Reps K F0 vs ds) : Walks K F0 (Ite K a) (enumD 0 ds) where
  go := fun F H i s1 s2 hi => by
    rw [enumD_length] at hi
    have hs : SqL K H a vs := SqL.of (s2 _ _ (s1 _ _ h))
    obtain ⟨v, hv, rv⟩ := r.get' (List.getElem?_eq_getElem hi)
    refine ⟨⟨vs, v, hs, hv⟩, fun x H' ⟨q, y, e1, e2, e3, e4⟩ => ?_⟩
    have := e4 vs hs
    rw [hv] at this
    cases this
    obtain ⟨al, rp⟩ := al_tup (K := K) (us := [.int ((i : Nat) : Int), v]) (es := [.int ((i : Nat) : Int), ds[i]]) s2 e2 (.cons (.int _) (.cons (rv.same s1) .nil))
    refine ⟨_, _, enumD_get 0 ds i _ (List.getElem?_eq_getElem hi), by rw [e3]; exact al, by rw [e1, Nat.zero_add]; exact rp⟩
  stop := fun F H s1 s2 => ⟨vs, SqL.of (s2 _ _ (s1 _ _ h)), by rw [enumD_length, r.length]; exact Nat.le_refl _⟩
def zipD (xs ys : List D) : List D := List.zipWith (fun x y => .tup [x, y]) xs ys
theorem zipD_get {xs ys : List D} {i : Nat} {x y : D} (hx : xs[i]? = some x) (hy : ys[i]? = some y) : (zipD xs ys)[i]? = some (.tup [x, y]) := by
  unfold zipD
  rw [List.getElem?_zipWith, hx, hy]
theorem walks_zip {b : Addr} {us : List V} {es : List D} (h : F0 a = some (.lst vs)) (r : Reps K F0 vs ds) (h' : F0 b = some (.lst us)) (r' : Reps K F0 us es) : Walks K F0 (Itz K a b) (zipD ds es) where
  go := fun F H i s1 s2 hi => by
    have hi1 : i < ds.length := by simp [zipD] at hi; omega
    have hi2 : i < es.length := by simp [zipD] at hi; omega
    have hs : SqL K H a vs := SqL.of (s2 _ _ (s1 _ _ h))
    have hs' : SqL K H b us := SqL.of (s2 _ _ (s1 _ _ h'))
    obtain ⟨v, hv, rv⟩ := r.get' (List.getElem?_eq_getElem hi1)
    obtain ⟨u, hu, ru⟩ := r'.get' (List.getElem?_eq_getElem hi2)
    refine ⟨⟨vs, us, v, u, hs, hs', hv, hu⟩, fun x H' ⟨q, y, y', e1, e2, e3, e4, e5⟩ => ?_⟩
    have t1 := e4 vs hs
    have t2 := e5 us hs'
    rw [hv] at t1
    rw [hu] at t2
    cases t1
    cases t2
    obtain ⟨al, rp⟩ := al_tup (K := K) (us := [v, u]) (es := [ds[i], es[i]]) s2 e2 (.cons (rv.same s1) (.cons (ru.same s1) .nil))
    exact ⟨_, _, zipD_get (List.getElem?_eq_getElem hi1) (List.getElem?_eq_getElem hi2), by rw [e3]; exact al, by rw [e1]; exact rp⟩
  stop := fun F H s1 s2 => ⟨vs, us, SqL.of (s2 _ _ (s1 _ _ h)), SqL.of (s2 _ _ (s1 _ _ h')), by
    have := r.length
    have := r'.length
    simp only [zipD, List.length_zipWith]
    omega⟩
end
abbrev WI (R : Rgn) := DS R → (List D → DS R → Prop) → Prop
def liftI (c : Ctx) (w : WI c.R) : TI := fun σ H R => ∃ (ρ : DS c.R) (F : Hp) (O : List Addr) (Kk : List D → DS c.R → Prop), St c F O σ ρ H ∧ w ρ Kk ∧
  ∀ ds ρ' F' H' J, Kk ds ρ' → St c F' O σ ρ' H' → Same F F' → (∀ a ∈ O, H' a = H a) → Walks c.K F' J ds → R J H'
structure DI (X : Cx) (c : Ctx) (tg e : Expr) (w : WI c.R) : Prop where
  pi : PI X tg e (liftI c w)
/-- going through a value -/
structure VI (X : Cx) (tg : Expr) (r : V → Hp → (It → Hp → Prop) → Prop) : Prop where
  run : ∀ (pins : List (Addr × Obj)) (s : Shared) (σ : L2.St) (H : Hp) (x : V) (v : Value) (R : It → Hp → Prop), L2.Inv X pins σ H s → L2.RelV x v → r x H R → wpAny (model X.prog X.w) X.A (pyIter v) (PIE X pins σ tg R) X.xe s
def rWalk (K : PySem.W.Frag) : V → Hp → (It → Hp → Prop) → Prop := fun x H R => (∃ a xs, x = .ref a ∧ SqL K H a xs ∧ R (Itl K a) H) ∨ (∃ a xs, x = .ref a ∧ SqT K H a xs ∧ R (Itt K a) H) ∨ ∃ z, x = .str z ∧ R (Its z) H
theorem vi_walk {X : Cx} {tg : Expr} : VI X tg (rWalk X.K) := ⟨fun pins s σ H x v R I rx h => by
  rcases h with ⟨a, xs, rfl, hq, q⟩ | ⟨a, xs, rfl, hq, q⟩ | ⟨z, rfl, q⟩
  · cases rx
    obtain ⟨its, _, p, _⟩ := I.list hq
    exact wpAny_pyIter_list p.isList (pi_one (tk := s.toks) I _ (turn_list a _) ⟨_, Heap.get?_push_size _ rfl, rfl, rfl⟩ q)
  · cases rx
    obtain ⟨its, _, p, _⟩ := I.tuple hq
    exact wpAny_pyIter_tuple (show s.heap.IsTuple a its.toArray from p) (pi_one (tk := s.toks) I _ (turn_tuple a _) ⟨_, Heap.get?_push_size _ rfl, rfl, rfl⟩ q)
  · obtain ⟨tk, rfl⟩ := rx
    by_cases ha : z.cps.all (· < 128) = true
    · exact wpAny_pyIter_ascii ha (pi_one (tk := s.toks) I _ (turn_str _ z tk "str_ascii_iterator" (.inl rfl)) ⟨_, Heap.get?_push_size _ rfl, rfl, rfl⟩ q)
    · exact wpAny_pyIter_wide (Bool.not_eq_true _ ▸ ha) (pi_one (tk := s.toks) I _ (turn_str _ z tk "str_iterator" (.inr rfl)) ⟨_, Heap.get?_push_size _ rfl, rfl, rfl⟩ q)⟩
theorem VI.pi {X : Cx} {tg e : Expr} {te : TE} {r : V → Hp → (It → Hp → Prop) → Prop} (h : VI X tg r) (he : PE X e te) : PI X tg e (fun σ H R => te σ H fun x H1 => r x H1 R) :=
  ⟨fun pins s σ H R I q => thn (he.run pins s σ H _ I q) fun v s1 ⟨x, H1, I1, r1, q1⟩ => h.run pins s1 σ H1 x v R I1 r1 q1⟩
def seqD : D → Option (List D)
  | .lst ds => some ds
  | .tup ds => some ds
  | .str z => some (signs z)
  | _ => none
section
variable {X : Cx} {c : Ctx} {fr : Bool} {tg iter e e2 elt : Expr} {es ifs : List Expr} {pos p : Pos} {pa pb bb : Bool} {ts us : List Nat} {g : WG c.R} {we wb : WE c.R} {wi : WI c.R} {wt : WB c.R}
def wSq {R : Rgn} (we : WE R) : WI R := fun ρ K => we ρ fun d ρ1 => ∃ ds, seqD d = some ds ∧ K ds ρ1
theorem di_seq (he : DE X c pa false e we) : DI X c tg e (wSq we) :=
  ⟨(vi_walk.pi he.pe).imp fun σ H R ⟨ρ, F, O, Kk, S, w, k⟩ => ⟨ρ, F, O, _, S, w, fun d ρ1 v F1 H1 ⟨ds, hd, hk⟩ S1 fs1 ko1 g1 r1 => by
    rw [he.kk]
    cases d <;> simp only [seqD, reduceCtorEq, Option.some.injEq] at hd <;> subst hd
    case lst ds =>
      cases r1 with
      | lst h r => exact .inl ⟨_, _, rfl, SqL.of (S1.sub _ _ h), k _ ρ1 F1 H1 _ hk S1 fs1 ko1 (walks_list h r)⟩
    case tup ds =>
      cases r1 with
      | tup h r => exact .inr (.inl ⟨_, _, rfl, SqT.same S1.sub h, k _ ρ1 F1 H1 _ hk S1 fs1 ko1 (walks_tup h r)⟩)
    case str z =>
      cases r1
      exact .inr (.inr ⟨_, rfl, k _ ρ1 F1 H1 _ hk S1 fs1 ko1 (walks_str _)⟩)⟩⟩
def wRg {R : Rgn} (we : WE R) : WI R := fun ρ K => we ρ fun d ρ1 => ∃ n : Int, d = .int n ∧ -1000000000 ≤ n ∧ n ≤ 1000000000 ∧ K (rngD 0 n.toNat) ρ1
theorem di_rng (hm : X.mg "range" = none) (he : DE X c pa bb e we) (hg : Gl X "range" := by rfl) (h1 : starEach [e] X.env = (false, eval e X.env) :: starEach [] X.env := by rfl) (hs : starEach [e] X.env = [(false, eval e X.env)] := by rfl) : DI X c tg (.Call (.Name "range" p) [e] [] pos) (wRg we) :=
  ⟨(pi_range1 hg hm (pa_cons he.pe pa_nil h1) hs).imp fun σ H R ⟨ρ, F, O, Kk, S, w, k⟩ => ⟨ρ, F, O, _, S, w, fun d ρ1 v F1 H1 ⟨n, hd, n1, n2, hk⟩ S1 fs1 ko1 g1 r1 => by
    subst hd
    exact ⟨n, by rw [(r1.bv S1).int], by omega, by omega, k _ ρ1 F1 H1 _ hk S1 fs1 ko1 (walks_rng 0 n.toNat)⟩⟩⟩
def wRg2 {R : Rgn} (we wb : WE R) : WI R := fun ρ K => we ρ fun d ρ1 => wb ρ1 fun d' ρ2 => ∃ i n : Int, d = .int i ∧ d' = .int n ∧ (-1000000000 ≤ i ∧ i ≤ 1000000000 ∧ -1000000000 ≤ n ∧ n ≤ 1000000000) ∧ K (rngD i (n - i).toNat) ρ2
theorem di_rng2 (hm : X.mg "range" = none) (he : DE X c pa false e we) (he2 : DE X c pb false e2 wb) (hg : Gl X "range" := by rfl) (h1 : starEach [e, e2] X.env = (false, eval e X.env) :: starEach [e2] X.env := by rfl) (h2 : starEach [e2] X.env = (false, eval e2 X.env) :: starEach [] X.env := by rfl)
    (h3 : starEach [e, e2] X.env = [(false, eval e X.env), (false, eval e2 X.env)] := by rfl) (h4 : starEach [e2] X.env = [(false, eval e2 X.env)] := by rfl) : DI X c tg (.Call (.Name "range" p) [e, e2] [] pos) (wRg2 we wb) :=
  ⟨(pi_range2 hg hm (pa_cons he.pe (pa_cons he2.pe pa_nil h2) h1) h3 h4).imp fun σ H R ⟨ρ, F, O, Kk, S, w, k⟩ => ⟨ρ, F, O, _, S, w, fun d ρ1 v F1 H1 hk1 S1 fs1 ko1 g1 r1 => ⟨ρ1, F1, O, _, S1, hk1, fun d' ρ2 u F2 H2 ⟨i, n, e1, e2, hb, hk⟩ S2 fs2 ko2 g2 r2 => by
    subst e1
    subst e2
    cases r1
    cases r2
    exact ⟨i, n, rfl, by omega, k _ ρ2 F2 H2 _ hk S2 (fs1.trans fs2) (fun q hq => by rw [ko2 q hq, ko1 q hq]) (walks_rng i (n - i).toNat)⟩⟩⟩⟩
def wEn {R : Rgn} (we : WE R) : WI R := fun ρ K => we ρ fun d ρ1 => ∃ ds, d = .lst ds ∧ K (enumD 0 ds) ρ1
theorem di_enum {elts : List Expr} {kk : Nat} {tpos : Pos} (hm : X.mg "enumerate" = none) (he : DE X c pa false e we) (hg : Gl X "enumerate" := by rfl) (h1 : starEach [e] X.env = (false, eval e X.env) :: starEach [] X.env := by rfl) (hs : starEach [e] X.env = [(false, eval e X.env)] := by rfl) : DI X c (.Tuple elts kk tpos) (.Call (.Name "enumerate" p) [e] [] pos) (wEn we) :=
  ⟨(pi_enum hg hm (pa_cons he.pe pa_nil h1) hs).imp fun σ H R ⟨ρ, F, O, Kk, S, w, k⟩ => ⟨ρ, F, O, _, S, w, fun d ρ1 v F1 H1 ⟨ds, hd, hk⟩ S1 fs1 ko1 g1 r1 => by
    subst hd
    cases r1 with
    | lst h r => rw [he.kk]; exact ⟨_, _, rfl, SqL.of (S1.sub _ _ h), k _ ρ1 F1 H1 _ hk S1 fs1 ko1 (walks_enum h r)⟩⟩⟩
def wZp {R : Rgn} (we wb : WE R) : WI R := fun ρ K => we ρ fun d ρ1 => wb ρ1 fun d' ρ2 => ∃ ds es, d = .lst ds ∧ d' = .lst es ∧ K (zipD ds es) ρ2
theorem di_zip {elts : List Expr} {kk : Nat} {tpos : Pos} (hm : X.mg "zip" = none) (he : DE X c pa false e we) (he2 : DE X c pb false e2 wb) (hg : Gl X "zip" := by rfl) (h1 : starEach [e, e2] X.env = (false, eval e X.env) :: starEach [e2] X.env := by rfl) (h2 : starEach [e2] X.env = (false, eval e2 X.env) :: starEach [] X.env := by rfl)
    (h4 : (backTo pos (starEach [e2] X.env)).any (·.1) = false := by rfl) : DI X c (.Tuple elts kk tpos) (.Call (.Name "zip" p) [e, e2] [] pos) (wZp we wb) :=
  ⟨(pi_zip hg hm (pa_cons he.pe (pa_cons he2.pe pa_nil h2) h1) h1 h4).imp fun σ H R ⟨ρ, F, O, Kk, S, w, k⟩ => ⟨ρ, F, O, _, S, w, fun d ρ1 v F1 H1 hk1 S1 fs1 ko1 g1 r1 => ⟨ρ1, F1, O, _, S1, hk1, fun d' ρ2 u F2 H2 ⟨ds, es, e1, e2, hk⟩ S2 fs2 ko2 g2 r2 => by
    subst e1
    subst e2
    have r1 := Rep.same fs2 r1
    cases r1 with
    | lst h r =>
      cases r2 with
      | lst h' r' => rw [he.kk]; exact ⟨_, _, _, _, rfl, SqL.of (S2.sub _ _ h), SqL.of (S2.sub _ _ h'), k _ ρ2 F2 H2 _ hk S2 (fs1.trans fs2) (fun q hq => by rw [ko2 q hq, ko1 q hq]) (walks_zip h r h' r')⟩⟩⟩⟩
/-! ### for -/
def forGo {R : Rgn} (g : WG R) (wb : WS R) (Dk : DEnds R) : List D → DS R → Prop
  | [], ρ => Dk.nx ρ
  | d :: ds, ρ => g d ρ fun ρ2 => wb { Dk with nx := forGo g wb Dk ds, ct := forGo g wb Dk ds, bk := Dk.nx } ρ2
def sFor {R : Rgn} (wi : WI R) (g : WG R) (wb : WS R) : WS R := fun Dk ρ => wi ρ fun ds ρ1 => forGo g wb Dk ds ρ1
theorem ds_for {body : List Stmt} {wb : WS c.R} (hi : DI X c tg iter wi) (hg : DG X c tg ts g) (hb : DSs X c fr body wb) (hp : PassesOwn (model X.prog X.w) X.A X.env X.xe := by exact PassesOwn.never) (hc : X.calm = true := by rfl)
    (hs : ∀ x, foldedSetIterable iter X.env x = pure x := by intro _; rfl) : DS1 X c fr (.For tg iter body [] pos) (sFor wi g wb) :=
  ⟨(ps_for hp hc hi.pi hg.pg hb.ps hs).imp fun E σ H ⟨ρ, F, Dk, S, w, k1, k2, k3, k4⟩ => ⟨ρ, F, [], _, S, w, fun ds ρ1 F1 H1 J hk S1 fs1 ko1 wk => by
    refine ⟨fun i m σ' H' => ∃ ρ' F', m = ds.length - i ∧ i ≤ ds.length ∧ St c F' [] σ' ρ' H' ∧ Same F1 F' ∧ forGo g wb Dk (ds.drop i) ρ', ⟨ds.length, ρ1, F1, rfl, Nat.zero_le _, S1, Same.refl _, hk⟩, ?_⟩
    rintro i m σ' H' ⟨ρ', F', rfl, hi, S', fs', hw⟩
    by_cases hlt : i < ds.length
    · obtain ⟨hgo, hy⟩ := wk.go F' H' i fs' S'.sub hlt
      refine .inr ⟨hgo, fun σ2 H2 => ∃ ρ2 F2, St c F2 [] σ2 ρ2 H2 ∧ Same F1 F2 ∧ forGo g wb Dk (ds.drop (i + 1)) ρ2, fun σ2 H2 ⟨ρ2, F2, S2, fs2, h2⟩ => ⟨ds.length - (i + 1), by omega, ρ2, F2, rfl, hlt, S2, fs2, h2⟩, fun x H2 y => ?_⟩
      obtain ⟨d, F2, hd, al, rp⟩ := hy x H2 y
      rw [List.drop_eq_getElem_cons hlt] at hw
      have e : d = ds[i] := by
        rw [List.getElem?_eq_getElem hlt] at hd
        exact (Option.some.inj hd).symm
      subst e
      have S2 := S'.grow (al.grow S'.sub)
      have fs2 : Same F1 F2 := fs'.trans (al.fs S'.sub)
      refine ⟨ρ', F2, [], _, ds[i], S2, rp, hw, fun ρ3 σ3 hk3 S3 _ => ⟨ρ3, F2, _, S3, hk3, fun ρ4 σ4 F4 H4 h4 S4 fs4 => ⟨ρ4, F4, S4, fs2.trans fs4, h4⟩, fun ρ4 σ4 F4 H4 h4 S4 fs4 => k1 ρ4 σ4 F4 H4 h4 S4 (fs1.trans (fs2.trans fs4)), fun ρ4 σ4 F4 H4 h4 S4 fs4 => ⟨ρ4, F4, S4, fs2.trans fs4, h4⟩, k4⟩⟩
    · have e : i = ds.length := by omega
      subst e
      rw [List.drop_length] at hw
      exact .inl ⟨wk.stop F' H' fs' S'.sub, k1 ρ' σ' F' H' hw S' (fs1.trans fs')⟩⟩⟩
end
end Q

set_option Elab.async false
set_option linter.all false
set_option maxRecDepth 100000
set_option maxHeartbeats 4000000
/-! list comprehensions over data -/
namespace Q
open PySem PySem.Spec PyProof.Rows L2
section
variable {c : Ctx} {F F' H H' : Hp} {O : List Addr} {σ : L2.St} {ρ : DS c.R} {p : Addr} {o : HO}
/-- an object being made is set apart -/
theorem St.protect (S : St c F O σ ρ H) (hp : H p = none) : St c F (p :: O) σ ρ (upd H p o) := by
  have hF : F p = none := by
    cases e : F p with
    | none => rfl
    | some u => rw [S.sub _ _ e] at hp; cases hp
  have h0 : c.H0 p = none := by
    cases e : c.H0 p with
    | none => rfl
    | some u => exact absurd hp (S.live p (by rw [e]; exact fun z => by cases z))
  have no : ∀ i, ¬ Owns σ ρ.sl i p := fun i h => by
    obtain ⟨d, _, ow⟩ := h.there (S.slots i)
    exact ow.there hp
  obtain ⟨Z, r, z1, z2, z3, z4⟩ := S.reg
  have hZ : ¬ Z p := fun z => c.R.al r p z hp
  refine ⟨S.len, fun b u e => ?_, S.old, S.new, fun b u e n => ?_, fun b n => ?_, fun i => ?_, fun i a h => ?_, S.inj, fun a h => ?_, Z, c.R.fr r fun a h => ?_, z1, z2, fun a h => ?_, z4⟩
  · rw [upd_ne (fun z => by rw [z, hF] at e; cases e)]; exact S.sub _ _ e
  · rw [upd_ne (fun z => by rw [z, h0] at e; cases e)]; exact S.keep b u e n
  · rw [upd_ne (fun z => by rw [z] at n; exact n h0)]; exact S.live b n
  · have h := S.slots i
    cases e : ρ.sl[i]? with
    | none => trivial
    | some x =>
      rw [e] at h
      cases x with
      | none => trivial
      | some x =>
        cases x with
        | fz d => exact h
        | own d =>
          obtain ⟨a, h1, h2⟩ := h
          exact ⟨a, h1, h2.same (Same.refl _) (upd_ne fun z => no i (by rw [← z]; exact ⟨h1, d, e⟩))⟩
  · obtain ⟨m1, m2, m3⟩ := S.mine i a h
    exact ⟨m1, m2, fun z => (List.mem_cons.mp z).elim (fun y => no i (by rw [← y]; exact h)) m3⟩
  · rcases List.mem_cons.mp h with y | y
    · subst y; exact ⟨hF, h0, by rw [upd_same]; exact fun z => by cases z⟩
    · obtain ⟨m1, m2, m3⟩ := S.out a y
      exact ⟨m1, m2, by rw [upd_ne (fun z => m3 (by rw [z]; exact hp))]; exact m3⟩
  · rw [upd_ne (fun z => hZ (by rw [← z]; exact h))]
  · rcases List.mem_cons.mp h with y | y
    · subst y; exact hZ
    · exact z3 a y
/-- .. and written -/
theorem St.writeO (S : St c F O σ ρ H) (hp : p ∈ O) : St c F O σ ρ (upd H p o) := by
  obtain ⟨hF, h0, _⟩ := S.out p hp
  have no : ∀ i, ¬ Owns σ ρ.sl i p := fun i h => (S.mine i p h).2.2 hp
  obtain ⟨Z, r, z1, z2, z3, z4⟩ := S.reg
  refine ⟨S.len, fun b u e => ?_, S.old, S.new, fun b u e n => ?_, fun b n => ?_, fun i => ?_, S.mine, S.inj, fun a h => ?_, Z, c.R.fr r fun a h => ?_, z1, z2, z3, z4⟩
  · rw [upd_ne (fun z => by rw [z, hF] at e; cases e)]; exact S.sub _ _ e
  · rw [upd_ne (fun z => by rw [z, h0] at e; cases e)]; exact S.keep b u e n
  · rw [upd_ne (fun z => by rw [z] at n; exact n h0)]; exact S.live b n
  · have h := S.slots i
    cases e : ρ.sl[i]? with
    | none => trivial
    | some x =>
      rw [e] at h
      cases x with
      | none => trivial
      | some x =>
        cases x with
        | fz d => exact h
        | own d =>
          obtain ⟨a, h1, h2⟩ := h
          exact ⟨a, h1, h2.same (Same.refl _) (upd_ne fun z => no i (by rw [← z]; exact ⟨h1, d, e⟩))⟩
  · obtain ⟨m1, m2, m3⟩ := S.out a h
    refine ⟨m1, m2, ?_⟩
    by_cases z : a = p
    · subst z; rw [upd_same]; exact fun y => by cases y
    · rw [upd_ne z]; exact m3
  · rw [upd_ne (fun z => z3 p hp (by rw [← z]; exact h))]
/-- .. and handed back -/
def gone (H : Hp) (p : Addr) : Hp := fun b => if b = p then none else H b
theorem gone_at {H : Hp} {p : Addr} : gone H p p = none := if_pos rfl
theorem gone_ne {H : Hp} {p b : Addr} (h : b ≠ p) : gone H p b = H b := if_neg h
theorem gone_upd {H : Hp} {p : Addr} {o : HO} (h : H p = some o) : upd (gone H p) p o = H := by
  funext b
  by_cases z : b = p
  · subst z; rw [upd_same, h]
  · rw [upd_ne z, gone_ne z]
theorem St.release (S : St c F (p :: O) σ ρ H) (np : p ∉ O) : St c F O σ ρ (gone H p) := by
  obtain ⟨hF, h0, _⟩ := S.out p (by simp)
  have no : ∀ i, ¬ Owns σ ρ.sl i p := fun i h => (S.mine i p h).2.2 (by simp)
  obtain ⟨Z, r, z1, z2, z3, z4⟩ := S.reg
  refine ⟨S.len, fun b u e => ?_, S.old, S.new, fun b u e n => ?_, fun b n => ?_, fun i => ?_, fun i a h => ?_, S.inj, fun a h => ?_, Z, c.R.fr r fun a h => ?_, z1, z2, fun a h => z3 a (by simp [h]), z4⟩
  · rw [gone_ne (fun z => by rw [z, hF] at e; cases e)]; exact S.sub _ _ e
  · rw [gone_ne (fun z => by rw [z, h0] at e; cases e)]; exact S.keep b u e n
  · rw [gone_ne (fun z => by rw [z] at n; exact n h0)]; exact S.live b n
  · have h := S.slots i
    cases e : ρ.sl[i]? with
    | none => trivial
    | some x =>
      rw [e] at h
      cases x with
      | none => trivial
      | some x =>
        cases x with
        | fz d => exact h
        | own d =>
          obtain ⟨a, h1, h2⟩ := h
          exact ⟨a, h1, h2.same (Same.refl _) (gone_ne fun z => no i (by rw [← z]; exact ⟨h1, d, e⟩))⟩
  · obtain ⟨m1, m2, m3⟩ := S.mine i a h
    exact ⟨m1, m2, fun z => m3 (by simp [z])⟩
  · obtain ⟨m1, m2, m3⟩ := S.out a (by simp [h])
    exact ⟨m1, m2, by rw [gone_ne (fun z => np (by rw [← z]; exact h))]; exact m3⟩
  · rw [gone_ne (fun z => z3 p (by simp) (by rw [← z]; exact h))]
/-- a slot forgotten -/
theorem St.forget (S : St c F O σ ρ H) (i : Nat) : St c F O (σ.set i none) (ρ.put i none) H := by
  have own : ∀ j a, Owns (σ.set i none) (ρ.put i none).sl j a → Owns σ ρ.sl j a := fun j a h => by
    obtain ⟨h1, x, h2⟩ := h
    have h2 : (ρ.sl.set i none)[j]? = some (some (.own x)) := h2
    rw [set_get] at h1 h2
    by_cases e : i = j
    · rw [if_pos e] at h2
      split at h2 <;> cases h2
    · rw [if_neg e] at h1 h2
      exact ⟨h1, x, h2⟩
  obtain ⟨Z, r, z1, z2, z3, z4⟩ := S.reg
  refine ⟨by show (σ.set i none).length = (ρ.sl.set i none).length; rw [List.length_set, List.length_set]; exact S.len, S.sub, S.old, S.new, S.keep, S.live, fun j => ?_, fun j a h => S.mine j a (own j a h), fun j k a h h' => S.inj j k a (own j a h) (own k a h'), S.out, Z, r, z1, z2, z3, fun j a h => z4 j a (own j a h)⟩
  show SlotOk c.K F H (σ.set i none) j (ρ.sl.set i none)[j]?
  rw [set_get]
  by_cases e : i = j
  · rw [if_pos e]
    split <;> trivial
  · rw [if_neg e]
    have h := S.slots j
    have e2 : (σ.set i none)[j]? = σ[j]? := by rw [set_get, if_neg e]
    cases q : ρ.sl[j]? with
    | none => trivial
    | some x =>
      rw [q] at h
      cases x with
      | none => trivial
      | some x =>
        cases x with
        | fz d => obtain ⟨v, h1, h2⟩ := h; exact ⟨v, by rw [e2]; exact h1, h2⟩
        | own d => obtain ⟨a, h1, h2⟩ := h; exact ⟨a, by rw [e2]; exact h1, h2⟩
def wipeL (sl : List (Option DV)) : List Nat → List (Option DV)
  | [] => sl
  | v :: vs => (wipeL sl vs).set v none
theorem St.wiped (S : St c F O σ ρ H) : ∀ vs : List Nat, St c F O (wipe σ vs) ⟨ρ.g, wipeL ρ.sl vs⟩ H
  | [] => S
  | v :: vs => (S.wiped vs).forget v
/-- the slots that a block has used are as they were -/
def backL (sl sl' : List (Option DV)) : List Nat → List (Option DV)
  | [] => sl'
  | v :: vs => (backL sl sl' vs).set v (sl.getD v none)
def NoOwn (sl : List (Option DV)) (vs : List Nat) : Prop := ∀ i ∈ vs, ∀ d, sl[i]? ≠ some (some (.own d))
theorem backL_length (sl sl' : List (Option DV)) : ∀ vs : List Nat, (backL sl sl' vs).length = sl'.length
  | [] => rfl
  | v :: vs => by rw [backL, List.length_set, backL_length]
theorem backL_out (sl sl' : List (Option DV)) {i : Nat} : ∀ {vs : List Nat}, i ∉ vs → (backL sl sl' vs)[i]? = sl'[i]?
  | [], _ => rfl
  | v :: vs, h => by
    rw [backL, set_get, if_neg (fun z => h (by simp [z]))]
    exact backL_out sl sl' fun z => h (by simp [z])
theorem backL_in (sl sl' : List (Option DV)) (hl : sl.length = sl'.length) {i : Nat} : ∀ {vs : List Nat}, i ∈ vs → (backL sl sl' vs)[i]? = sl[i]?
  | [], h => by cases h
  | v :: vs, h => by
    rw [backL, set_get]
    by_cases e : v = i
    · subst e
      rw [if_pos rfl, backL_length]
      by_cases z : v < sl'.length
      · rw [if_pos z, List.getD_eq_getElem?_getD]
        have : v < sl.length := by omega
        rw [List.getElem?_eq_getElem this]
        rfl
      · rw [if_neg z, List.getElem?_eq_none (by omega)]
    · rw [if_neg e]
      exact backL_in sl sl' hl ((List.mem_cons.mp h).resolve_left fun z => e z.symm)
theorem St.back {F1 H1 : Hp} {O1 : List Addr} {ρ1 : DS c.R} {vs : List Nat} (S1 : St c F1 O1 σ ρ1 H1) (no : NoOwn ρ1.sl vs) (S : St c F O (wipe σ vs) ρ H) (fs : Same F1 F) : St c F O σ ⟨ρ.g, backL ρ1.sl ρ.sl vs⟩ H := by
  have hl : ρ1.sl.length = ρ.sl.length := by rw [← S1.len, ← S.len, wipe_length]
  have own : ∀ i a, Owns σ (backL ρ1.sl ρ.sl vs) i a → Owns (wipe σ vs) ρ.sl i a := fun i a ⟨h1, d, h2⟩ => by
    by_cases m : i ∈ vs
    · rw [backL_in _ _ hl m] at h2
      exact absurd h2 (no i m d)
    · rw [backL_out _ _ m] at h2
      exact ⟨by rw [wipe_out m]; exact h1, d, h2⟩
  obtain ⟨Z, r, z1, z2, z3, z4⟩ := S.reg
  refine ⟨by show σ.length = (backL ρ1.sl ρ.sl vs).length; rw [backL_length, ← S.len, wipe_length], S.sub, S.old, S.new, S.keep, S.live, fun j => ?_, fun j a h => S.mine j a (own j a h), fun j k a h h' => S.inj j k a (own j a h) (own k a h'), S.out, Z, r, z1, z2, z3, fun j a h => z4 j a (own j a h)⟩
  show SlotOk c.K F H σ j (backL ρ1.sl ρ.sl vs)[j]?
  by_cases m : j ∈ vs
  · rw [backL_in _ _ hl m]
    have h := S1.slots j
    cases q : ρ1.sl[j]? with
    | none => trivial
    | some x =>
      rw [q] at h
      cases x with
      | none => trivial
      | some x =>
        cases x with
        | fz d => obtain ⟨v, h1, h2⟩ := h; exact ⟨v, h1, h2.same fs⟩
        | own d => exact absurd q (no j m d)
  · rw [backL_out _ _ m]
    have h := S.slots j
    have e2 := wipe_out (σ := σ) m
    cases q : ρ.sl[j]? with
    | none => trivial
    | some x =>
      rw [q] at h
      cases x with
      | none => trivial
      | some x =>
        cases x with
        | fz d => obtain ⟨v, h1, h2⟩ := h; exact ⟨v, by rw [← e2]; exact h1, h2⟩
        | own d => obtain ⟨a, h1, h2⟩ := h; exact ⟨a, by rw [← e2]; exact h1, h2⟩
theorem wipe_twice {σ : L2.St} {vs : List Nat} : ∀ {us : List Nat}, (∀ i ∈ us, i ∈ vs) → wipe (wipe σ us) vs = wipe σ vs
  | [], _ => rfl
  | u :: us, h => by
    show wipe ((wipe σ us).set u none) vs = wipe σ vs
    rw [wipe_out' (h u (by simp)), wipe_twice fun i m => h i (by simp [m])]
end
theorem itT {A B : Prop} (h : A) : if (true : Bool) = true then A else B := by rw [if_pos rfl]; exact h
theorem itF {A B : Prop} (h : B) : if (false : Bool) = true then A else B := by rw [if_neg (by decide)]; exact h
/-- a comprehension's tests -/
structure DTs (X : Cx) (c : Ctx) (ifs : List Expr) (w : WB c.R) : Prop where
  pts : PTs X ifs (liftT c false w)
theorem _root_.L2.PTs.imp {X : Cx} {es : List Expr} {t u : TT} (h : PTs X es t) (i : ∀ σ H Q, u σ H Q → t σ H Q) : PTs X es u := ⟨fun pins s σ H Q I q => h.run pins s σ H Q I (i σ H Q q)⟩
def wYes {R : Rgn} : WB R := fun ρ K => K true ρ
section
variable {X : Cx} {c : Ctx} {fr : Bool} {tg iter e elt : Expr} {ifs : List Expr} {pos p : Pos} {pa pb bb : Bool} {ts vs : List Nat} {g : WG c.R} {we : WE c.R} {wi : WI c.R} {wt : WB c.R}
theorem dts_nil : DTs X c [] wYes := ⟨pts_nil.imp fun σ H Q ⟨ρ, F, O, Kk, S, w, k⟩ => k true ρ F H w S (Same.refl _) (fun _ _ => rfl) (fun z => by cases z)⟩
theorem dts_one (h : DT X c pa e wt) : DTs X c [e] wt := ⟨(pts_one h.pt).imp fun σ H Q ⟨ρ, F, O, Kk, S, w, k⟩ => ⟨ρ, F, O, Kk, S, w, fun d ρ' F' H' hk S' fs ko g' => k d ρ' F' H' hk S' fs ko (fun z => by cases z)⟩⟩
def lcGo {R : Rgn} (g : WG R) (wt : WB R) (we : WE R) (vs : List Nat) (K : List D → DS R → Prop) : List D → List D → DS R → Prop
  | [], acc, ρ => K acc ρ
  | d :: ds, acc, ρ => g d ρ fun ρ2 => wt ρ2 fun b ρ3 => if b = true then we ρ3 fun y ρ4 => lcGo g wt we vs K ds (acc ++ [y]) ⟨ρ4.g, wipeL ρ4.sl vs⟩ else lcGo g wt we vs K ds acc ⟨ρ3.g, wipeL ρ3.sl vs⟩
def wLc {R : Rgn} (wi : WI R) (g : WG R) (wt : WB R) (we : WE R) (vs : List Nat) : WE R := fun ρ K => wi ρ fun ds ρ1 => ds.length ≤ 100000 ∧ NoOwn ρ1.sl vs ∧ lcGo g wt we vs (fun acc ρ2 => K (.lst acc) ⟨ρ2.g, backL ρ1.sl ρ2.sl vs⟩) ds [] ⟨ρ1.g, wipeL ρ1.sl vs⟩
theorem lc_ok {σ : L2.St} {H : Hp} {Q : VK} (h : liftF c false (wLc wi g wt we vs) σ H Q) (hv : ∀ i ∈ ts, i ∈ vs) : tLc (liftI c wi) (liftG c ts g) (liftT c false wt) (liftE c pb false we) vs σ H Q := by
  obtain ⟨ρ, F, O, Kk, S, w, k⟩ := h
  refine ⟨ρ, F, O, _, S, w, fun ds ρ1 F1 H1 J ⟨hz, no, hk⟩ S1 fs1 ko1 wk L hD => ?_⟩
  have nDO : L ∉ O := fun m => (S1.out L m).2.2 hD
  refine ⟨fun i m H' => ∃ (F' : Hp) (ρ' : DS c.R) (acc : List V) (accD : List D), m = ds.length - i ∧ i ≤ ds.length ∧ St c F' (L :: O) (wipe σ vs) ρ' H' ∧ Same F1 F' ∧ (∀ a ∈ O, H' a = H1 a) ∧ H' L = some (.lst acc) ∧ Reps c.K F' acc accD ∧ acc.length ≤ i ∧
    lcGo g wt we vs (fun acc ρ2 => Kk (.lst acc) ⟨ρ2.g, backL ρ1.sl ρ2.sl vs⟩) (ds.drop i) accD ρ', ⟨ds.length, F1, ⟨ρ1.g, wipeL ρ1.sl vs⟩, [], [], rfl, Nat.zero_le _, (S1.wiped vs).protect hD, Same.refl _, fun a m => upd_ne fun z => nDO (by rw [← z]; exact m), upd_same, .nil, Nat.le_refl _, hk⟩, ?_⟩
  rintro i m H' ⟨F', ρ', acc, accD, rfl, hi, S', fs', ko', hacc, rac, hla, hw⟩
  by_cases hlt : i < ds.length
  · obtain ⟨hgo, hy⟩ := wk.go F' H' i fs' S'.sub hlt
    refine .inr ⟨hgo, fun H2 => ∃ (F2 : Hp) (ρ2 : DS c.R) (acc2 : List V) (accD2 : List D), St c F2 (L :: O) (wipe σ vs) ρ2 H2 ∧ Same F1 F2 ∧ (∀ a ∈ O, H2 a = H1 a) ∧ H2 L = some (.lst acc2) ∧ Reps c.K F2 acc2 accD2 ∧ acc2.length ≤ i + 1 ∧
      lcGo g wt we vs (fun acc ρ2 => Kk (.lst acc) ⟨ρ2.g, backL ρ1.sl ρ2.sl vs⟩) (ds.drop (i + 1)) accD2 ρ2, fun H2 ⟨F2, ρ2, acc2, accD2, q1, q2, q3, q4, q5, q6, q7⟩ => ⟨ds.length - (i + 1), by omega, F2, ρ2, acc2, accD2, rfl, hlt, q1, q2, q3, q4, q5, q6, q7⟩, fun x H2 y => ?_⟩
    obtain ⟨d, F2, hd, al, rp⟩ := hy x H2 y
    rw [List.drop_eq_getElem_cons hlt] at hw
    have e : d = ds[i] := by
      rw [List.getElem?_eq_getElem hlt] at hd
      exact (Option.some.inj hd).symm
    subst e
    have S2 := S'.grow (al.grow S'.sub)
    have fs2 : Same F1 F2 := fs'.trans (al.fs S'.sub)
    have k2 : ∀ a ∈ L :: O, H2 a = H' a := ko_al S' al
    refine ⟨ρ', F2, L :: O, _, ds[i], S2, rp, hw, fun ρ3 σ3 hk3 S3 w3 => ⟨?_, ρ3, F2, L :: O, _, S3, hk3, fun b ρ4 F4 H4 hk4 S4 fs4 ko4 _ => ?_⟩⟩
    · rw [w3 vs hv, wipe_twice fun _ m => m]
    have w3' : wipe σ3 vs = wipe σ vs := by rw [w3 vs hv, wipe_twice fun _ m => m]
    have a4 : H4 L = some (.lst acc) := by rw [ko4 L (by simp), k2 L (by simp), hacc]
    have o4 : ∀ a ∈ O, H4 a = H1 a := fun a m => by rw [ko4 a (by simp [m]), k2 a (by simp [m]), ko' a m]
    have r4 := (rac.same (al.fs S'.sub)).same fs4
    cases b with
    | false =>
      rw [if_neg (by decide)] at hk4
      refine itF ?_
      exact ⟨F4, _, acc, accD, by rw [← w3']; exact S4.wiped vs, fs2.trans fs4, o4, a4, r4, Nat.le_succ_of_le hla, hk4⟩
    | true =>
      rw [if_pos rfl] at hk4
      refine itT ?_
      refine ⟨ρ4, F4, L :: O, _, S4, hk4, fun z ρ5 v F5 H5 hk5 S5 fs5 ko5 _ r5 => ?_⟩
      have r5 : Rep c.K F5 v z := r5
      refine ⟨acc, by rw [ko5 L (by simp), a4], by have := big_line; omega, F5, _, acc ++ [v], accD ++ [z], ?_, fs2.trans (fs4.trans fs5), fun a m => ?_, upd_same, (r4.same fs5).snoc r5, by simp; omega, hk5⟩
      · rw [← w3']; exact (S5.writeO (by simp)).wiped vs
      · rw [upd_ne (fun z => nDO (by rw [← z]; exact m)), ko5 a (by simp [m]), o4 a m]
  · have e : i = ds.length := by omega
    subst e
    rw [List.drop_length] at hw
    refine .inl ⟨wk.stop F' H' fs' S'.sub, ?_⟩
    have S3 := S1.back no (S'.release nDO) fs'
    have := k (.lst accD) ⟨ρ'.g, backL ρ1.sl ρ'.sl vs⟩ L (.lst acc) F' (gone H' L) hw S3 (fs1.trans fs') (fun a m => by rw [gone_ne (fun z => nDO (by rw [← z]; exact m)), ko' a m, ko1 a m]) (fun z => by cases z) gone_at rac
    rw [gone_upd hacc] at this
    exact this
theorem fe_lc {scope : Scope} {own : List (Str × Nat)} (hN : X.N.Nodup) (hi : DI X c tg iter wi) (ok : BlkOk X.N X.env.scope scope own)
    (hg : ∀ (s : Shared) (H : Hp) (C : Addr) (cl : List (Str × Addr)) (fp : List Addr), DG (X.blk s H scope (compEnvC scope cl C X.env) fp) c tg ts g) (ht : ∀ (s : Shared) (H : Hp) (C : Addr) (cl : List (Str × Addr)) (fp : List Addr), DTs (X.blk s H scope (compEnvC scope cl C X.env) fp) c ifs wt)
    (he : ∀ (s : Shared) (H : Hp) (C : Addr) (cl : List (Str × Addr)) (fp : List Addr), DE (X.blk s H scope (compEnvC scope cl C X.env) fp) c pb false elt we) (hv : ∀ i ∈ ts, i ∈ own.map (·.2) := by decide) (hk : X.K = c.K := by rfl) (hc : X.calm = true := by rfl)
    (hs : ∀ x, foldedSetIterable iter X.env x = pure x := by intro _; rfl) : FE X c false (.ListComp elt [⟨tg, iter, ifs, 0⟩] scope pos) (wLc wi g wt we (own.map (·.2))) :=
  ⟨(pe_lc hc hN hi.pi ok (fun s H C cl fp => (hg s H C cl fp).pg) (fun s H C cl fp => (ht s H C cl fp).pts) (fun s H C cl fp => (he s H C cl fp).pe) hs).imp fun σ H Q h => lc_ok h hv, hk⟩
/-- x = [..], x a plain local -/
theorem ps_lc {scope : Scope} {own : List (Str × Nat)} {spos py : Pos} {i : Nat} {y : Str} (hN : X.N.Nodup) (hi : DI X c tg iter wi) (ok : BlkOk X.N X.env.scope scope own)
    (hg : ∀ (s : Shared) (H : Hp) (C : Addr) (cl : List (Str × Addr)) (fp : List Addr), DG (X.blk s H scope (compEnvC scope cl C X.env) fp) c tg ts g) (ht : ∀ (s : Shared) (H : Hp) (C : Addr) (cl : List (Str × Addr)) (fp : List Addr), DTs (X.blk s H scope (compEnvC scope cl C X.env) fp) c ifs wt)
    (he : ∀ (s : Shared) (H : Hp) (C : Addr) (cl : List (Str × Addr)) (fp : List Addr), DE (X.blk s H scope (compEnvC scope cl C X.env) fp) c pb false elt we) (hsw : swapsWith (.ListComp elt [⟨tg, iter, ifs, 0⟩] scope pos) (some (.Name y py)) spos.line X.env = pure true)
    (hy : X.N[i]? = some y := by rfl) (hyl : X.env.scope.names.lookup y = some .local := by rfl) (hv : ∀ i ∈ ts, i ∈ own.map (·.2) := by decide) (hk : X.K = c.K := by rfl) (hc : X.calm = true := by rfl)
    (hs : ∀ x, foldedSetIterable iter X.env x = pure x := by intro _; rfl) : PS X (.Assign [.Name y py] (.ListComp elt [⟨tg, iter, ifs, 0⟩] scope pos) spos) (tAsg (liftF c false (wLc wi g wt we (own.map (·.2)))) (gName i)) :=
  (ps_setLc hc hN hy hyl hsw hi.pi ok (fun s H C cl fp => (hg s H C cl fp).pg) (fun s H C cl fp => (ht s H C cl fp).pts) (fun s H C cl fp => (he s H C cl fp).pe) hs).imp fun E σ H h => lc_ok h hv
theorem ds_newP {st : Stmt} {i : Nat} (h : PS X st (tAsg (liftF c false we) (gName i))) : DS1 X c fr st (sNew i we) :=
  ⟨h.imp fun E σ H ⟨ρ, F, Dk, S, w, k1, k2, k3, k4⟩ => ⟨ρ, F, [], _, S, w, fun d ρ1 q o F1 H1 hk S1 fs1 ko1 g1 hq ob => k1 _ _ F1 _ hk (S1.setO hq ob i) fs1⟩⟩
theorem ds_setP {st : Stmt} {i : Nat} (h : PS X st (tAsg (liftF c false we) (gName i))) : DS1 X c fr st (sSet i we) :=
  ⟨h.imp fun E σ H ⟨ρ, F, Dk, S, w, k1, k2, k3, k4⟩ => ⟨ρ, F, [], _, S, w, fun d ρ1 q o F1 H1 hk S1 fs1 ko1 g1 hq ob => by
    have al : Al F1 H1 (upd F1 q o) (upd H1 q o) := Al.one hq
    have gr := al.grow S1.sub
    refine k1 _ _ (upd F1 q o) _ hk ((S1.grow gr).setF ?_ i) (fs1.trans gr.fs)
    cases o <;> cases d <;> simp only [ObjD] at ob
    · exact .lst upd_same (ob.same gr.fs)
    · exact .dK upd_same ob.1 (ob.2.same gr.fs)
    · exact .dT upd_same ob.1 (ob.2.same gr.fs)⟩⟩
end
end Q

set_option Elab.async false
set_option linter.all false
set_option maxRecDepth 100000
set_option maxHeartbeats 4000000
/-! answers without a change; promises as functions -/
namespace Q
open PySem PySem.Spec PyProof.Rows L2
/-- what answers y and changes nothing -/
def Ev {R : Rgn} (we : WE R) (ρ : DS R) (y : D) : Prop := ∀ K, K y ρ → we ρ K
def EvB {R : Rgn} (wt : WB R) (ρ : DS R) (b : Bool) : Prop := ∀ K, K b ρ → wt ρ K
def EvI {R : Rgn} (wi : WI R) (ρ : DS R) (ds : List D) : Prop := ∀ K, K ds ρ → wi ρ K
/-- a def's promise: on data that fit, this answer -/
def wF (ok : List D → Prop) (g : List D → D) : WM := fun ds Kk => ok ds ∧ Kk (g ds)
def tame : D → Prop
  | .str z => z.length ≤ 100000
  | .ins _ _ _ => False
  | .raw _ => False
  | _ => True
section
variable {R : Rgn} {ρ : DS R} {g : WG R} {wt : WB R} {we : WE R} {wi : WI R} {i : Nat}
theorem put_put {x y : Option DV} : (ρ.put i x).put i y = ρ.put i y := by
  show (⟨ρ.g, (ρ.sl.set i x).set i y⟩ : DS R) = ⟨ρ.g, ρ.sl.set i y⟩
  rw [List.set_set]
theorem put_back {x : Option DV} (h : ρ.sl[i]? = some x) : ρ.put i x = ρ := by
  show (⟨ρ.g, ρ.sl.set i x⟩ : DS R) = ρ
  have : ρ.sl.set i x = ρ.sl := by
    apply List.ext_getElem?
    intro j
    rw [set_get]
    by_cases e : i = j
    · subst e
      rw [if_pos rfl, h]
      have : i < ρ.sl.length := (List.getElem?_eq_some_iff.mp h).1
      rw [if_pos this]
    · rw [if_neg e]
  rw [this]
theorem lcGo_ev {α : Type} {h : α → D} {K : List D → DS R → Prop} {p : α → Bool} {f : α → D} : ∀ (xs : List α) (acc : List D), (∀ d ∈ xs, EvB wt (ρ.put i (some (.fz (h d)))) (p d)) → (∀ d ∈ xs, p d = true → Ev we (ρ.put i (some (.fz (h d)))) (f d)) →
    K (acc ++ (xs.filter p).map f) (ρ.put i none) → lcGo (gNm i) wt we [i] K (xs.map h) acc (ρ.put i none)
  | [], acc, _, _, k => by
    rw [List.filter_nil, List.map_nil, List.append_nil] at k
    exact k
  | d :: xs, acc, h1, h2, k => by
    rw [List.map_cons]
    unfold lcGo
    show wt ((ρ.put i none).put i (some (.fz (h d)))) _
    rw [put_put]
    refine h1 d (by simp) _ ?_
    have e : (⟨(ρ.put i (some (DV.fz (h d)))).g, wipeL (ρ.put i (some (DV.fz (h d)))).sl [i]⟩ : DS R) = ρ.put i none := put_put
    cases hp : p d with
    | false =>
      refine itF ?_
      rw [e]
      refine lcGo_ev xs acc (fun x m => h1 x (by simp [m])) (fun x m => h2 x (by simp [m])) ?_
      rw [List.filter_cons_of_neg (by rw [hp]; decide)] at k
      exact k
    | true =>
      refine itT (h2 d (by simp) hp _ ?_)
      rw [e]
      refine lcGo_ev xs _ (fun x m => h1 x (by simp [m])) (fun x m => h2 x (by simp [m])) ?_
      rw [List.filter_cons_of_pos hp, List.map_cons] at k
      rw [List.append_assoc]
      exact k
theorem wLc_fm {α : Type} {h : α → D} {xs : List α} {p : α → Bool} {f : α → D} {x : Option DV} (hi : EvI wi ρ (xs.map h)) (hz : xs.length ≤ 100000) (hx : ρ.sl[i]? = some x) (no : ∀ d, x ≠ some (.own d)) (ht : ∀ d ∈ xs, EvB wt (ρ.put i (some (.fz (h d)))) (p d))
    (he : ∀ d ∈ xs, p d = true → Ev we (ρ.put i (some (.fz (h d)))) (f d)) : Ev (wLc wi (gNm i) wt we [i]) ρ (.lst ((xs.filter p).map f)) := by
  intro K k
  refine hi _ ⟨by rw [List.length_map]; exact hz, fun j m d q => ?_, ?_⟩
  · have e : j = i := by simpa using m
    subst e
    rw [hx] at q
    exact no d (Option.some.inj q)
  · refine lcGo_ev xs [] ht he ?_
    rw [List.nil_append]
    have : (⟨(ρ.put i none).g, backL ρ.sl (ρ.put i none).sl [i]⟩ : DS R) = ρ := by
      show (⟨ρ.g, (ρ.sl.set i none).set i (ρ.sl.getD i none)⟩ : DS R) = ρ
      rw [List.set_set, List.getD_eq_getElem?_getD, hx]
      exact put_back hx
    rw [this]
    exact k
theorem wLc_m {α : Type} {h : α → D} {xs : List α} {f : α → D} {x : Option DV} (hi : EvI wi ρ (xs.map h)) (hz : xs.length ≤ 100000) (hx : ρ.sl[i]? = some x) (no : ∀ d, x ≠ some (.own d)) (he : ∀ d ∈ xs, Ev we (ρ.put i (some (.fz (h d)))) (f d)) :
    Ev (wLc wi (gNm i) wYes we [i]) ρ (.lst (xs.map f)) := by
  have q := wLc_fm (p := fun _ => true) (wt := wYes) hi hz hx no (fun d _ K k => k) fun d m _ => he d m
  rw [List.filter_eq_self.mpr fun _ _ => rfl] at q
  exact q
theorem wLc_map {ds : List D} {f : D → D} {x : Option DV} (hi : EvI wi ρ ds) (hz : ds.length ≤ 100000) (hx : ρ.sl[i]? = some x) (no : ∀ d, x ≠ some (.own d)) (he : ∀ d ∈ ds, Ev we (ρ.put i (some (.fz d))) (f d)) :
    Ev (wLc wi (gNm i) wYes we [i]) ρ (.lst (ds.map f)) := wLc_m (h := id) (by rw [List.map_id]; exact hi) hz hx no he
theorem wLc_filter {ds : List D} {f : D → D} {p : D → Bool} {x : Option DV} (hi : EvI wi ρ ds) (hz : ds.length ≤ 100000) (hx : ρ.sl[i]? = some x) (no : ∀ d, x ≠ some (.own d)) (ht : ∀ d ∈ ds, EvB wt (ρ.put i (some (.fz d))) (p d))
    (he : ∀ d ∈ ds, p d = true → Ev we (ρ.put i (some (.fz d))) (f d)) : Ev (wLc wi (gNm i) wt we [i]) ρ (.lst ((ds.filter p).map f)) := wLc_fm (h := id) (by rw [List.map_id]; exact hi) hz hx no ht he
end
theorem eqv_str (a b : Str) : PyData.eqv (.str a) (.str b) = decide (a = b) := by simp only [PyData.eqv]; first | rfl | (cases h : decide (a = b) <;> simp_all)
theorem bls_map {α : Type} (p : α → Bool) : ∀ xs : List α, blsD (xs.map fun x => .bl (p x)) = some (xs.map p)
  | [] => rfl
  | x :: xs => by rw [List.map_cons, blsD, bls_map p xs]; rfl
theorem all_map {α : Type} (p : α → Bool) (xs : List α) : allD (.lst (xs.map fun x => .bl (p x))) = some (.bl (xs.all p)) := by
  rw [allD, bls_map]
  simp [Option.map, Function.comp_def]
theorem any_map {α : Type} (p : α → Bool) (xs : List α) : anyD (.lst (xs.map fun x => .bl (p x))) = some (.bl (xs.any p)) := by
  rw [anyD, bls_map]
  simp [Option.map, Function.comp_def]
theorem seq_of {R : Rgn} {we : WE R} {ρ : DS R} {d : D} {ds : List D} (h : Ev we ρ d) (e : seqD d = some ds) : EvI (wSq we) ρ ds := fun K k => h _ ⟨ds, e, k⟩
end Q

set_option Elab.async false
set_option linter.all false
set_option maxRecDepth 100000
set_option maxHeartbeats 4000000
/-! what the operators answer, kind by kind -/
namespace Q
open PySem PySem.Spec PyProof.Rows L2
@[simp] theorem tr_non  : truD .non = some false := rfl
@[simp] theorem kd_non  : kD2 .non = some .non := rfl
@[simp] theorem nn_non  : isNonD .non = some true := rfl
@[simp] theorem da_non  : isDat .non = true := by simp only [isDat]
@[simp] theorem dp_non  : dep .non = 0 := by simp only [dep]
@[simp] theorem tr_bl (b : Bool) : truD (.bl b) = some b := rfl
@[simp] theorem kd_bl (b : Bool) : kD2 (.bl b) = some .bool := rfl
@[simp] theorem nn_bl (b : Bool) : isNonD (.bl b) = some false := rfl
@[simp] theorem da_bl (b : Bool) : isDat (.bl b) = true := by simp only [isDat]
@[simp] theorem dp_bl (b : Bool) : dep (.bl b) = 0 := by simp only [dep]
@[simp] theorem tr_int (i : Int) : truD (.int i) = some (i != 0) := rfl
@[simp] theorem kd_int (i : Int) : kD2 (.int i) = some .int := rfl
@[simp] theorem nn_int (i : Int) : isNonD (.int i) = some false := rfl
@[simp] theorem da_int (i : Int) : isDat (.int i) = true := by simp only [isDat]
@[simp] theorem dp_int (i : Int) : dep (.int i) = 0 := by simp only [dep]
@[simp] theorem tr_str (s : Str) : truD (.str s) = if s.length ≤ sizeLine then some ((s.length : Int) != 0) else none := rfl
@[simp] theorem kd_str (s : Str) : kD2 (.str s) = some .str := rfl
@[simp] theorem nn_str (s : Str) : isNonD (.str s) = some false := rfl
@[simp] theorem da_str (s : Str) : isDat (.str s) = true := by simp only [isDat]
@[simp] theorem dp_str (s : Str) : dep (.str s) = 0 := by simp only [dep]
@[simp] theorem tr_lst (xs : List D) : truD (.lst xs) = some (!xs.isEmpty) := rfl
@[simp] theorem kd_lst (xs : List D) : kD2 (.lst xs) = some .list := rfl
@[simp] theorem nn_lst (xs : List D) : isNonD (.lst xs) = some false := rfl
@[simp] theorem da_lst (xs : List D) : isDat (.lst xs) = isDats xs := by simp only [isDat]
@[simp] theorem dp_lst (xs : List D) : dep (.lst xs) = deps xs + 1 := by simp only [dep]
@[simp] theorem tr_tup (ts : List D) : truD (.tup ts) = some (!ts.isEmpty) := rfl
@[simp] theorem kd_tup (ts : List D) : kD2 (.tup ts) = some .tuple := rfl
@[simp] theorem nn_tup (ts : List D) : isNonD (.tup ts) = some false := rfl
@[simp] theorem da_tup (ts : List D) : isDat (.tup ts) = isDats ts := by simp only [isDat]
@[simp] theorem dp_tup (ts : List D) : dep (.tup ts) = deps ts + 1 := by simp only [dep]
@[simp] theorem kd_dct (ks vs : List D) : kD2 (.dct ks vs) = some .dict := rfl
@[simp] theorem kd_dtt (ks vs : List D) : kD2 (.dtt ks vs) = some .dict := rfl
@[simp] theorem nn_dct (ks vs : List D) : isNonD (.dct ks vs) = some false := rfl
@[simp] theorem nn_dtt (ks vs : List D) : isNonD (.dtt ks vs) = some false := rfl
@[simp] theorem eq_non_non   : deq .non .non = true := by simp [deq]
@[simp] theorem eq_non_bl  (b' : Bool) : deq .non (.bl b') = false := by simp [deq]
@[simp] theorem eq_non_int  (i' : Int) : deq .non (.int i') = false := by simp [deq]
@[simp] theorem eq_non_str  (s' : Str) : deq .non (.str s') = false := by simp [deq]
@[simp] theorem eq_non_lst  (xs' : List D) : deq .non (.lst xs') = false := by simp [deq]
@[simp] theorem eq_non_tup  (ts' : List D) : deq .non (.tup ts') = false := by simp [deq]
@[simp] theorem eq_bl_non (b : Bool)  : deq (.bl b) .non = false := by simp [deq]
@[simp] theorem eq_bl_bl (b : Bool) (b' : Bool) : deq (.bl b) (.bl b') = (b == b') := by simp [deq]
@[simp] theorem eq_bl_int (b : Bool) (i' : Int) : deq (.bl b) (.int i') = ((if b then 1 else 0) == i') := by simp [deq]
@[simp] theorem eq_bl_str (b : Bool) (s' : Str) : deq (.bl b) (.str s') = false := by simp [deq]
@[simp] theorem eq_bl_lst (b : Bool) (xs' : List D) : deq (.bl b) (.lst xs') = false := by simp [deq]
@[simp] theorem eq_bl_tup (b : Bool) (ts' : List D) : deq (.bl b) (.tup ts') = false := by simp [deq]
@[simp] theorem eq_int_non (i : Int)  : deq (.int i) .non = false := by simp [deq]
@[simp] theorem eq_int_bl (i : Int) (b' : Bool) : deq (.int i) (.bl b') = (i == (if b' then 1 else 0)) := by simp [deq]
@[simp] theorem eq_int_int (i : Int) (i' : Int) : deq (.int i) (.int i') = (i == i') := by simp [deq]
@[simp] theorem eq_int_str (i : Int) (s' : Str) : deq (.int i) (.str s') = false := by simp [deq]
@[simp] theorem eq_int_lst (i : Int) (xs' : List D) : deq (.int i) (.lst xs') = false := by simp [deq]
@[simp] theorem eq_int_tup (i : Int) (ts' : List D) : deq (.int i) (.tup ts') = false := by simp [deq]
@[simp] theorem eq_str_non (s : Str)  : deq (.str s) .non = false := by simp [deq]
@[simp] theorem eq_str_bl (s : Str) (b' : Bool) : deq (.str s) (.bl b') = false := by simp [deq]
@[simp] theorem eq_str_int (s : Str) (i' : Int) : deq (.str s) (.int i') = false := by simp [deq]
@[simp] theorem eq_str_str (s : Str) (s' : Str) : deq (.str s) (.str s') = (s == s') := by simp [deq]
@[simp] theorem eq_str_lst (s : Str) (xs' : List D) : deq (.str s) (.lst xs') = false := by simp [deq]
@[simp] theorem eq_str_tup (s : Str) (ts' : List D) : deq (.str s) (.tup ts') = false := by simp [deq]
@[simp] theorem eq_lst_non (xs : List D)  : deq (.lst xs) .non = false := by simp [deq]
@[simp] theorem eq_lst_bl (xs : List D) (b' : Bool) : deq (.lst xs) (.bl b') = false := by simp [deq]
@[simp] theorem eq_lst_int (xs : List D) (i' : Int) : deq (.lst xs) (.int i') = false := by simp [deq]
@[simp] theorem eq_lst_str (xs : List D) (s' : Str) : deq (.lst xs) (.str s') = false := by simp [deq]
@[simp] theorem eq_lst_lst (xs : List D) (xs' : List D) : deq (.lst xs) (.lst xs') = deqs xs xs' := by simp [deq]
@[simp] theorem eq_lst_tup (xs : List D) (ts' : List D) : deq (.lst xs) (.tup ts') = false := by simp [deq]
@[simp] theorem eq_tup_non (ts : List D)  : deq (.tup ts) .non = false := by simp [deq]
@[simp] theorem eq_tup_bl (ts : List D) (b' : Bool) : deq (.tup ts) (.bl b') = false := by simp [deq]
@[simp] theorem eq_tup_int (ts : List D) (i' : Int) : deq (.tup ts) (.int i') = false := by simp [deq]
@[simp] theorem eq_tup_str (ts : List D) (s' : Str) : deq (.tup ts) (.str s') = false := by simp [deq]
@[simp] theorem eq_tup_lst (ts : List D) (xs' : List D) : deq (.tup ts) (.lst xs') = false := by simp [deq]
@[simp] theorem eq_tup_tup (ts : List D) (ts' : List D) : deq (.tup ts) (.tup ts') = deqs ts ts' := by simp [deq]
@[simp] theorem it_non_non : isTy .non .non = true := rfl
@[simp] theorem it_non_bool : isTy .non .bool = false := rfl
@[simp] theorem it_non_int : isTy .non .int = false := rfl
@[simp] theorem it_non_str : isTy .non .str = false := rfl
@[simp] theorem it_non_list : isTy .non .list = false := rfl
@[simp] theorem it_non_tuple : isTy .non .tuple = false := rfl
@[simp] theorem it_non_dict : isTy .non .dict = false := rfl
@[simp] theorem it_bool_non : isTy .bool .non = false := rfl
@[simp] theorem it_bool_bool : isTy .bool .bool = true := rfl
@[simp] theorem it_bool_int : isTy .bool .int = true := rfl
@[simp] theorem it_bool_str : isTy .bool .str = false := rfl
@[simp] theorem it_bool_list : isTy .bool .list = false := rfl
@[simp] theorem it_bool_tuple : isTy .bool .tuple = false := rfl
@[simp] theorem it_bool_dict : isTy .bool .dict = false := rfl
@[simp] theorem it_int_non : isTy .int .non = false := rfl
@[simp] theorem it_int_bool : isTy .int .bool = false := rfl
@[simp] theorem it_int_int : isTy .int .int = true := rfl
@[simp] theorem it_int_str : isTy .int .str = false := rfl
@[simp] theorem it_int_list : isTy .int .list = false := rfl
@[simp] theorem it_int_tuple : isTy .int .tuple = false := rfl
@[simp] theorem it_int_dict : isTy .int .dict = false := rfl
@[simp] theorem it_str_non : isTy .str .non = false := rfl
@[simp] theorem it_str_bool : isTy .str .bool = false := rfl
@[simp] theorem it_str_int : isTy .str .int = false := rfl
@[simp] theorem it_str_str : isTy .str .str = true := rfl
@[simp] theorem it_str_list : isTy .str .list = false := rfl
@[simp] theorem it_str_tuple : isTy .str .tuple = false := rfl
@[simp] theorem it_str_dict : isTy .str .dict = false := rfl
@[simp] theorem it_list_non : isTy .list .non = false := rfl
@[simp] theorem it_list_bool : isTy .list .bool = false := rfl
@[simp] theorem it_list_int : isTy .list .int = false := rfl
@[simp] theorem it_list_str : isTy .list .str = false := rfl
@[simp] theorem it_list_list : isTy .list .list = true := rfl
@[simp] theorem it_list_tuple : isTy .list .tuple = false := rfl
@[simp] theorem it_list_dict : isTy .list .dict = false := rfl
@[simp] theorem it_tuple_non : isTy .tuple .non = false := rfl
@[simp] theorem it_tuple_bool : isTy .tuple .bool = false := rfl
@[simp] theorem it_tuple_int : isTy .tuple .int = false := rfl
@[simp] theorem it_tuple_str : isTy .tuple .str = false := rfl
@[simp] theorem it_tuple_list : isTy .tuple .list = false := rfl
@[simp] theorem it_tuple_tuple : isTy .tuple .tuple = true := rfl
@[simp] theorem it_tuple_dict : isTy .tuple .dict = false := rfl
@[simp] theorem it_dict_non : isTy .dict .non = false := rfl
@[simp] theorem it_dict_bool : isTy .dict .bool = false := rfl
@[simp] theorem it_dict_int : isTy .dict .int = false := rfl
@[simp] theorem it_dict_str : isTy .dict .str = false := rfl
@[simp] theorem it_dict_list : isTy .dict .list = false := rfl
@[simp] theorem it_dict_tuple : isTy .dict .tuple = false := rfl
@[simp] theorem it_dict_dict : isTy .dict .dict = true := rfl
@[simp] theorem ds_0 : isDats [] = true := by simp only [isDats]
@[simp] theorem ds_1 (x : D) (xs : List D) : isDats (x :: xs) = (isDat x && isDats xs) := by simp only [isDats]
@[simp] theorem dps_0 : deps [] = 0 := by simp only [deps]
@[simp] theorem dps_1 (x : D) (xs : List D) : deps (x :: xs) = max (dep x) (deps xs) := by simp only [deps]
@[simp] theorem eqs_0 : deqs [] [] = true := by simp [deqs]
@[simp] theorem eqs_1 (x y : D) (xs ys : List D) : deqs (x :: xs) (y :: ys) = (deq x y && deqs xs ys) := by simp [deqs]
@[simp] theorem eqs_2 (x : D) (xs : List D) : deqs (x :: xs) [] = false := by simp [deqs]
@[simp] theorem eqs_3 (x : D) (xs : List D) : deqs [] (x :: xs) = false := by simp [deqs]
@[simp] theorem ad_int (a b : Int) : addD (.int a) (.int b) = some (.int (a + b)) := rfl
@[simp] theorem ad_str (a b : Str) : addD (.str a) (.str b) = if a.length + b.length ≤ 100000 then some (.str (a ++ b)) else none := rfl
@[simp] theorem ad_lst (a b : List D) : addD (.lst a) (.lst b) = if a.length + b.length ≤ 100000 then some (.lst (a ++ b)) else none := rfl
@[simp] theorem ad_tup (a b : List D) : addD (.tup a) (.tup b) = if a.length + b.length ≤ 100000 then some (.tup (a ++ b)) else none := rfl
@[simp] theorem sb_int (a b : Int) : subD (.int a) (.int b) = some (.int (a - b)) := rfl
@[simp] theorem cm_int (p : Int → Int → Bool) (a b : Int) : cmpD p (.int a) (.int b) = some (.bl (p a b)) := rfl
@[simp] theorem in_lst (n : Bool) (x : D) (ds : List D) : inD n x (.lst ds) = inSq n x ds := rfl
@[simp] theorem in_tup (n : Bool) (x : D) (ds : List D) : inD n x (.tup ds) = inSq n x ds := rfl
@[simp] theorem in_str (n : Bool) (x : D) (z : Str) : inD n x (.str z) = inTx n x z := rfl
@[simp] theorem in_sgn (n : Bool) (c : Nat) (z : Str) : inTx n (.str ⟨#[c]⟩) z = some (.bl (xr n (decide (c ∈ z.cps.toList)))) := rfl
@[simp] theorem ix_lst (ds : List D) (i : Int) : ixD (.lst ds) (.int i) = (ixN ds.length i).bind fun j => ds[j]? := rfl
@[simp] theorem ix_tup (ds : List D) (i : Int) : ixD (.tup ds) (.int i) = (ixN ds.length i).bind fun j => ds[j]? := rfl
@[simp] theorem ix_str (z : Str) (i : Int) : ixD (.str z) (.int i) = if z.length ≤ 100000 then (ixN z.cps.toList.length i).bind fun j => (signs z)[j]? else none := rfl
@[simp] theorem sl_lst (a b : Option Int) (ds : List D) : slD a b (.lst ds) = some (.lst (cutD ds a b)) := rfl
@[simp] theorem sl_tup (a b : Option Int) (ds : List D) : slD a b (.tup ds) = some (.tup (cutD ds a b)) := rfl
@[simp] theorem sl_txt (a b : Option Int) (z : Str) : slD a b (.str z) = if z.length ≤ 100000 then some (.str (cutS z a b)) else none := rfl
@[simp] theorem ln_lst (ds : List D) : lenD (.lst ds) = some (.int ds.length) := rfl
@[simp] theorem ln_tup (ds : List D) : lenD (.tup ds) = some (.int ds.length) := rfl
@[simp] theorem ln_str (z : Str) : lenD (.str z) = if z.length ≤ 100000 then some (.int z.length) else none := rfl
@[simp] theorem ln_dct (ks vs : List D) : lenD (.dct ks vs) = some (.int ks.length) := rfl
@[simp] theorem ln_dtt (ks vs : List D) : lenD (.dtt ks vs) = some (.int ks.length) := rfl
@[simp] theorem tu_lst (ds : List D) : tupleD (.lst ds) = some (.tup ds) := rfl
@[simp] theorem tu_tup (ds : List D) : tupleD (.tup ds) = some (.tup ds) := rfl
@[simp] theorem li_lst (ds : List D) : listD (.lst ds) = some (.lst ds) := rfl
@[simp] theorem li_tup (ds : List D) : listD (.tup ds) = some (.lst ds) := rfl
@[simp] theorem id_non (n : Bool) (x : D) : isD n x .non = (isNonD x).map fun k => .bl (xr n (k)) := rfl
@[simp] theorem sq_lst (ds : List D) : seqD (.lst ds) = some ds := rfl
@[simp] theorem sq_tup (ds : List D) : seqD (.tup ds) = some ds := rfl
@[simp] theorem sq_str (z : Str) : seqD (.str z) = some (signs z) := rfl
@[simp] theorem tm_non  : tame .non = True := rfl
@[simp] theorem tm_bl (b : Bool) : tame (.bl b) = True := rfl
@[simp] theorem tm_int (i : Int) : tame (.int i) = True := rfl
@[simp] theorem tm_str (s : Str) : tame (.str s) = (s.length ≤ 100000) := rfl
@[simp] theorem tm_lst (xs : List D) : tame (.lst xs) = True := rfl
@[simp] theorem tm_tup (ts : List D) : tame (.tup ts) = True := rfl
@[simp] theorem tm_dct (ks vs : List D) : tame (.dct ks vs) = True := rfl
@[simp] theorem tm_dtt (ks vs : List D) : tame (.dtt ks vs) = True := rfl
@[simp] theorem tm_ins (C : Addr) (ns : List Str) (xs : List D) : tame (.ins C ns xs) = False := rfl
@[simp] theorem tm_raw (v : V) : tame (.raw v) = False := rfl
end Q

set_option Elab.async false
set_option linter.all false
set_option maxRecDepth 100000
set_option maxHeartbeats 4000000
namespace L03
open PySem PySem.Spec PyProof.Rows L2 Q
def top (i : Nat) : Stmt := PySem.Challenge.pw_rulehouse_k03_rules_kept.main.body.getD i (.Pass ⟨0, 0, 0, 0⟩)
/-- the built-ins' names are no names of the module; its constants -/
structure Tx (K : PySem.W.Frag) (mg : Str → Option Value) : Prop where
  b_len : mg "len" = none
  b_isinstance : mg "isinstance" = none
  b_list : mg "list" = none
  b_tuple : mg "tuple" = none
  b_int : mg "int" = none
  b_str : mg "str" = none
  b_bool : mg "bool" = none
  b_dict : mg "dict" = none
  b_all : mg "all" = none
  b_any : mg "any" = none
  b_range : mg "range" = none
  b_enumerate : mg "enumerate" = none
  b_zip : mg "zip" = none
  b_sorted : mg "sorted" = none
  b_set : mg "set" = none
  g_SMALL : GlD K mg "SMALL" (.str "abcdefghijklmnopqrstuvwxyz")
  g_CAPITALS : GlD K mg "CAPITALS" (.str "ABCDEFGHIJKLMNOPQRSTUVWXYZ")
  g_FIGURES : GlD K mg "FIGURES" (.str "0123456789")
  g_NAME_SIGNS : GlD K mg "NAME_SIGNS" (.str "abcdefghijklmnopqrstuvwxyz0123456789")
  g_BARRED_NAMES : GlD K mg "BARRED_NAMES" (.tup [.str "not", .str "unlike", .str "if"])
  g_LONGEST_NAME : GlD K mg "LONGEST_NAME" (.int 12)
  g_LONGEST_LETTER : GlD K mg "LONGEST_LETTER" (.int 4)
  g_MOST_TERMS : GlD K mg "MOST_TERMS" (.int 6)
section
variable {P : Program} {w : World} {K : PySem.W.Frag} {mg : Str → Option Value} {base : Heap} {f : Addr} {fd : FuncData}
def tame1 : List D → Prop := fun ds => ∃ x, ds = [x] ∧ tame x
@[simp] theorem tame1_one (x : D) : tame1 [x] = tame x := by
  apply propext
  constructor
  · rintro ⟨y, e, h⟩
    cases e
    exact h
  · exact fun h => ⟨x, rfl, h⟩
theorem tame1_len {ds : List D} (h : tame1 ds) : ∃ x, ds = [x] ∧ tame x := h
def isInt : D → Bool
  | .int _ => true
  | _ => false
-- is_integer: slots 0 thing
abbrev s_is_integer : Stmt := (top 14)
abbrev N_sc_is_integer : List Str := ["thing"]
theorem sc_is_integer : FnScope N_sc_is_integer ["thing"] (defScope s_is_integer) := ⟨rfl, rfl, rfl, by decide +kernel, rfl, by decide +kernel, by decide +kernel⟩
theorem ok_is_integer (F : FnP K "is_integer" "is_integer" s_is_integer f fd) (T : Tx K mg) : FnOk P w K mg base CX0 1 f fd ["thing"] (spD K (wF tame1 fun ds => .bl (isInt (ds.headD .non)))) :=
  FnD F sc_is_integer (fun ds Kk h => by obtain ⟨⟨x, rfl, _⟩, _⟩ := h; rfl) fun cdv A outer s H Fz E hr => ⟨_, 
(ds_one (ds_ret (de_and (de_is1 T.b_isinstance (TyN.mk (t := .int) (by rfl) T.b_int (by decide +kernel) (by decide) (by decide)) (de_v (i := 0))) (de_one (de_not (de_is1 T.b_isinstance (TyN.mk (t := .bool) (by rfl) T.b_bool (by decide +kernel) (by decide) (by decide)) (de_v (i := 0))))))))
  , fun ds Kk h => by
    obtain ⟨⟨x, rfl, hx⟩, k⟩ := h
    cases x <;> simp [sRet, wAndV, wOrV, wNotV, wUn, wOp, wV, wB, wO, wC, wIfE, wTest, wTruth, wBand, wBor, wBnot, wChain, wSl, wPart, wTup, wLst, wCons, wNil, wCall, sIf, sSeq, sSet, sNew, sNext, sPass, sApp, sExt, sDrop, sAsg, gNm, gTp, gCs, gNl, startD, DS.put, wF, isaD, eqD, inSq, isInt] at * <;> exact k⟩
def strNm (z : Str) : Bool := decide (1 ≤ z.length) && decide (z.length ≤ 12) && decide (z.cps.toList.headD 0 ∈ ("abcdefghijklmnopqrstuvwxyz" : Str).cps.toList) && !decide (z = "not" ∨ z = "unlike" ∨ z = "if") &&
  z.cps.toList.all fun c => decide (c ∈ ("abcdefghijklmnopqrstuvwxyz0123456789" : Str).cps.toList)
def isNm : D → Bool
  | .str z => strNm z
  | _ => false
-- is_name: slots 0 thing, 1 sign
abbrev s_is_name : Stmt := (top 15)
abbrev N_sc_is_name : List Str := ["thing", "sign"]
theorem sc_is_name : FnScope N_sc_is_name ["thing"] (defScope s_is_name) := ⟨rfl, rfl, rfl, by decide +kernel, rfl, by decide +kernel, by decide +kernel⟩
theorem ok_is_name (F : FnP K "is_name" "is_name" s_is_name f fd) (T : Tx K mg) : FnOk P w K mg base CX0 1 f fd ["thing"] (spD K (wF tame1 fun ds => .bl (isNm (ds.headD .non)))) :=
  FnD F sc_is_name (fun ds Kk h => by obtain ⟨⟨x, rfl, _⟩, _⟩ := h; rfl) fun cdv A outer s H Fz E hr => ⟨_, 
(ds_cons (ds_if (DW.dt (dw_or (dt_not (dt_truth (de_is1 T.b_isinstance (TyN.mk (t := .str) (by rfl) T.b_str (by decide +kernel) (by decide) (by decide)) (de_v (i := 0))))) (dw_or1 (dt_not (dt_chain c_le c_le de_int (de_len T.b_len (de_v (i := 0))) (de_g T.g_LONGEST_NAME)))))) (ds_one (ds_ret de_bl)) ds_nil)
 (ds_cons (ds_if (DW.dt (dw_or (dt_cm (c_ni hr) (de_ixA (de_v (i := 0)) de_int) (de_g T.g_SMALL)) (dw_or1 (dt_cm (c_in hr) (de_v (i := 0)) (de_g T.g_BARRED_NAMES))))) (ds_one (ds_ret de_bl)) ds_nil)
 (ds_one (ds_ret (de_all T.b_all (FE.de (fe_lc (own := [("sign", 1)]) sc_is_name.nd (di_seq (de_v (i := 0))) (blkOk_by (own := [("sign", 1)]) (N := N_sc_is_name) (sc := defScope s_is_name) (by decide +kernel)) (fun _ _ _ _ _ => (dg_name (i := 1) sc_is_name.nd)) (fun _ _ _ _ _ => dts_nil) (fun _ _ _ _ _ => (de_cm (c_in hr) (de_v (i := 1)) (de_g T.g_NAME_SIGNS))))))))))
  , fun ds Kk h => by
    obtain ⟨⟨x, rfl, hx⟩, k⟩ := h
    cases x
    case str z =>
      obtain ⟨⟨l⟩⟩ := z
      have hx : l.length ≤ 100000 := by simpa [tame, Str.length] using hx
      cases l with
      | nil => simp [sRet, wAndV, wOrV, wNotV, wUn, wOp, wV, wB, wO, wC, wIfE, wTest, wTruth, wBand, wBor, wBnot, wChain, wSl, wPart, wTup, wLst, wCons, wNil, wCall, sIf, sSeq, sSet, sNew, sNext, sPass, sApp, sExt, sDrop, sAsg, gNm, gTp, gCs, gNl, startD, DS.put, wF, isaD, eqD, inSq, isNm, strNm, Str.length] at *; exact k
      | cons a r =>
        have hx : r.length ≤ 99999 := by simpa using hx
        by_cases h1 : r.length ≤ 11
        · have hx2 : (r.length : Int) + 1 ≤ 12 := by omega
          have hx3 : (1 : Int) ≤ r.length + 1 := by omega
          by_cases h2 : a ∈ ("abcdefghijklmnopqrstuvwxyz" : Str).cps
          · by_cases h3 : (⟨⟨a :: r⟩⟩ : Str) = "not" ∨ (⟨⟨a :: r⟩⟩ : Str) = "unlike" ∨ (⟨⟨a :: r⟩⟩ : Str) = "if"
            · simp [sRet, wAndV, wOrV, wNotV, wUn, wOp, wV, wB, wO, wC, wIfE, wTest, wTruth, wBand, wBor, wBnot, wChain, wSl, wPart, wTup, wLst, wCons, wNil, wCall, sIf, sSeq, sSet, sNew, sNext, sPass, sApp, sExt, sDrop, sAsg, gNm, gTp, gCs, gNl, startD, DS.put, wF, isaD, eqD, inSq, isNm, strNm, Str.length, ixN, Q.signs, hx, hx2, hx3, h1, h2, h3] at k ⊢
              exact .inr ⟨by rcases h3 with h | h | h <;> simp [h], k⟩
            · simp [sRet, wAndV, wOrV, wNotV, wUn, wOp, wV, wB, wO, wC, wIfE, wTest, wTruth, wBand, wBor, wBnot, wChain, wSl, wPart, wTup, wLst, wCons, wNil, wCall, sIf, sSeq, sSet, sNew, sNext, sPass, sApp, sExt, sDrop, sAsg, gNm, gTp, gCs, gNl, startD, DS.put, wF, isaD, eqD, inSq, isNm, strNm, Str.length, ixN, Q.signs, hx, hx2, hx3, h1, h2] at k ⊢
              refine .inl ⟨⟨fun e => h3 (.inl e.symm), fun e => h3 (.inr (.inl e.symm)), fun e => h3 (.inr (.inr e.symm))⟩, ?_⟩
              refine wLc_m (α := Nat) (h := fun c => .str ⟨#[c]⟩) (xs := a :: r) (f := fun c => .bl (decide (c ∈ ("abcdefghijklmnopqrstuvwxyz0123456789" : Str).cps.toList))) (x := none) (fun K k => ⟨_, rfl, ⟨_, rfl, k⟩⟩) (by simp; omega) rfl (fun _ h => by cases h) (fun c _ K k => ⟨_, rfl, _, rfl, k⟩) _ ?_
              rw [all_map]
              refine ⟨_, rfl, ?_⟩
              rw [not_or, not_or] at h3
              simp [h3.1, h3.2.1, h3.2.2] at k ⊢
              exact k
          · simp [sRet, wAndV, wOrV, wNotV, wUn, wOp, wV, wB, wO, wC, wIfE, wTest, wTruth, wBand, wBor, wBnot, wChain, wSl, wPart, wTup, wLst, wCons, wNil, wCall, sIf, sSeq, sSet, sNew, sNext, sPass, sApp, sExt, sDrop, sAsg, gNm, gTp, gCs, gNl, startD, DS.put, wF, isaD, eqD, inSq, isNm, strNm, Str.length, ixN, Q.signs, hx, hx2, hx3, h1, h2] at k ⊢
            exact k
        · have hx2 : ¬ (r.length : Int) + 1 ≤ 12 := by omega
          have hx3 : (1 : Int) ≤ r.length + 1 := by omega
          simp [sRet, wAndV, wOrV, wNotV, wUn, wOp, wV, wB, wO, wC, wIfE, wTest, wTruth, wBand, wBor, wBnot, wChain, wSl, wPart, wTup, wLst, wCons, wNil, wCall, sIf, sSeq, sSet, sNew, sNext, sPass, sApp, sExt, sDrop, sAsg, gNm, gTp, gCs, gNl, startD, DS.put, wF, isaD, eqD, inSq, isNm, strNm, Str.length, hx, hx2, hx3, h1] at k ⊢
          exact k
    all_goals (simp [sRet, wAndV, wOrV, wNotV, wUn, wOp, wV, wB, wO, wC, wIfE, wTest, wTruth, wBand, wBor, wBnot, wChain, wSl, wPart, wTup, wLst, wCons, wNil, wCall, sIf, sSeq, sSet, sNew, sNext, sPass, sApp, sExt, sDrop, sAsg, gNm, gTp, gCs, gNl, startD, DS.put, wF, isaD, eqD, inSq, isNm] at * <;> exact k)⟩
end
end L03

set_option Elab.async false
set_option linter.all false
set_option maxRecDepth 100000
set_option maxHeartbeats 4000000
namespace L03
open PySem PySem.Spec PyProof.Rows L2 Q
section
variable {P : Program} {w : World} {K : PySem.W.Frag} {mg : Str → Option Value} {base : Heap} {f : Addr} {fd : FuncData}
def isTh (d : D) : Bool := isInt d || isNm d
-- is_thing: slots 0 thing
abbrev s_is_thing : Stmt := (top 16)
abbrev N_sc_is_thing : List Str := ["thing"]
theorem sc_is_thing : FnScope N_sc_is_thing ["thing"] (defScope s_is_thing) := ⟨rfl, rfl, rfl, by decide +kernel, rfl, by decide +kernel, by decide +kernel⟩
theorem ok_is_thing (F : FnP K "is_thing" "is_thing" s_is_thing f fd) (T : Tx K mg) (C_is_integer : Cal P w K mg base "is_integer" 1 ["thing"] (spD K (wF tame1 fun ds => .bl (isInt (ds.headD .non))))) (C_is_name : Cal P w K mg base "is_name" 1 ["thing"] (spD K (wF tame1 fun ds => .bl (isNm (ds.headD .non))))) :
    FnOk P w K mg base CX0 2 f fd ["thing"] (spD K (wF tame1 fun ds => .bl (isTh (ds.headD .non)))) :=
  FnD F sc_is_thing (fun ds Kk h => by obtain ⟨⟨x, rfl, _⟩, _⟩ := h; rfl) fun cdv A outer s H Fz E hr => ⟨_, 
(ds_one (ds_ret (de_or (de_call C_is_integer hr (da_cons (de_v (i := 0)) da_nil)) (de_one (de_call C_is_name hr (da_cons (de_v (i := 0)) da_nil))))))
  , fun ds Kk h => by
    obtain ⟨⟨x, rfl, hx⟩, k⟩ := h
    cases h1 : isInt x <;> simp [sRet, wAndV, wOrV, wNotV, wUn, wOp, wV, wB, wO, wC, wIfE, wTest, wTruth, wBand, wBor, wBnot, wChain, wSl, wPart, wTup, wLst, wCons, wNil, wCall, sIf, sSeq, sSet, sNew, sNext, sPass, sApp, sExt, sDrop, sAsg, gNm, gTp, gCs, gNl, startD, DS.put, wF, isaD, eqD, inSq, isTh, h1, hx] at k ⊢ <;> exact k⟩
def strLt (z : Str) : Bool := decide (1 ≤ z.length) && decide (z.length ≤ 4) && decide (z.cps.toList.headD 0 ∈ ("ABCDEFGHIJKLMNOPQRSTUVWXYZ" : Str).cps.toList) && !decide ((z.cps.toList.drop 1).take 1 = [48]) &&
  (z.cps.toList.drop 1).all fun c => decide (c ∈ ("0123456789" : Str).cps.toList)
def isLt : D → Bool
  | .str z => strLt z
  | _ => false
theorem cut_tail (a : Nat) (r : List Nat) : cutS ⟨⟨a :: r⟩⟩ (some 1) none = ⟨⟨r⟩⟩ := by
  simp [cutS, HT.sIx, Str.length]
theorem cut_one (a : Nat) (r : List Nat) : cutS ⟨⟨a :: r⟩⟩ (some 1) (some 2) = ⟨⟨r.take 1⟩⟩ := by
  cases r <;> simp [cutS, HT.sIx, Str.length]
-- is_letter: slots 0 thing, 1 sign
abbrev s_is_letter : Stmt := (top 17)
abbrev N_sc_is_letter : List Str := ["thing", "sign"]
theorem sc_is_letter : FnScope N_sc_is_letter ["thing"] (defScope s_is_letter) := ⟨rfl, rfl, rfl, by decide +kernel, rfl, by decide +kernel, by decide +kernel⟩
theorem ok_is_letter (F : FnP K "is_letter" "is_letter" s_is_letter f fd) (T : Tx K mg) : FnOk P w K mg base CX0 1 f fd ["thing"] (spD K (wF tame1 fun ds => .bl (isLt (ds.headD .non)))) :=
  FnD F sc_is_letter (fun ds Kk h => by obtain ⟨⟨x, rfl, _⟩, _⟩ := h; rfl) fun cdv A outer s H Fz E hr => ⟨_, 
(ds_cons (ds_if (DW.dt (dw_or (dt_not (dt_truth (de_is1 T.b_isinstance (TyN.mk (t := .str) (by rfl) T.b_str (by decide +kernel) (by decide) (by decide)) (de_v (i := 0))))) (dw_or1 (dt_not (dt_chain c_le c_le de_int (de_len T.b_len (de_v (i := 0))) (de_g T.g_LONGEST_LETTER)))))) (ds_one (ds_ret de_bl)) ds_nil)
 (ds_cons (ds_if (DW.dt (dw_or (dt_cm (c_ni hr) (de_ixA (de_v (i := 0)) de_int) (de_g T.g_CAPITALS)) (dw_or1 (dt_cm (c_eq hr) (de_sl (de_v (i := 0)) (dp_at de_int) (dp_at de_int)) de_str)))) (ds_one (ds_ret de_bl)) ds_nil)
 (ds_one (ds_ret (de_all T.b_all (FE.de (fe_lc (own := [("sign", 1)]) sc_is_letter.nd (di_seq (de_sl (de_v (i := 0)) (dp_at de_int) dp_no)) (blkOk_by (own := [("sign", 1)]) (N := N_sc_is_letter) (sc := defScope s_is_letter) (by decide +kernel)) (fun _ _ _ _ _ => (dg_name (i := 1) sc_is_letter.nd)) (fun _ _ _ _ _ => dts_nil) (fun _ _ _ _ _ => (de_cm (c_in hr) (de_v (i := 1)) (de_g T.g_FIGURES))))))))))
  , fun ds Kk h => by
    obtain ⟨⟨x, rfl, hx⟩, k⟩ := h
    cases x
    case str z =>
      obtain ⟨⟨l⟩⟩ := z
      have hx : l.length ≤ 100000 := by simpa [tame, Str.length] using hx
      cases l with
      | nil => simp [sRet, wAndV, wOrV, wNotV, wUn, wOp, wV, wB, wO, wC, wIfE, wTest, wTruth, wBand, wBor, wBnot, wChain, wSl, wPart, wTup, wLst, wCons, wNil, wCall, sIf, sSeq, sSet, sNew, sNext, sPass, sApp, sExt, sDrop, sAsg, gNm, gTp, gCs, gNl, startD, DS.put, wF, isaD, eqD, inSq, isLt, strLt, Str.length] at *; exact k
      | cons a r =>
        have hx : r.length ≤ 99999 := by simpa using hx
        by_cases h1 : r.length ≤ 3
        · have hx2 : (r.length : Int) + 1 ≤ 4 := by omega
          have hx3 : (1 : Int) ≤ r.length + 1 := by omega
          have hx4 : r.length + 1 ≤ 100000 := by omega
          by_cases h2 : a ∈ ("ABCDEFGHIJKLMNOPQRSTUVWXYZ" : Str).cps
          · have ez : ("0" : Str) = ⟨⟨[48]⟩⟩ := by decide +kernel
            have e0 : (⟨⟨r.take 1⟩⟩ : Str) = "0" ↔ r.take 1 = [48] := by rw [ez]; simp
            by_cases h3 : r.take 1 = [48]
            · have hb : isLt (.str ⟨⟨a :: r⟩⟩) = false := by simp [isLt, strLt, h3]
              have k : Kk (.bl (isLt (.str ⟨⟨a :: r⟩⟩))) := k
              rw [hb] at k
              simp [sRet, wAndV, wOrV, wNotV, wUn, wOp, wV, wB, wO, wC, wIfE, wTest, wTruth, wBand, wBor, wBnot, wChain, wSl, wPart, wTup, wLst, wCons, wNil, wCall, sIf, sSeq, sSet, sNew, sNext, sPass, sApp, sExt, sDrop, sAsg, gNm, gTp, gCs, gNl, startD, DS.put, wF, isaD, eqD, inSq, Str.length, ixN, Q.signs, hx, hx2, hx3, hx4, h1, h2, h3, cut_one, e0, xr]
              exact .inr ⟨ez.symm, k⟩
            · simp [sRet, wAndV, wOrV, wNotV, wUn, wOp, wV, wB, wO, wC, wIfE, wTest, wTruth, wBand, wBor, wBnot, wChain, wSl, wPart, wTup, wLst, wCons, wNil, wCall, sIf, sSeq, sSet, sNew, sNext, sPass, sApp, sExt, sDrop, sAsg, gNm, gTp, gCs, gNl, startD, DS.put, wF, isaD, eqD, inSq, isLt, strLt, Str.length, ixN, Q.signs, hx, hx2, hx3, hx4, h1, h2, h3, cut_one, e0, xr] at k ⊢
              refine wLc_m (α := Nat) (h := fun c => .str ⟨#[c]⟩) (xs := r) (f := fun c => .bl (decide (c ∈ ("0123456789" : Str).cps.toList))) (x := none) (fun K k => ?_) (by omega) rfl (fun _ h => by cases h) (fun c _ K k => ⟨_, rfl, _, rfl, k⟩) _ ?_
              · refine ⟨_, rfl, _, rfl, rfl, .str ⟨⟨r⟩⟩, ?_, Q.signs ⟨⟨r⟩⟩, rfl, k⟩
                rw [sl_txt, cut_tail]
                simp [Str.length, hx4]
              rw [all_map]
              refine ⟨_, rfl, ?_⟩
              simpa using k
          · simp [sRet, wAndV, wOrV, wNotV, wUn, wOp, wV, wB, wO, wC, wIfE, wTest, wTruth, wBand, wBor, wBnot, wChain, wSl, wPart, wTup, wLst, wCons, wNil, wCall, sIf, sSeq, sSet, sNew, sNext, sPass, sApp, sExt, sDrop, sAsg, gNm, gTp, gCs, gNl, startD, DS.put, wF, isaD, eqD, inSq, isLt, strLt, Str.length, ixN, Q.signs, hx, hx2, hx3, h1, h2] at k ⊢
            exact k
        · have hx2 : ¬ (r.length : Int) + 1 ≤ 4 := by omega
          have hx3 : (1 : Int) ≤ r.length + 1 := by omega
          simp [sRet, wAndV, wOrV, wNotV, wUn, wOp, wV, wB, wO, wC, wIfE, wTest, wTruth, wBand, wBor, wBnot, wChain, wSl, wPart, wTup, wLst, wCons, wNil, wCall, sIf, sSeq, sSet, sNew, sNext, sPass, sApp, sExt, sDrop, sAsg, gNm, gTp, gCs, gNl, startD, DS.put, wF, isaD, eqD, inSq, isLt, strLt, Str.length, hx, hx2, hx3, h1] at k ⊢
          exact k
    all_goals (simp [sRet, wAndV, wOrV, wNotV, wUn, wOp, wV, wB, wO, wC, wIfE, wTest, wTruth, wBand, wBor, wBnot, wChain, wSl, wPart, wTup, wLst, wCons, wNil, wCall, sIf, sSeq, sSet, sNew, sNext, sPass, sApp, sExt, sDrop, sAsg, gNm, gTp, gCs, gNl, startD, DS.put, wF, isaD, eqD, inSq, isLt] at * <;> exact k)⟩
end
end L03

set_option Elab.async false
set_option linter.all false
set_option maxRecDepth 100000
set_option maxHeartbeats 4000000
namespace L03
open PySem PySem.Spec PyProof.Rows L2 Q
mutual
/-- of moderate size throughout, no objects in it -/
def tmB : D → Bool
  | .str z => decide (z.length ≤ 100000)
  | .lst xs => decide (xs.length ≤ 100000) && tmBs xs
  | .tup xs => decide (xs.length ≤ 100000) && tmBs xs
  | .ins _ _ _ => false
  | .raw _ => false
  | .non => true
  | .bl _ => true
  | .int _ => true
  | .dct _ _ => true
  | .dtt _ _ => true
def tmBs : List D → Bool
  | [] => true
  | x :: xs => tmB x && tmBs xs
end
@[simp] theorem tmBs_nil : tmBs [] = true := by simp only [tmBs]
@[simp] theorem tmBs_cons (x : D) (xs : List D) : tmBs (x :: xs) = (tmB x && tmBs xs) := by simp only [tmBs]
@[simp] theorem tmB_lst (xs : List D) : tmB (.lst xs) = (decide (xs.length ≤ 100000) && tmBs xs) := by simp only [tmB]
@[simp] theorem tmB_tup (xs : List D) : tmB (.tup xs) = (decide (xs.length ≤ 100000) && tmBs xs) := by simp only [tmB]
@[simp] theorem tmB_str (z : Str) : tmB (.str z) = decide (z.length ≤ 100000) := by simp only [tmB]
@[simp] theorem tmB_non : tmB .non = true := by simp only [tmB]
@[simp] theorem tmB_bl (b : Bool) : tmB (.bl b) = true := by simp only [tmB]
@[simp] theorem tmB_int (i : Int) : tmB (.int i) = true := by simp only [tmB]
@[simp] theorem tmB_dct (k v : List D) : tmB (.dct k v) = true := by simp only [tmB]
@[simp] theorem tmB_dtt (k v : List D) : tmB (.dtt k v) = true := by simp only [tmB]
@[simp] theorem tmB_ins (a : Addr) (k : List Str) (v : List D) : tmB (.ins a k v) = false := by simp only [tmB]
@[simp] theorem tmB_raw (v : V) : tmB (.raw v) = false := by simp only [tmB]
theorem tmBs_iff : ∀ {xs : List D}, tmBs xs = true ↔ ∀ x ∈ xs, tmB x = true
  | [] => by simp
  | x :: xs => by simp [tmBs_iff (xs := xs)]
theorem tmB.tame {d : D} (h : tmB d = true) : tame d := by
  cases d <;> simp at h ⊢ <;> exact h
def tmd1 : List D → Prop := fun ds => ∃ x, ds = [x] ∧ tmB x = true
@[simp] theorem tmd1_one (x : D) : tmd1 [x] = (tmB x = true) := by
  apply propext
  constructor
  · rintro ⟨y, e, h⟩
    cases e
    exact h
  · exact fun h => ⟨x, rfl, h⟩
section
variable {P : Program} {w : World} {K : PySem.W.Frag} {mg : Str → Option Value} {base : Heap} {f : Addr} {fd : FuncData}
def isTm (d : D) : Bool := isTh d || isLt d
-- is_term: slots 0 thing
abbrev s_is_term : Stmt := (top 18)
abbrev N_sc_is_term : List Str := ["thing"]
theorem sc_is_term : FnScope N_sc_is_term ["thing"] (defScope s_is_term) := ⟨rfl, rfl, rfl, by decide +kernel, rfl, by decide +kernel, by decide +kernel⟩
theorem ok_is_term (F : FnP K "is_term" "is_term" s_is_term f fd) (T : Tx K mg) (C_is_thing : Cal P w K mg base "is_thing" 2 ["thing"] (spD K (wF tame1 fun ds => .bl (isTh (ds.headD .non))))) (C_is_letter : Cal P w K mg base "is_letter" 1 ["thing"] (spD K (wF tame1 fun ds => .bl (isLt (ds.headD .non))))) :
    FnOk P w K mg base CX0 3 f fd ["thing"] (spD K (wF tame1 fun ds => .bl (isTm (ds.headD .non)))) :=
  FnD F sc_is_term (fun ds Kk h => by obtain ⟨⟨x, rfl, _⟩, _⟩ := h; rfl) fun cdv A outer s H Fz E hr => ⟨_, 
(ds_one (ds_ret (de_or (de_call C_is_thing hr (da_cons (de_v (i := 0)) da_nil)) (de_one (de_call C_is_letter hr (da_cons (de_v (i := 0)) da_nil))))))
  , fun ds Kk h => by
    obtain ⟨⟨x, rfl, hx⟩, k⟩ := h
    cases h1 : isTh x <;> simp [sRet, wAndV, wOrV, wNotV, wUn, wOp, wV, wB, wO, wC, wIfE, wTest, wTruth, wBand, wBor, wBnot, wChain, wSl, wPart, wTup, wLst, wCons, wNil, wCall, sIf, sSeq, sSet, sNew, sNext, sPass, sApp, sExt, sDrop, sAsg, gNm, gTp, gCs, gNl, startD, DS.put, wF, isaD, eqD, inSq, isTm, h1, hx] at k ⊢ <;> exact k⟩
def rowB (xs : List D) : Bool := decide (1 ≤ xs.length) && decide (xs.length ≤ 7) && isNm (xs.headD .non)
def sqOf : D → Option (List D)
  | .lst xs => some xs
  | .tup xs => some xs
  | _ => none
@[simp] theorem sqOf_lst (xs : List D) : sqOf (.lst xs) = some xs := rfl
@[simp] theorem sqOf_tup (xs : List D) : sqOf (.tup xs) = some xs := rfl
@[simp] theorem sqOf_non : sqOf .non = none := rfl
@[simp] theorem sqOf_bl (b : Bool) : sqOf (.bl b) = none := rfl
@[simp] theorem sqOf_int (i : Int) : sqOf (.int i) = none := rfl
@[simp] theorem sqOf_str (z : Str) : sqOf (.str z) = none := rfl
@[simp] theorem sqOf_dct (k v : List D) : sqOf (.dct k v) = none := rfl
@[simp] theorem sqOf_dtt (k v : List D) : sqOf (.dtt k v) = none := rfl
def isRow (d : D) : Bool := match sqOf d with
  | some xs => rowB xs
  | none => false
-- _is_row: slots 0 thing
abbrev s_is_row : Stmt := (top 21)
abbrev N_sc_is_row : List Str := ["thing"]
theorem sc_is_row : FnScope N_sc_is_row ["thing"] (defScope s_is_row) := ⟨rfl, rfl, rfl, by decide +kernel, rfl, by decide +kernel, by decide +kernel⟩
theorem ok_is_row (F : FnP K "_is_row" "_is_row" s_is_row f fd) (T : Tx K mg) (C_is_name : Cal P w K mg base "is_name" 1 ["thing"] (spD K (wF tame1 fun ds => .bl (isNm (ds.headD .non))))) :
    FnOk P w K mg base CX0 2 f fd ["thing"] (spD K (wF tmd1 fun ds => .bl (isRow (ds.headD .non)))) :=
  FnD F sc_is_row (fun ds Kk h => by obtain ⟨⟨x, rfl, _⟩, _⟩ := h; rfl) fun cdv A outer s H Fz E hr => ⟨_, 
(ds_cons (ds_if (DW.dt (dw_or (dt_not (dt_truth (de_isN T.b_isinstance (tns_cons (TyN.mk (t := .list) (by rfl) T.b_list (by decide +kernel) (by decide) (by decide)) (tns_cons (TyN.mk (t := .tuple) (by rfl) T.b_tuple (by decide +kernel) (by decide) (by decide)) tns_nil)) (de_v (i := 0))))) (dw_or1 (dt_not (dt_chain c_le c_le de_int (de_len T.b_len (de_v (i := 0))) (de_add (de_g T.g_MOST_TERMS) de_int)))))) (ds_one (ds_ret de_bl)) ds_nil)
 (ds_one (ds_ret (de_call C_is_name hr (da_cons (de_ixA (de_v (i := 0)) de_int) da_nil)))))
  , fun ds Kk h => by
    obtain ⟨⟨x, rfl, hx⟩, k⟩ := h
    cases x
    case' lst xs => have hx : tmBs xs = true := by simp at hx; exact hx.2
    case' tup xs => have hx : tmBs xs = true := by simp at hx; exact hx.2
    case lst | tup =>
      cases xs with
      | nil => simp [sRet, wAndV, wOrV, wNotV, wUn, wOp, wV, wB, wO, wC, wIfE, wTest, wTruth, wBand, wBor, wBnot, wChain, wSl, wPart, wTup, wLst, wCons, wNil, wCall, sIf, sSeq, sSet, sNew, sNext, sPass, sApp, sExt, sDrop, sAsg, gNm, gTp, gCs, gNl, startD, DS.put, wF, isaD, eqD, inSq, isRow, rowB] at *; exact k
      | cons a r =>
        have ha : tame a := by simp at hx; exact tmB.tame hx.1
        by_cases h1 : r.length ≤ 6
        · have h2 : (r.length : Int) + 1 ≤ 7 := by omega
          have h3 : (1 : Int) ≤ r.length + 1 := by omega
          simp [sRet, wAndV, wOrV, wNotV, wUn, wOp, wV, wB, wO, wC, wIfE, wTest, wTruth, wBand, wBor, wBnot, wChain, wSl, wPart, wTup, wLst, wCons, wNil, wCall, sIf, sSeq, sSet, sNew, sNext, sPass, sApp, sExt, sDrop, sAsg, gNm, gTp, gCs, gNl, startD, DS.put, wF, isaD, eqD, inSq, isRow, rowB, ixN, h1, h2, h3, ha] at k ⊢
          exact k
        · have h2 : ¬ (r.length : Int) + 1 ≤ 7 := by omega
          have h3 : (1 : Int) ≤ r.length + 1 := by omega
          simp [sRet, wAndV, wOrV, wNotV, wUn, wOp, wV, wB, wO, wC, wIfE, wTest, wTruth, wBand, wBor, wBnot, wChain, wSl, wPart, wTup, wLst, wCons, wNil, wCall, sIf, sSeq, sSet, sNew, sNext, sPass, sApp, sExt, sDrop, sAsg, gNm, gTp, gCs, gNl, startD, DS.put, wF, isaD, eqD, inSq, isRow, rowB, ixN, h1, h2, h3, ha] at k ⊢
          exact k
    all_goals (simp [sRet, wAndV, wOrV, wNotV, wUn, wOp, wV, wB, wO, wC, wIfE, wTest, wTruth, wBand, wBor, wBnot, wChain, wSl, wPart, wTup, wLst, wCons, wNil, wCall, sIf, sSeq, sSet, sNew, sNext, sPass, sApp, sExt, sDrop, sAsg, gNm, gTp, gCs, gNl, startD, DS.put, wF, isaD, eqD, inSq, isRow] at * <;> exact k)⟩
def asAtom (d : D) : D := match sqOf d with
  | some xs => if rowB xs && xs.tail.all isTm then .tup xs else .non
  | none => .non
theorem cut_tl (a : D) (r : List D) : Q.cutD (a :: r) (some 1) none = r := by simp [Q.cutD, HT.sIx]
theorem cut_nil : Q.cutD [] (some 1) none = [] := by simp [Q.cutD, HT.sIx]
-- as_atom: slots 0 thing, 1 term
abbrev s_as_atom : Stmt := (top 22)
abbrev N_sc_as_atom : List Str := ["thing", "term"]
theorem sc_as_atom : FnScope N_sc_as_atom ["thing"] (defScope s_as_atom) := ⟨rfl, rfl, rfl, by decide +kernel, rfl, by decide +kernel, by decide +kernel⟩
theorem ok_as_atom (F : FnP K "as_atom" "as_atom" s_as_atom f fd) (T : Tx K mg) (C__is_row : Cal P w K mg base "_is_row" 2 ["thing"] (spD K (wF tmd1 fun ds => .bl (isRow (ds.headD .non))))) (C_is_term : Cal P w K mg base "is_term" 3 ["thing"] (spD K (wF tame1 fun ds => .bl (isTm (ds.headD .non))))) :
    FnOk P w K mg base CX0 4 f fd ["thing"] (spD K (wF tmd1 fun ds => asAtom (ds.headD .non))) :=
  FnD F sc_as_atom (fun ds Kk h => by obtain ⟨⟨x, rfl, _⟩, _⟩ := h; rfl) fun cdv A outer s H Fz E hr => ⟨_, 
(ds_cons (ds_if (DW.dt (dw_or (dt_not (dt_truth (de_call C__is_row hr (da_cons (de_v (i := 0)) da_nil)))) (dw_or1 (dt_not (dt_truth (de_all T.b_all (FE.de (fe_lc (own := [("term", 1)]) sc_as_atom.nd (di_seq (de_sl (de_v (i := 0)) (dp_at de_int) dp_no)) (blkOk_by (own := [("term", 1)]) (N := N_sc_as_atom) (sc := defScope s_as_atom) (by decide +kernel)) (fun _ _ _ _ _ => (dg_name (i := 1) sc_as_atom.nd)) (fun _ _ _ _ _ => dts_nil) (fun _ _ _ _ _ => (de_call C_is_term hr (da_cons (de_v (i := 1)) da_nil))))))))))) (ds_one (ds_ret de_non)) ds_nil)
 (ds_one (ds_ret (de_tuple T.b_tuple (de_v (i := 0))))))
  , fun ds Kk h => by
    obtain ⟨⟨x, rfl, hx⟩, k⟩ := h
    have hx0 := hx
    cases x
    case' lst xs => have hx : tmBs xs = true := by simp at hx; exact hx.2
    case' tup xs => have hx : tmBs xs = true := by simp at hx; exact hx.2
    case lst | tup =>
      by_cases hb : rowB xs = true
      · have hl : xs ≠ [] := by
          rintro rfl
          simp [rowB] at hb
        obtain ⟨a, r, rfl⟩ := List.exists_cons_of_ne_nil hl
        have hr7 : r.length ≤ 6 := by simp [rowB] at hb; omega
        have hr' : ∀ t ∈ r, tame t := fun t ht => by simp at hx; exact tmB.tame (tmBs_iff.mp hx.2 t ht)
        simp [sRet, wAndV, wOrV, wNotV, wUn, wOp, wV, wB, wO, wC, wIfE, wTest, wTruth, wBand, wBor, wBnot, wChain, wSl, wPart, wTup, wLst, wCons, wNil, wCall, sIf, sSeq, sSet, sNew, sNext, sPass, sApp, sExt, sDrop, sAsg, gNm, gTp, gCs, gNl, startD, DS.put, wF, isaD, eqD, inSq, isRow, hb, hx0, -tmB_lst, -tmB_tup]
        refine wLc_m (α := D) (h := id) (xs := r) (f := fun t => .bl (isTm t)) (x := none) (fun K k => ⟨_, rfl, _, rfl, rfl, _, rfl, r, congrArg some (cut_tl a r), by simpa using k⟩) (by omega) rfl (fun _ h => by cases h) (fun t ht K k => ⟨_, rfl, (by simp; exact hr' t ht), k⟩) _ ?_
        rw [all_map]
        refine ⟨_, rfl, ?_⟩
        cases ht : r.all isTm with
        | true =>
          simp [asAtom, hb, ht] at k ⊢
          exact k
        | false =>
          simp [asAtom, hb, ht] at k ⊢
          exact k
      · simp at hb
        simp [sRet, wAndV, wOrV, wNotV, wUn, wOp, wV, wB, wO, wC, wIfE, wTest, wTruth, wBand, wBor, wBnot, wChain, wSl, wPart, wTup, wLst, wCons, wNil, wCall, sIf, sSeq, sSet, sNew, sNext, sPass, sApp, sExt, sDrop, sAsg, gNm, gTp, gCs, gNl, startD, DS.put, wF, isaD, eqD, inSq, isRow, asAtom, hb, hx0, -tmB_lst, -tmB_tup] at k ⊢
        exact k
    all_goals (simp [sRet, wAndV, wOrV, wNotV, wUn, wOp, wV, wB, wO, wC, wIfE, wTest, wTruth, wBand, wBor, wBnot, wChain, wSl, wPart, wTup, wLst, wCons, wNil, wCall, sIf, sSeq, sSet, sNew, sNext, sPass, sApp, sExt, sDrop, sAsg, gNm, gTp, gCs, gNl, startD, DS.put, wF, isaD, eqD, inSq, isRow, asAtom] at * <;> first | exact k | exact ⟨hx, k⟩)⟩
end
end L03

set_option Elab.async false
set_option linter.all false
set_option maxRecDepth 100000
set_option maxHeartbeats 4000000
/-! dicts with plain keys -/
namespace Q
open PySem PySem.Spec PyProof.Rows L2
instance keyMem (k : Key) (ks : List Key) : Decidable (k ∈ ks) := @List.instDecidableMemOfLawfulBEq _ instBEqOfDecidableEq inferInstance k ks
theorem kD_inj : ∀ {k j : Key}, kD k = kD j → k = j
  | .inl _, .inl _, h => by cases h; rfl
  | .inr _, .inr _, h => by cases h; rfl
  | .inl _, .inr _, h => by cases h
  | .inr _, .inl _, h => by cases h
theorem kD_map : ∀ {ks js : List Key}, ks.map kD = js.map kD → ks = js
  | [], [], _ => rfl
  | [], _ :: _, h => by cases h
  | _ :: _, [], h => by cases h
  | k :: ks, j :: js, h => by
    rw [List.map_cons, List.map_cons] at h
    have h1 := (List.cons.inj h).1
    have h2 := (List.cons.inj h).2
    rw [kD_inj h1, kD_map h2]
theorem Rep.key {K : PySem.W.Frag} {F : Hp} {v : V} : ∀ {k : Key}, Rep K F v (kD k) → v = kV k
  | .inl _, h => by cases h; rfl
  | .inr _, h => by cases h; rfl
theorem rep_key {K : PySem.W.Frag} {F : Hp} : ∀ k : Key, Rep K F (kV k) (kD k)
  | .inl i => .int i
  | .inr x => .str x
theorem BV.key {K : PySem.W.Frag} {F H : Hp} {v : V} : ∀ {k : Key}, BV K F H v (kD k) → v = kV k
  | .inl _, h => h.int
  | .inr _, h => h.str
def putKs (ks : List Key) (k : Key) : List Key := if k ∈ ks then ks else ks ++ [k]
def putVs (ks : List Key) (vs : List D) (k : Key) (v : D) : List D := if k ∈ ks then List.zipWith (fun j u => if j = k then v else u) ks vs else vs ++ [v]
theorem any_key (k : Key) : ∀ kvs : List (Key × V), (kvs.any fun kv => decide (kv.1 = k)) = decide (k ∈ kvs.map (·.1))
  | [] => rfl
  | kv :: kvs => by
    rw [List.any_cons, any_key k kvs, List.map_cons]
    by_cases e : kv.1 = k
    · simp [e]
    · have : ¬ k = kv.1 := fun z => e z.symm
      simp [e, this]
theorem putK_keys (k : Key) (v : V) (kvs : List (Key × V)) : (putK kvs k v).map (·.1) = putKs (kvs.map (·.1)) k := by
  unfold putK putKs
  rw [any_key]
  by_cases h : k ∈ kvs.map (·.1)
  · rw [if_pos (by simpa using h), if_pos h, List.map_map]
    apply List.map_congr_left
    intro kv _
    show (if kv.1 = k then (kv.1, v) else kv).1 = kv.1
    split <;> rfl
  · rw [if_neg (by simpa using h), if_neg h, List.map_append]
    rfl
theorem putK_vals {K : PySem.W.Frag} {F : Hp} (k : Key) {v : V} {d : D} (r : Rep K F v d) {kvs : List (Key × V)} {ds : List D} (h : Reps K F (kvs.map (·.2)) ds) : Reps K F ((putK kvs k v).map (·.2)) (putVs (kvs.map (·.1)) ds k d) := by
  unfold putK putVs
  rw [any_key]
  by_cases m : k ∈ kvs.map (·.1)
  · rw [if_pos (by simpa using m), if_pos m]
    clear m
    induction kvs generalizing ds with
    | nil => cases h; exact .nil
    | cons kv kvs ih =>
      cases h with
      | cons h1 h2 =>
        rw [List.map_cons, List.map_cons, List.map_cons, List.zipWith_cons_cons]
        refine .cons ?_ (ih h2)
        by_cases e : kv.1 = k
        · rw [if_pos e, if_pos e]; exact r
        · rw [if_neg e, if_neg e]; exact h1
  · rw [if_neg (by simpa using m), if_neg m, List.map_append]
    exact h.snoc r
def valD : List Key → List D → Key → Option D
  | j :: ks, v :: vs, k => if j = k then some v else valD ks vs k
  | _, _, _ => none
theorem valD_of {K : PySem.W.Frag} {F : Hp} (k : Key) : ∀ {kvs : List (Key × V)} {ds : List D}, Reps K F (kvs.map (·.2)) ds → (∀ d, valD (kvs.map (·.1)) ds k = some d → ∃ v, valV kvs k = some v ∧ Rep K F v d)
  | [], _, _, d, h => by simp [valD] at h
  | kv :: kvs, _, .cons r t, d, h => by
    rw [List.map_cons] at h
    unfold valD at h
    by_cases e : kv.1 = k
    · rw [if_pos e] at h
      cases h
      exact ⟨_, valV_pos e, r⟩
    · rw [if_neg e] at h
      rw [valV_neg e]
      exact valD_of k t d h
section
variable {X : Cx} {c : Ctx} {fr : Bool} {tg iter e e2 kx vx a b : Expr} {ifs : List Expr} {pos p : Pos} {pa pb ba bb : Bool} {ts vs : List Nat} {g : WG c.R} {we wb wk wv : WE c.R} {wi : WI c.R} {wt : WB c.R} {j : Nat}
/-- {} -/
theorem fe_d0 (hk : X.K = c.K := by rfl) : FE X c true (.Dict [] [] pos) (wC c.R (.dct [] [])) :=
  ⟨pe_dnewK.imp fun σ H Q ⟨ρ, F, O, Kk, S, w, k⟩ q hq => k _ ρ q (.dK []) F H w S (Same.refl _) (fun _ _ => rfl) (fun _ => ⟨rfl, Grow.refl S.sub⟩) hq ⟨rfl, .nil⟩, hk⟩
/-- x[k] = e, x a dict of the def's own -/
def sDput {R : Rgn} (i : Nat) (we wk : WE R) : WS R := fun Dk ρ => we ρ fun d ρ1 => (∃ d0, ρ1.sl[i]? = some (some (.own d0))) ∧ wk ρ1 fun kd ρ2 => ∃ (k : Key) (ks : List Key) (vs : List D), kd = kD k ∧ ρ2.sl[i]? = some (some (.own (.dct (ks.map kD) vs))) ∧ ks.length < 100000 ∧ Dk.nx (ρ2.put i (some (.own (.dct ((putKs ks k).map kD) (putVs ks vs k d)))))
theorem ds_dput {i : Nat} {x : Str} {k : Expr} {pp qp : Pos} (hr : Room j X.A) (he : DE X c pa false e we) (hx : DE X c pb bb k wk) (hN : X.N[i]? = some x := by rfl) (hv : Vis X.env.scope x := by first | exact .inl rfl | exact .inr (.inl rfl) | exact .inr (.inr rfl))
    (hd : (x == ("__debug__" : Str)) = false := by decide) (hcd : (x == ("__classdict__" : Str)) = false := by decide) (hs : swapsWith e (some (.Subscript (.Name x pp) k qp)) pos.line X.env = pure false := by rfl) :
    DS1 X c fr (.Assign [.Subscript (.Name x pp) k qp] e pos) (sDput i we wk) :=
  ⟨(ps_dput (hu_of hr) (pe_var hN hv hd hcd) hx.pe he.pe hs).imp fun E σ H ⟨ρ, F, Dk, S, w, k1, k2, k3, k4⟩ => by
    refine ⟨ρ, F, [], _, S, w, fun d ρ1 v F1 H1 ⟨⟨d0, h0⟩, hk⟩ S1 fs1 ko1 g1 r1 => ?_⟩
    obtain ⟨q, hq, _⟩ := own_at S1 h0
    refine ⟨.ref q, hq, ρ1, F1, [], _, S1, hk, fun kd ρ2 kv F2 H2 ⟨kk, ks, vs, ek, h2, hl, hk2⟩ S2 fs2 ko2 g2 r2 => ?_⟩
    subst ek
    obtain ⟨q', hq', kvs, hvs, hks, rv⟩ := own_at S2 h2
    rw [hq] at hq'
    cases hq'
    have hks : ks = kvs.map (·.1) := kD_map (by rw [hks, List.map_map]; rfl)
    subst hks
    refine ⟨q, _, rfl, .inl ⟨kvs, kk, hvs, (r2.bv S2).key, by rw [List.length_map] at hl; exact Nat.lt_of_lt_of_le hl big_line, rfl⟩, ?_⟩
    exact k1 _ σ F2 _ hk2 (S2.write hq h2 (o := .dK (putK kvs kk v)) ⟨by rw [← putK_keys kk v, List.map_map]; rfl, putK_vals kk (Rep.same fs2 r1) rv⟩) (fs1.trans fs2)⟩
/-- k in x, x a dict -/
def wDin {R : Rgn} (n : Bool) (wk we : WE R) : WE R := fun ρ K => wk ρ fun kd ρ1 => we ρ1 fun d ρ2 => ∃ (k : Key) (ks : List Key) (vs : List D), kd = kD k ∧ d = .dct (ks.map kD) vs ∧ K (.bl (xr n (decide (k ∈ ks)))) ρ2
theorem din_ok {n : Bool} {wa : WE c.R} (he : DE X c pb bb b wb) (ha : DE X c pa false a wa) {σ : L2.St} {H : Hp} {Q : VK} (h : liftE c (pa && pb) false (wDin n wa wb) σ H Q) :
    liftE c pa false wa σ H fun y H1 => liftE c pb bb wb σ H1 fun x H2 => ∃ a o, x = .ref a ∧ DGet H2 a y o ∧ Q (.bl (xr n o.isSome)) H2 := by
  obtain ⟨ρ, F, O, Kk, S, w, k⟩ := h
  refine ⟨ρ, F, O, _, S, w, fun x ρ1 v F1 H1 hk S1 fs1 ko1 g1 r1 => ⟨ρ1, F1, O, _, S1, hk, fun d ρ2 u F2 H2 ⟨kk, ks, vs, ek, ed, kz⟩ S2 fs2 ko2 g2 r2 => ?_⟩⟩
  subst ek
  subst ed
  obtain ⟨q, kvs, rfl, h1, hks, r⟩ := (r2.bv S2).dct S2.sub
  have hks : ks = kvs.map (·.1) := kD_map (by rw [hks, List.map_map]; rfl)
  subst hks
  refine ⟨q, _, rfl, .inl ⟨kvs, kk, .inl h1, (r1.bv S1).key, rfl⟩, ?_⟩
  have e : (valV kvs kk).isSome = decide (kk ∈ kvs.map (·.1)) := by rw [← valV_any, any_key]
  rw [e]
  refine k _ ρ2 _ F2 H2 kz S2 (fs1.trans fs2) (fun q hq => by rw [ko2 q hq, ko1 q hq]) (fun e => ?_) (.bl _)
  rw [Bool.and_eq_true] at e
  obtain ⟨e1, q1⟩ := g1 e.1
  obtain ⟨e2, q2⟩ := g2 e.2
  exact ⟨e2.trans e1, q1.trans q2⟩
theorem de_din {wa : WE c.R} (hr : Room j X.A) (ha : DE X c pa false a wa) (hb : DE X c pb bb b wb) (hm : behindInMarks .In b = false := by rfl) : DE X c (pa && pb) false (.Compare a [.In] [b] pos) (wDin false wa wb) :=
  ⟨(pe_cmp (pc_din (hu_of hr) ha.pe hb.pe) hm).imp fun σ H Q h => din_ok hb ha h, ha.kk⟩
theorem de_dni {wa : WE c.R} (hr : Room j X.A) (ha : DE X c pa false a wa) (hb : DE X c pb bb b wb) (hm : behindInMarks .NotIn b = false := by rfl) : DE X c (pa && pb) false (.Compare a [.NotIn] [b] pos) (wDin true wa wb) :=
  ⟨(pe_cmp (pc_dnotin (hu_of hr) ha.pe hb.pe) hm).imp fun σ H Q h => din_ok hb ha h, ha.kk⟩
theorem dt_din {wa : WE c.R} (hr : Room j X.A) (ha : DE X c pa false a wa) (hb : DE X c pb bb b wb) (hm : behindInMarks .In b = false := by rfl) : DT X c (pa && pb) (.Compare a [.In] [b] pos) (wTest (wDin false wa wb)) :=
  ⟨(pt_cmp (pc_din (hu_of hr) ha.pe hb.pe) hm).imp fun σ H Q h => din_ok hb ha (test_ok (ba := false) h)⟩
theorem dt_dni {wa : WE c.R} (hr : Room j X.A) (ha : DE X c pa false a wa) (hb : DE X c pb bb b wb) (hm : behindInMarks .NotIn b = false := by rfl) : DT X c (pa && pb) (.Compare a [.NotIn] [b] pos) (wTest (wDin true wa wb)) :=
  ⟨(pt_cmp (pc_dnotin (hu_of hr) ha.pe hb.pe) hm).imp fun σ H Q h => din_ok hb ha (test_ok (ba := false) h)⟩
/-- x[k], x a dict -/
def wDget {R : Rgn} (we wk : WE R) : WE R := fun ρ K => we ρ fun d ρ1 => wk ρ1 fun kd ρ2 => ∃ (k : Key) (ks : List Key) (vs : List D) (z : D), kd = kD k ∧ d = .dct (ks.map kD) vs ∧ valD ks vs k = some z ∧ K z ρ2
theorem de_dget (hr : Room j X.A) (ha : DE X c pa ba e we) (hb : DE X c pb bb e2 wk) (hs : ba = false ∨ pb = true := by first | exact .inl rfl | exact .inr rfl) (hi : NoSl e2 := by exact fun _ _ => rfl) : DE X c (pa && pb) false (.Subscript e e2 pos) (wDget we wk) :=
  ⟨(pe_dget (hu_of hr) ha.pe hb.pe hi).imp fun σ H Q ⟨ρ, F, O, Kk, S, w, k⟩ => ⟨ρ, F, O, _, S, w, fun x ρ1 v F1 H1 hk S1 fs1 ko1 g1 r1 => ⟨ρ1, F1, O, _, S1, hk, fun kd ρ2 u F2 H2 ⟨kk, ks, vs, z, ek, ed, hz, kz⟩ S2 fs2 ko2 g2 r2 => by
    subst ek
    subst ed
    have c1 : VRep c.K F2 σ ρ2.sl v _ ba := r1.carry fs2 (hs.imp id fun e => by rw [(g2 e).1])
    obtain ⟨q, kvs, rfl, h1, hks, r⟩ := (c1.bv S2).dct S2.sub
    have hks : ks = kvs.map (·.1) := kD_map (by rw [hks, List.map_map]; rfl)
    subst hks
    obtain ⟨y, hy, ry⟩ := valD_of kk r z hz
    refine ⟨q, y, rfl, .inl ⟨kvs, kk, .inl h1, (r2.bv S2).key, hy.symm⟩, ?_⟩
    refine k z ρ2 y F2 H2 kz S2 (fs1.trans fs2) (fun q hq => by rw [ko2 q hq, ko1 q hq]) (fun e => ?_) ry
    rw [Bool.and_eq_true] at e
    obtain ⟨e1, q1⟩ := g1 e.1
    obtain ⟨e2, q2⟩ := g2 e.2
    exact ⟨e2.trans e1, q1.trans q2⟩⟩⟩, ha.kk⟩
/-- list(x), x a dict -/
def keysD : D → Option D
  | .dct ks _ => some (.lst ks)
  | _ => none
theorem reps_keys {K : PySem.W.Frag} {F : Hp} : ∀ kvs : List (Key × V), Reps K F (kvs.map fun kv => kV kv.1) (kvs.map fun kv => kD kv.1)
  | [] => .nil
  | kv :: kvs => .cons (rep_key kv.1) (reps_keys kvs)
theorem keys_ok {K : PySem.W.Frag} : R1F K rListD keysD := fun {F H v x z Q} s bx hz k => by
  cases x <;> simp only [keysD, reduceCtorEq] at hz
  cases hz
  obtain ⟨p, kvs, rfl, h1, n, r⟩ := bx.dct s
  exact ⟨p, kvs, rfl, h1, fun l hl => k l _ hl (by rw [n]; exact reps_keys kvs)⟩
theorem fe_listK (hm : X.mg "list" = none) (ha : DE X c pa ba e we) (hc : X.calm = true := by rfl) (hg : Gl X "list" := by rfl)
    (he : starEach [e] X.env = (false, eval e X.env) :: starEach [] X.env := by rfl) (hpl : (backTo pos (starEach [] X.env)).any (·.1) = false := by rfl) : FE X c pa (.Call (.Name "list" p) [e] [] pos) (wUn keysD we) :=
  fe_t1 (call_list_dK hc) keys_ok hm ha hg (by decide +kernel) (by decide) (by decide) he hpl
/-- dict([(k, v), ..]) -/
def pairD : Key → D → D := fun k v => .tup [kD k, v]
def wDict {R : Rgn} (we : WE R) : WE R := fun ρ K => we ρ fun d ρ1 => ∃ (ks : List Key) (vs : List D), d = .lst (List.zipWith pairD ks vs) ∧ ks.length = vs.length ∧ ks.Nodup ∧ K (.dct (ks.map kD) vs) ρ1
theorem pairs_of {K : PySem.W.Frag} {F : Hp} : ∀ {us : List V} {ks : List Key} {vs : List D}, Reps K F us (List.zipWith pairD ks vs) → ks.length = vs.length → ∃ (ps : List Addr) (kvs : List (Key × V)), us = ps.map V.ref ∧ Paired (fun p kv => SqT K F p [kV kv.1, kv.2]) ps kvs ∧ kvs.map (·.1) = ks ∧ Reps K F (kvs.map (·.2)) vs
  | _, [], [], h, _ => by cases h; exact ⟨[], [], rfl, .nil, rfl, .nil⟩
  | _, [], _ :: _, _, h => by cases h
  | _, _ :: _, [], _, h => by cases h
  | _, k :: ks, v :: vs, h, e => by
    rw [List.zipWith_cons_cons] at h
    cases h with
    | cons r t =>
      cases r with
      | tup hs rr =>
        cases rr with
        | cons r1 rr =>
          cases rr with
          | cons r2 rr =>
            cases rr
            obtain ⟨ps, kvs, e1, h1, h2, h3⟩ := pairs_of t (by simpa using e)
            refine ⟨_ :: ps, (k, _) :: kvs, by rw [e1]; rfl, .cons ?_ h1, by rw [List.map_cons, h2], .cons r2 h3⟩
            have := r1.key
            subst this
            exact hs
theorem putK_fresh {kvs : List (Key × V)} {k : Key} {v : V} (h : k ∉ kvs.map (·.1)) : putK kvs k v = kvs ++ [(k, v)] := by
  unfold putK
  rw [any_key, if_neg (by simpa using h)]
theorem mergeK_nodup : ∀ {kvs acc : List (Key × V)}, ((acc ++ kvs).map (·.1)).Nodup → mergeK acc kvs = acc ++ kvs
  | [], acc, _ => by rw [List.append_nil]; rfl
  | (k, v) :: kvs, acc, h => by
    have hk : k ∉ acc.map (·.1) := fun m => by
      rw [List.map_append, List.map_cons] at h
      exact (List.nodup_append.mp h).2.2 k m k (by simp) rfl
    show mergeK (putK acc k v) kvs = acc ++ (k, v) :: kvs
    rw [putK_fresh hk, mergeK_nodup (by rw [List.append_assoc]; exact h), List.append_assoc]
    rfl
theorem Paired.impl {α β : Type} {P Q : α → β → Prop} (h : ∀ a b, P a b → Q a b) : ∀ {xs : List α} {ys : List β}, Paired P xs ys → Paired Q xs ys
  | _, _, .nil => .nil
  | _, _, .cons p t => .cons (h _ _ p) (Paired.impl h t)
theorem fe_dict (hm : X.mg "dict" = none) (ha : DE X c pa ba e we) (hc : X.calm = true := by rfl) (hg : Gl X "dict" := by rfl)
    (he : starEach [e] X.env = (false, eval e X.env) :: starEach [] X.env := by rfl) (hpl : (backTo pos (starEach [] X.env)).any (·.1) = false := by rfl) : FE X c pa (.Call (.Name "dict" p) [e] [] pos) (wDict we) :=
  ⟨(pe_callTy (call_dictP (X := X) hc) hg hm (by decide +kernel) (pa_cons ha.pe pa_nil he) (by decide) (by decide) he hpl).imp fun σ H Q ⟨ρ, F, O, Kk, S, w, k⟩ => ⟨ρ, F, O, _, S, w, fun d ρ1 v F1 H1 ⟨ks, vs, ed, hl, nd, hk⟩ S1 fs1 ko1 g1 r1 => by
    subst ed
    obtain ⟨a, us, rfl, h1, r⟩ := (r1.bv S1).lst S1.sub
    obtain ⟨ps, kvs, rfl, h2, h3, h4⟩ := pairs_of r hl
    rw [ha.kk]
    refine ⟨a, ps, kvs, rfl, SqL.of h1, Paired.impl (fun p kv q => SqT.same S1.sub q) h2, fun q hq => ?_⟩
    rw [mergeK_nodup (by rw [List.nil_append, h3]; exact nd), List.nil_append]
    exact k _ ρ1 q (.dK kvs) F1 H1 hk S1 fs1 ko1 g1 hq ⟨by rw [← h3, List.map_map]; rfl, h4⟩⟩, ha.kk⟩
/-! ### {k: v for ..} -/
def dcGo {R : Rgn} (g : WG R) (wt : WB R) (wk wv : WE R) (us : List Nat) (K : List Key → List D → DS R → Prop) : List D → List Key → List D → DS R → Prop
  | [], ks, vs, ρ => K ks vs ρ
  | d :: ds, ks, vs, ρ => g d ρ fun ρ2 => wt ρ2 fun b ρ3 => if b = true then wk ρ3 fun y ρ4 => wv ρ4 fun z ρ5 => ∃ k, y = kD k ∧ dcGo g wt wk wv us K ds (putKs ks k) (putVs ks vs k z) ⟨ρ5.g, wipeL ρ5.sl us⟩ else dcGo g wt wk wv us K ds ks vs ⟨ρ3.g, wipeL ρ3.sl us⟩
def wDc {R : Rgn} (wi : WI R) (g : WG R) (wt : WB R) (wk wv : WE R) (us : List Nat) : WE R := fun ρ K => wi ρ fun ds ρ1 => ds.length ≤ 100000 ∧ NoOwn ρ1.sl us ∧ dcGo g wt wk wv us (fun ks vs ρ2 => K (.dct (ks.map kD) vs) ⟨ρ2.g, backL ρ1.sl ρ2.sl us⟩) ds [] [] ⟨ρ1.g, wipeL ρ1.sl us⟩
theorem putKs_length (ks : List Key) (k : Key) : (putKs ks k).length ≤ ks.length + 1 := by unfold putKs; split <;> simp
theorem dc_ok {us : List Nat} {σ : L2.St} {H : Hp} {Q : VK} (h : liftF c false (wDc wi g wt wk wv us) σ H Q) (hv : ∀ i ∈ ts, i ∈ us) : tDc (liftI c wi) (liftG c ts g) (liftT c false wt) (liftE c pa false wk) (liftE c pb false wv) us σ H Q := by
  obtain ⟨ρ, F, O, Kk, S, w, k⟩ := h
  refine ⟨ρ, F, O, _, S, w, fun ds ρ1 F1 H1 J ⟨hz, no, hk⟩ S1 fs1 ko1 wk' L hD => ?_⟩
  have nDO : L ∉ O := fun m => (S1.out L m).2.2 hD
  refine ⟨fun i m H' => ∃ (F' : Hp) (ρ' : DS c.R) (kvs : List (Key × V)) (vs : List D), m = ds.length - i ∧ i ≤ ds.length ∧ St c F' (L :: O) (wipe σ us) ρ' H' ∧ Same F1 F' ∧ (∀ a ∈ O, H' a = H1 a) ∧ H' L = some (.dK kvs) ∧ Reps c.K F' (kvs.map (·.2)) vs ∧ kvs.length ≤ i ∧
    dcGo g wt wk wv us (fun ks vs ρ2 => Kk (.dct (ks.map kD) vs) ⟨ρ2.g, backL ρ1.sl ρ2.sl us⟩) (ds.drop i) (kvs.map (·.1)) vs ρ', ⟨ds.length, F1, ⟨ρ1.g, wipeL ρ1.sl us⟩, [], [], rfl, Nat.zero_le _, (S1.wiped us).protect hD, Same.refl _, fun a m => upd_ne fun z => nDO (by rw [← z]; exact m), upd_same, .nil, Nat.le_refl _, hk⟩, ?_⟩
  rintro i m H' ⟨F', ρ', kvs, vs, rfl, hi, S', fs', ko', hacc, rac, hla, hw⟩
  by_cases hlt : i < ds.length
  · obtain ⟨hgo, hy⟩ := wk'.go F' H' i fs' S'.sub hlt
    refine .inr ⟨hgo, fun H2 => ∃ (F2 : Hp) (ρ2 : DS c.R) (kvs2 : List (Key × V)) (vs2 : List D), St c F2 (L :: O) (wipe σ us) ρ2 H2 ∧ Same F1 F2 ∧ (∀ a ∈ O, H2 a = H1 a) ∧ H2 L = some (.dK kvs2) ∧ Reps c.K F2 (kvs2.map (·.2)) vs2 ∧ kvs2.length ≤ i + 1 ∧
      dcGo g wt wk wv us (fun ks vs ρ2 => Kk (.dct (ks.map kD) vs) ⟨ρ2.g, backL ρ1.sl ρ2.sl us⟩) (ds.drop (i + 1)) (kvs2.map (·.1)) vs2 ρ2, fun H2 ⟨F2, ρ2, kvs2, vs2, q1, q2, q3, q4, q5, q6, q7⟩ => ⟨ds.length - (i + 1), by omega, F2, ρ2, kvs2, vs2, rfl, hlt, q1, q2, q3, q4, q5, q6, q7⟩, fun x H2 y => ?_⟩
    obtain ⟨d, F2, hd, al, rp⟩ := hy x H2 y
    rw [List.drop_eq_getElem_cons hlt] at hw
    have e : d = ds[i] := by
      rw [List.getElem?_eq_getElem hlt] at hd
      exact (Option.some.inj hd).symm
    subst e
    have S2 := S'.grow (al.grow S'.sub)
    have fs2 : Same F1 F2 := fs'.trans (al.fs S'.sub)
    have k2 : ∀ a ∈ L :: O, H2 a = H' a := ko_al S' al
    refine ⟨ρ', F2, L :: O, _, ds[i], S2, rp, hw, fun ρ3 σ3 hk3 S3 w3 => ⟨?_, ρ3, F2, L :: O, _, S3, hk3, fun b ρ4 F4 H4 hk4 S4 fs4 ko4 _ => ?_⟩⟩
    · rw [w3 us hv, wipe_twice fun _ m => m]
    have w3' : wipe σ3 us = wipe σ us := by rw [w3 us hv, wipe_twice fun _ m => m]
    have a4 : H4 L = some (.dK kvs) := by rw [ko4 L (by simp), k2 L (by simp), hacc]
    have o4 : ∀ a ∈ O, H4 a = H1 a := fun a m => by rw [ko4 a (by simp [m]), k2 a (by simp [m]), ko' a m]
    have r4 := (rac.same (al.fs S'.sub)).same fs4
    cases b with
    | false =>
      rw [if_neg (by decide)] at hk4
      refine itF ?_
      exact ⟨F4, _, kvs, vs, by rw [← w3']; exact S4.wiped us, fs2.trans fs4, o4, a4, r4, Nat.le_succ_of_le hla, hk4⟩
    | true =>
      rw [if_pos rfl] at hk4
      refine itT ?_
      refine ⟨ρ4, F4, L :: O, _, S4, hk4, fun y ρ5 u F5 H5 hk5 S5 fs5 ko5 _ r5 => ⟨ρ5, F5, L :: O, _, S5, hk5, fun z ρ6 v F6 H6 ⟨kk, ek, hk6⟩ S6 fs6 ko6 _ r6 => ?_⟩⟩
      subst ek
      have r6 : Rep c.K F6 v z := r6
      refine ⟨kvs, kk, (r5.bv S5).key, by rw [ko6 L (by simp), ko5 L (by simp), a4], by have := big_line; omega, F6, _, putK kvs kk v, putVs (kvs.map (·.1)) vs kk z, ?_, fs2.trans (fs4.trans (fs5.trans fs6)), fun a m => ?_, upd_same, putK_vals kk r6 ((r4.same fs5).same fs6), ?_, by rw [putK_keys]; exact hk6⟩
      · rw [← w3']; exact (S6.writeO (by simp)).wiped us
      · rw [upd_ne (fun z => nDO (by rw [← z]; exact m)), ko6 a (by simp [m]), ko5 a (by simp [m]), o4 a m]
      · have h1 := congrArg List.length (putK_keys kk v kvs)
        have h2 := putKs_length (kvs.map (·.1)) kk
        rw [List.length_map] at h1 h2
        omega
  · have e : i = ds.length := by omega
    subst e
    rw [List.drop_length] at hw
    refine .inl ⟨wk'.stop F' H' fs' S'.sub, ?_⟩
    have S3 := S1.back no (S'.release nDO) fs'
    unfold dcGo at hw
    have := k (.dct ((kvs.map (fun x => x.1)).map kD) vs) ⟨ρ'.g, backL ρ1.sl ρ'.sl us⟩ L (.dK kvs) F' (gone H' L) hw S3 (fs1.trans fs') (fun a m => by rw [gone_ne (fun z => nDO (by rw [← z]; exact m)), ko' a m, ko1 a m]) (fun z => by cases z) gone_at ⟨by rw [List.map_map]; rfl, rac⟩
    rw [gone_upd hacc] at this
    exact this
theorem fe_dc {scope : Scope} {own : List (Str × Nat)} (hr : Room j X.A) (hN : X.N.Nodup) (hi : DI X c tg iter wi) (ok : BlkOk X.N X.env.scope scope own)
    (hg : ∀ (s : Shared) (H : Hp) (C : Addr) (cl : List (Str × Addr)) (fp : List Addr), DG (X.blk s H scope (compEnvC scope cl C X.env) fp) c tg ts g) (ht : ∀ (s : Shared) (H : Hp) (C : Addr) (cl : List (Str × Addr)) (fp : List Addr), DTs (X.blk s H scope (compEnvC scope cl C X.env) fp) c ifs wt)
    (he : ∀ (s : Shared) (H : Hp) (C : Addr) (cl : List (Str × Addr)) (fp : List Addr), DE (X.blk s H scope (compEnvC scope cl C X.env) fp) c pa false kx wk) (he2 : ∀ (s : Shared) (H : Hp) (C : Addr) (cl : List (Str × Addr)) (fp : List Addr), DE (X.blk s H scope (compEnvC scope cl C X.env) fp) c pb false vx wv)
    (hv : ∀ i ∈ ts, i ∈ own.map (·.2) := by decide) (hk : X.K = c.K := by rfl) (hc : X.calm = true := by rfl)
    (hs : ∀ x, foldedSetIterable iter X.env x = pure x := by intro _; rfl) : FE X c false (.DictComp kx vx [⟨tg, iter, ifs, 0⟩] scope pos) (wDc wi g wt wk wv (own.map (·.2))) :=
  ⟨(pe_dc hc hN hi.pi ok (fun s H C cl fp => (hg s H C cl fp).pg) (fun s H C cl fp => (ht s H C cl fp).pts) (fun s H C cl fp => (he s H C cl fp).pe) (fun s H C cl fp => (he2 s H C cl fp).pe) hs).imp fun σ H Q h => dc_ok h hv, hk⟩
end
end Q

set_option Elab.async false
set_option linter.all false
set_option maxRecDepth 100000
set_option maxHeartbeats 4000000
/-! own ==, !=, len of instances -/
namespace Q
open PySem PySem.Spec PyProof.Rows L2
section
open PySem.W
variable {prog : Program} {w : World} {A : Around} {E : Value → Shared → Prop} {s : Shared} {K : Frag} {x C L f : Addr} {h₀ : Heap} {m : Str → Option Value} {ox : Obj} {od : Option Obj} {name : Str} {b tb : Value}
theorem ifBound_B {M : Model} {B id : String} {args : List Value} {R : Option Value → Shared → Prop} (inK : K.In s.heap) (I : InstAt s.heap x ox C od) (found : findIn K (.ref C) name = some (some (.builtin id))) (S : Slot B name id)
    (h : wpAny M A (call (.builtin id) (.ref x :: args)) (fun v => R (some v)) E s) : wpAny M A (callSpecialIfBound? (.ref x) name args) R E s := by
  simp only [bindSpecialIfBound?, callSpecialIfBound?]
  refine wpAny_holding (wpAny_bind (wpAny_bind (wpAny_bind (I.type.here ((looks_findIn inK found).here ?_)))))
  simp only [S.bind]
  refine wpAny_bind ?_
  refine wpAny_askSetting ?_
  refine wpAny_ite ?_
  have ends : wpAny M A (call (.builtin id) ([.ref x] ++ args) >>= fun v => pure (some v)) R E s := wpAny_bind (wpAny_mono h (fun v s' h' => wpAny_pure h') fun _ _ h' => h')
  split
  · exact wpAny_bind (wpAny_pure (wpAny_pure ends))
  · exact wpAny_tryCatch (wpAny_bind (wpAny_pure (wpAny_pure ends)))
theorem ne_inst {R : Value → Shared → Prop} (room : A.units + 1 < cLine) (G : Fr h₀ L s.heap m) (X₀ : K.In h₀) (I : InstAt s.heap x ox C od) (tyb : Looks (model prog w) s.heap (typeOf b) tb) (nf : notFirst K C tb = true)
    (hne : findIn K (.ref C) "__ne__" = some (some (.builtin "object.__ne__"))) (found : findIn K (.ref C) "__eq__" = some (some (.ref f))) (hf : isFn K (.ref f) = true) (hm : mroIn K C (.type "object") = some true)
    (h : wpAny (model prog w) A.in1 (call (.ref f) [.ref x, b]) (fun v s' => ∃ k, v = .bool k ∧ R (.bool !k) s') E s) : wpAny (model prog w) A (richCompare .NotEq (.ref x) b) R E s := by
  have inK := X₀.keeps G.keep
  have inner : wpAny (model prog w) A.in1 (Builtin.«object.__ne__» ⟨[.ref x, b], []⟩) (fun fl s' => ∃ k, fl = .done (.ret (.bool k)) ∧ R (.bool k) s') E s := by
    unfold Builtin.«object.__ne__»; refine wpAny_bind (m := slotArgs "__ne__" 1 _) (wpAny_pure ?_)
    refine wpAny_bind (wpAny_cRoomFor room ?_)
    refine wpAny_bind (ifBound_K inK I found hf (wpAny_mono h (fun v s' hv => ?_) fun _ _ e => e))
    obtain ⟨k, rfl, told⟩ := hv
    refine wpAny_bind (wpAny_truthy_bool ?_)
    exact wpAny_pure ⟨_, rfl, told⟩
  have once : wpAny (model prog w) A (tryCompare (.ref x) "__ne__" b) (fun r s' => ∃ v, r = some v ∧ R v s') E s := by
    unfold tryCompare
    refine wpAny_bind (ifBound_B inK I hne PySem.F.cmp_object.ne (wpAny_call (codeAny_call_builtin PySem.F.cmp_object.ne.plain PySem.F.cmpEntry_ne (check_slot PySem.F.cmpKind_ne PySem.F.cmpSplit_ne (I.type.andThen (looks_mroIn inK hm)) (PySem.F.cmpArgs_ne _ _)
      (wpAny_mono inner (fun fl s' hv => ?_) fun _ _ e => e)))))
    obtain ⟨k, rfl, told⟩ := hv
    exact wpAny_pure ⟨_, rfl, told⟩
  unfold richCompare
  simp only [oneThing_ref]
  refine wpAny_holding (wpAny_bind (wpAny_cRoomFor (by omega) ?_))
  refine wpAny_bind (I.type.here (wpAny_bind (tyb.here ?_)))
  split
  · rename_i q
    have noSub : subIn K tb (.ref C) = some false := by
      rcases Bool.or_eq_true_iff.mp nf with is | is
      · rw [beq_iff_eq.mp is] at q; simp at q
      · exact beq_iff_eq.mp is
    refine wpAny_bind ((looks_subIn inK noSub).here ?_)
    simp only [if_false, Bool.false_eq_true]
    refine wpAny_bind ?_
    refine wpAny_mono once (fun r s1 z => ?_) fun _ _ q => q
    obtain ⟨v, rfl, told⟩ := z
    exact wpAny_pure told
  · refine wpAny_bind ?_; refine wpAny_pure ?_
    simp only [if_false, Bool.false_eq_true]
    refine wpAny_bind ?_
    refine wpAny_mono once (fun r s1 z => ?_) fun _ _ q => q
    obtain ⟨v, rfl, told⟩ := z
    exact wpAny_pure told
end
section
variable {X : Cx} {C g : Addr} {n : Nat} {sp : Sp}
def rOwnC (K : PySem.W.Frag) (C : Addr) (neg : Bool) (sp : Sp) : R2 := fun x y H Q => ∃ a dx fs t, x = .ref a ∧ H a = some (.ins C dx fs) ∧ TyX K H y t ∧ PySem.W.notFirst K C t = true ∧ sp [x, y] H (fun z H' => ∃ b, z = .bl b ∧ Q (.bl (xr neg b)) H') E0
theorem op_ownE (hs : PySem.W.findIn X.K (.ref C) "__eq__" = some (some (.ref g))) (hf : PySem.W.isFn X.K (.ref g) = true) (F : L2.FnR X.prog X.w X.K X.mg X.base CX0 n g sp) (hr : Room n X.A) : OpR X (compareOp .Eq) (rOwnC X.K C false sp) := by
  intro pn s σ H x y v u Q I rX rY h
  obtain ⟨a, dx, fs, t, rfl, ha, ty, hn, q⟩ := h
  have rX' := rX
  cases (show v = .ref a from rX)
  obtain ⟨attrs, J1, _⟩ := ins_get I.hok ha
  obtain ⟨od, J1, _⟩ := J1.look
  obtain ⟨P, kx, hp, _⟩ := kit_of I rY ty
  obtain ⟨m, hF⟩ := I.fr
  show wpAny (model X.prog X.w) X.A (richCompare .Eq (.ref a) u) (EP X pn σ Q) X.xe s
  refine PySem.W.cmp_K (op := .Eq) hr.units0 hF I.ok.mod.kin J1 (kx.ty _ _ I.kIn hp) hn hs hf ?_
  refine wpAny_mono (wpAny_call (run_fnR (us := [.ref a, u]) F hr pass0 I (.cons rX' (.cons rY .nil)) q)) (fun w s' z => ?_) fun _ _ x => x
  obtain ⟨z', H', I', rZ, b, rfl, qz⟩ := z
  exact SlX.cmpback rZ ⟨_, H', I', rZ, qz⟩
theorem op_ownN (hne : PySem.W.findIn X.K (.ref C) "__ne__" = some (some (.builtin "object.__ne__"))) (hs : PySem.W.findIn X.K (.ref C) "__eq__" = some (some (.ref g))) (hf : PySem.W.isFn X.K (.ref g) = true) (hm : PySem.W.mroIn X.K C (.type "object") = some true)
    (F : L2.FnR X.prog X.w X.K X.mg X.base CX0 n g sp) (hr : Room (n + 1) X.A) : OpR X (compareOp .NotEq) (rOwnC X.K C true sp) := by
  intro pn s σ H x y v u Q I rX rY h
  obtain ⟨a, dx, fs, t, rfl, ha, ty, hn, q⟩ := h
  have rX' := rX
  cases (show v = .ref a from rX)
  obtain ⟨attrs, J1, _⟩ := ins_get I.hok ha
  obtain ⟨od, J1, _⟩ := J1.look
  obtain ⟨P, kx, hp, _⟩ := kit_of I rY ty
  obtain ⟨m, hF⟩ := I.fr
  show wpAny (model X.prog X.w) X.A (richCompare .NotEq (.ref a) u) (EP X pn σ Q) X.xe s
  refine ne_inst (by have := hr.units; omega) hF I.ok.mod.kin J1 (kx.ty _ _ I.kIn hp) hn hne hs hf hm ?_
  refine wpAny_mono (wpAny_call (SlX.run_at (us := [.ref a, u]) F hr.in1 I.env0.in1 pass0 I (.cons rX' (.cons rY .nil)) q)) (fun w s' z => ?_) fun _ _ x => x
  obtain ⟨z', H', I', rZ, b, rfl, qz⟩ := z
  cases (show w = Value.bool b from rZ)
  exact ⟨b, rfl, .bl (!b), H', I', rfl, qz⟩
def rOwnL (C : Addr) (sp : Sp) : List V → Hp → VK → Prop := fun xs H Q => ∃ a dx fs, xs = [V.ref a] ∧ H a = some (.ins C dx fs) ∧ sp xs H (fun z H' => ∃ i : Int, z = .int i ∧ 0 ≤ i ∧ i < 2 ^ 63 ∧ Q (.int i) H') E0
theorem call_lenO (hs : PySem.W.findIn X.K (.ref C) "__len__" = some (some (.ref g))) (hf : PySem.W.isFn X.K (.ref g) = true) (F : L2.FnR X.prog X.w X.K X.mg X.base CX0 n g sp) (hr : Room (n + 1) X.A) : CallR X (.builtin "len") (rOwnL C sp) := by
  intro pn s σ H xs us Q I r h
  obtain ⟨a, dx, fs, rfl, atA, q⟩ := h
  have ha := atA
  obtain ⟨u, rfl, ru⟩ := r.one
  have ru' := ru
  cases (show u = .ref a from ru)
  obtain ⟨attrs, J1, _⟩ := ins_get I.hok ha
  obtain ⟨od, J1, _⟩ := J1.look
  obtain ⟨m, hF⟩ := I.fr
  refine PySem.W.len_K hF I.ok.mod.kin J1 hs hf ?_
  refine wpAny_mono (wpAny_call (SlX.run_at (us := [.ref a]) F hr.in1 I.env0.in1 pass0 I (.cons ru' .nil) q)) (fun w s' z => ?_) fun _ _ x => x
  obtain ⟨z', H', I', rZ, i, rfl, h0, h1, qz⟩ := z
  obtain ⟨t, e⟩ := (show ∃ tk, w = Value.int i tk from rZ)
  cases e
  exact ⟨⟨h0, h1⟩, .int i, H', I'.tok _, ⟨_, rfl⟩, qz⟩
end
end Q

set_option Elab.async false
set_option linter.all false
set_option maxRecDepth 100000
set_option maxHeartbeats 4000000
/-! names set side by side, *, pop, instances -/
namespace Q
open PySem PySem.Spec PyProof.Rows L2
section
variable {X : Cx} {c : Ctx} {fr : Bool} {e e2 a b d : Expr} {es : List Expr} {pos p : Pos} {pa pb pd ba bb : Bool} {we wa wb : WE c.R} {was : WA c.R} {j : Nat}
/-! ### x, y = a, b -/
def sPar2 {R : Rgn} (i k : Nat) (wa : WA R) : WS R := fun Dk ρ => wa ρ fun ds ρ1 => ∃ x y, ds = [x, y] ∧ Dk.nx ((ρ1.put i (some (.fz x))).put k (some (.fz y)))
theorem ds_par2 {i k : Nat} {x y : Str} {px py pt : Pos} {kt k2 pt2} (hN : X.N.Nodup) (hij : i ≠ k) (ha : DA X c pa [a, b] was) (hi : X.N[i]? = some x := by rfl) (hj : X.N[k]? = some y := by rfl)
    (hx : X.env.scope.names.lookup x = some .local := by rfl) (hy : X.env.scope.names.lookup y = some .local := by rfl) (hc : X.calm = true := by rfl)
    (hw : swappedStores [.Tuple [.Name x px, .Name y py] kt pt] (.Tuple [a, b] k2 pt2) X.env = pure (some [x, y]) := by rfl)
    (hs : swapsWithSole [.Tuple [.Name x px, .Name y py] kt pt] (.Tuple [a, b] k2 pt2) pos.line X.env = pure false := by rfl) :
    DS1 X c fr (.Assign [.Tuple [.Name x px, .Name y py] kt pt] (.Tuple [a, b] k2 pt2) pos) (sPar2 i k was) :=
  ⟨(ps_par hc hN hi hj hij hx hy ha.pa hw hs).imp fun E σ H ⟨ρ, F, Dk, S, w, k1, k2, k3, k4⟩ => ⟨ρ, F, [], _, S, w, fun ds ρ1 vs F1 H1 ⟨x, y, e, hk⟩ S1 fs1 ko1 g1 r1 => by
    subst e
    cases r1 with
    | cons r r1 =>
      cases r1 with
      | cons r' r1 =>
        cases r1
        exact ⟨_, _, rfl, k1 _ _ F1 H1 hk ((S1.setF r i).setF r' k) fs1⟩⟩⟩
def sPar3 {R : Rgn} (i k l : Nat) (wa : WA R) : WS R := fun Dk ρ => wa ρ fun ds ρ1 => ∃ x y z, ds = [x, y, z] ∧ Dk.nx (((ρ1.put i (some (.fz x))).put k (some (.fz y))).put l (some (.fz z)))
theorem ds_par3 {i k l : Nat} {x y z : Str} {px py pz pt : Pos} {kt k2 pt2} (hN : X.N.Nodup) (hij : i ≠ k ∧ i ≠ l ∧ k ≠ l) (ha : DA X c pa [a, b, d] was) (hi : X.N[i]? = some x := by rfl) (hj : X.N[k]? = some y := by rfl) (hl : X.N[l]? = some z := by rfl)
    (hx : X.env.scope.names.lookup x = some .local := by rfl) (hy : X.env.scope.names.lookup y = some .local := by rfl) (hz : X.env.scope.names.lookup z = some .local := by rfl) (hc : X.calm = true := by rfl)
    (hw : swappedStores [.Tuple [.Name x px, .Name y py, .Name z pz] kt pt] (.Tuple [a, b, d] k2 pt2) X.env = pure (some [x, y, z]) := by rfl)
    (hs : swapsWithSole [.Tuple [.Name x px, .Name y py, .Name z pz] kt pt] (.Tuple [a, b, d] k2 pt2) pos.line X.env = pure false := by rfl) :
    DS1 X c fr (.Assign [.Tuple [.Name x px, .Name y py, .Name z pz] kt pt] (.Tuple [a, b, d] k2 pt2) pos) (sPar3 i k l was) :=
  ⟨(ps_par3 hc hN hi hj hl hij.1 hij.2.1 hij.2.2 hx hy hz ha.pa hw hs).imp fun E σ H ⟨ρ, F, Dk, S, w, k1, k2, k3, k4⟩ => ⟨ρ, F, [], _, S, w, fun ds ρ1 vs F1 H1 ⟨x, y, z, e, hk⟩ S1 fs1 ko1 g1 r1 => by
    subst e
    cases r1 with
    | cons r r1 =>
      cases r1 with
      | cons r' r1 =>
        cases r1 with
        | cons r'' r1 =>
          cases r1
          exact ⟨_, _, _, rfl, k1 _ _ F1 H1 hk (((S1.setF r i).setF r' k).setF r'' l) fs1⟩⟩⟩
/-! ### * -/
def mulD : D → D → Option D
  | .int a, .int b => if -18446744073709551616 < b ∧ b < 18446744073709551616 then some (.int (a * b)) else none
  | .lst ds, .int k => if 0 ≤ k ∧ k ≤ 1000 ∧ ds.length ≤ 100 then some (.lst (List.replicate k.toNat ds).flatten) else none
  | .tup ds, .int k => if 2 ≤ k ∧ k ≤ 1000 ∧ ds ≠ [] ∧ ds.length ≤ 100 then some (.tup (List.replicate k.toNat ds).flatten) else none
  | _, _ => none
theorem Reps.rep {K : PySem.W.Frag} {F : Hp} {vs : List V} {ds : List D} (r : Reps K F vs ds) : ∀ n : Nat, Reps K F (List.replicate n vs).flatten (List.replicate n ds).flatten
  | 0 => .nil
  | n + 1 => by
    rw [List.replicate_succ, List.replicate_succ, List.flatten_cons, List.flatten_cons]
    exact r.append (Reps.rep r n)
def rMulA (K : PySem.W.Frag) : R2 := fun x y H Q => (rI CMul (fun i j => .int (i * j)) x y H Q ∨ rRep x y H Q) ∨ rRepT K x y H Q
theorem mul_ok {K : PySem.W.Frag} : R2D K (rMulA K) mulD := fun {F H v u x y z Q} s bx by' hz k => by
  cases x <;> cases y <;> simp only [mulD, reduceCtorEq] at hz
  case int.int a b =>
    split at hz
    · next h => cases hz; exact .inl (.inl ⟨a, b, bx.int, by'.int, .inr (by have e : (2 : Int) ^ 64 = 18446744073709551616 := by decide
                                                                            rw [e]; exact h), k _ F H .no (.int _)⟩)
    · cases hz
  case lst.int ds i =>
    split at hz
    · next h =>
      cases hz
      obtain ⟨p, vs, rfl, h1, r⟩ := bx.lst s
      have e : (2 : Int) ^ 63 = 9223372036854775808 := by decide
      refine .inl (.inr ⟨p, i, vs, rfl, by'.int, h1, by rw [e]; omega, by rw [e]; omega, ?_, fun l hl => k _ _ _ (Al.one hl) (.lst upd_same ((r.rep i.toNat).same (Same.upd_at s hl)))⟩)
      rw [r.length]
      have h1 : ds.length * i.toNat ≤ 100 * 1000 := Nat.mul_le_mul h.2.2 (by omega)
      exact Nat.le_trans h1 big_line
    · cases hz
  case tup.int ds i =>
    split at hz
    · next h =>
      cases hz
      obtain ⟨p, vs, rfl, h1, r⟩ := bx.tup s
      exact .inr ⟨p, i, vs, rfl, by'.int, h1, fun e => by subst e; cases r; exact h.2.2.1 rfl, h.1, h.2.1, by rw [r.length]; omega, fun l hl => k _ _ _ (Al.one hl) (.tup (SqT.of upd_same) ((r.rep i.toNat).same (Same.upd_at s hl)))⟩
    · cases hz
theorem de_mul (ha : DE X c pa ba a wa) (hb : DE X c pb bb b wb) (hs : ba = false ∨ pb = true := by first | exact .inl rfl | exact .inr rfl) : DE X c (pa && pb) false (.BinOp a .Mult b pos) (wOp mulD wa wb) :=
  de_op (((op_mul (X := X)).or op_rep).or op_repT) (by rw [ha.kk]; exact mul_ok) ha hb hs
@[simp] theorem mu_int (a b : Int) : mulD (.int a) (.int b) = if -18446744073709551616 < b ∧ b < 18446744073709551616 then some (.int (a * b)) else none := rfl
@[simp] theorem mu_lst (a : List D) (k : Int) : mulD (.lst a) (.int k) = if 0 ≤ k ∧ k ≤ 1000 ∧ a.length ≤ 100 then some (.lst (List.replicate k.toNat a).flatten) else none := rfl
@[simp] theorem mu_tup (a : List D) (k : Int) : mulD (.tup a) (.int k) = if 2 ≤ k ∧ k ≤ 1000 ∧ a ≠ [] ∧ a.length ≤ 100 then some (.tup (List.replicate k.toNat a).flatten) else none := rfl
/-! ### x.pop(k), x a list of the def's own -/
def wPop {R : Rgn} (i : Nat) (we : WE R) : WE R := fun ρ K => (∃ ds, ρ.sl[i]? = some (some (.own (.lst ds)))) ∧ we ρ fun d ρ1 => ∃ (ds : List D) (n : Nat) (y : D), d = .int (n : Int) ∧ ρ1.sl[i]? = some (some (.own (.lst ds))) ∧ ds[n]? = some y ∧ ds.length ≤ 100000 ∧ K y (ρ1.put i (some (.own (.lst (ds.eraseIdx n)))))
theorem de_pop {i : Nat} {x : Str} {ep pp qp : Pos} (he : DE X c pa ba e we) (hN : X.N[i]? = some x := by rfl) (hv : Vis X.env.scope x := by first | exact .inl rfl | exact .inr (.inl rfl) | exact .inr (.inr rfl))
    (hd : (x == ("__debug__" : Str)) = false := by decide) (hcd : (x == ("__classdict__" : Str)) = false := by decide)
    (hbase : attributeBase (.Name x pp) "pop" X.env (eval (.Name x pp) X.env) = eval (.Name x pp) X.env := by rfl)
    (hfew : ((backTo ep (starEach [e] X.env)).all (fun x => !x.1) && (backToKw ep (keywordEach [] X.env)).all (fun x => x.1.isSome) && decide (([e] : List Expr).length + ([] : List Keyword).length + (if ([] : List Keyword).isEmpty then 0 else 1) < 30)) = true := by rfl)
    (hline : (qp.endLine == ep.line) = true := by rfl) (hst : starEach [e] X.env = (false, eval e X.env) :: starEach [] X.env := by rfl) (hplain : (backTo ep (starEach [] X.env)).any (·.1) = false := by rfl) :
    DE X c false false (.Call (.Attribute (.Name x pp) "pop" qp) [e] [] ep) (wPop i we) :=
  ⟨(pe_bm PySem.F.plainAttrs_list PySem.F.slot_list_pop PySem.F.type_list_pop mt_popAt (pe_var hN hv hd hcd) (pa_cons he.pe pa_nil hst) hbase hfew hline hst hplain).imp fun σ H Q ⟨ρ, F, O, Kk, S, ⟨⟨ds0, h0⟩, w⟩, k⟩ => by
    obtain ⟨q, hq, vs0, hvs0, _⟩ := own_at S h0
    refine ⟨.ref q, hq, .inl ⟨rfl, vs0, SqL.of hvs0⟩, ρ, F, O, _, S, w, fun d ρ1 v F1 H1 ⟨ds, n, y, ed, h2, hy, hz, hk⟩ S1 fs1 ko1 g1 r1 => ?_⟩
    subst ed
    obtain ⟨q', hq', vs, hvs, rv⟩ := own_at S1 h2
    rw [hq] at hq'
    cases hq'
    obtain ⟨z, hz1, rz⟩ := rv.get' hy
    have hn : n < vs.length := (List.getElem?_eq_some_iff.mp hz1).1
    have hvl := rv.length
    have e1 : (2 : Int) ^ 63 = 9223372036854775808 := by decide
    refine ⟨q, vs, (n : Int), n, z, rfl, by rw [(r1.bv S1).int], hvs, by rw [e1]; omega, by rw [e1]; omega, ?_, hz1, ?_⟩
    · unfold seqIndex?
      have : ¬ ((n : Int) < 0) := by omega
      simp [this, hn]
    · exact k y _ z F1 _ hk (S1.write hq h2 (o := .lst (vs.eraseIdx n)) (rv.erase n)) fs1 (fun a ha => by
        obtain ⟨m1, m2, m3⟩ := S1.mine i q ⟨hq, _, h2⟩
        rw [upd_ne (fun z => m3 (by rw [← z]; exact ha))]
        exact ko1 a ha) (fun z => by cases z) rz, he.kk⟩
/-! ### instances -/
def lookD : List Str → List D → Str → Option D
  | n :: ns, x :: xs, f => if f == n then some x else lookD ns xs f
  | _, _, _ => none
theorem lookD_of {K : PySem.W.Frag} {F : Hp} (f : Str) : ∀ {fs : List (Str × V)} {xs : List D}, Reps K F (fs.map (·.2)) xs → ∀ d, lookD (fs.map (·.1)) xs f = some d → ∃ v, fs.lookup f = some v ∧ Rep K F v d
  | [], _, _, d, h => by simp [lookD] at h
  | (n, v) :: fs, _, .cons r t, d, h => by
    rw [List.map_cons] at h
    unfold lookD at h
    rw [List.lookup_cons]
    cases e : f == n with
    | true => rw [e] at h; cases h; exact ⟨_, rfl, r⟩
    | false => rw [e] at h; exact lookD_of f t d h
/-- e.f -/
def wFld {R : Rgn} (C : Addr) (f : Str) (we : WE R) : WE R := fun ρ K => we ρ fun d ρ1 => ∃ ns xs z, d = .ins C ns xs ∧ lookD ns xs f = some z ∧ K z ρ1
theorem de_fld {C : Addr} {f : Str} (hC : Cls c.K C) (hn : NoAttr c.K C f) (he : DE X c pa ba e we) (hb : attributeBase e f X.env (eval e X.env) = eval e X.env := by rfl) : DE X c pa false (.Attribute e f pos) (wFld C f we) :=
  ⟨(pe_fld he.pe hb).imp fun σ H Q ⟨ρ, F, O, Kk, S, w, k⟩ => ⟨ρ, F, O, _, S, w, fun d ρ1 v F1 H1 ⟨ns, xs, z, ed, hz, hk⟩ S1 fs1 ko1 g1 r1 => by
    subst ed
    obtain ⟨a, dx, fs, rfl, h1, e1, r⟩ := (r1.bv S1).ins S1.sub
    subst e1
    obtain ⟨v, hv, rv⟩ := lookD_of f r z hz
    rw [he.kk]
    exact ⟨a, C, dx, fs, v, rfl, h1, hC, hn, hv, k z ρ1 v F1 H1 hk S1 fs1 ko1 g1 rv⟩⟩, he.kk⟩
/-- what is asked of a class for isinstance, ==, != and len -/
structure IsC (K : PySem.W.Frag) (C : Addr) : Prop where
  cls : Cls K C
  ha : PySem.W.findIn K (.ref C) "__class__" = some (some (.builtin "object.__class__"))
  hn : PySem.W.specialIn K (.builtin "object.__class__") "__get__" = some (some (.builtin "getset_descriptor.__get__"))
  ht : PySem.W.takesIn K (.builtin "object.__class__") = some true
  hm : PySem.W.mroIn K C (.type "object") = some true
  it : ∀ t : Ty, PySem.W.kitOne K (.type t.nm) (.ref C) = some false
  nf : ∀ t : Ty, PySem.W.notFirst K C (.type t.nm) = true
theorem IsC.self {K : PySem.W.Frag} {C : Addr} : PySem.W.kitOne K (.ref C) (.ref C) = some true := by
  unfold PySem.W.kitOne
  rw [if_pos (by simp)]
theorem IsC.selfN {K : PySem.W.Frag} {C : Addr} : PySem.W.notFirst K C (.ref C) = true := by simp [PySem.W.notFirst]
def isCD (C : Addr) : D → Option D
  | .ins C' _ _ => if C' = C then some (.bl true) else none
  | x => (kD2 x).map fun _ => .bl false
theorem tyC_of {K : PySem.W.Frag} {F H : Hp} {v : V} {C : Addr} {ns : List Str} {xs : List D} (I : IsC K C) (s : Same F H) (h : BV K F H v (.ins C ns xs)) : TyX K H v (.ref C) := by
  obtain ⟨a, dx, fs, rfl, h1, _⟩ := h.ins s
  exact .base (.ins h1 I.cls I.ha I.hn I.ht I.hm)
theorem isC_cases {C : Addr} {x z : D} (h : isCD C x = some z) : (∃ ns xs, x = .ins C ns xs ∧ z = .bl true) ∨ ∃ t, kD2 x = some t ∧ z = .bl false := by
  cases x <;> simp only [isCD, Option.map_eq_some_iff] at h
  case ins C' ns xs =>
    split at h
    · next e => cases h; subst e; exact .inl ⟨ns, xs, rfl, rfl⟩
    · cases h
  all_goals (obtain ⟨t, h1, h2⟩ := h; exact .inr ⟨t, h1, h2.symm⟩)
theorem de_isC {x : Str} {C : Addr} {p2 : Pos} (hm : X.mg "isinstance" = none) (hC : X.mg x = some (.ref C)) (I : IsC c.K C) (he : DE X c pa ba e we) (hg : Gl X "isinstance" := by rfl) (hgx : Gl X x := by rfl) (hdb : (x == ("__debug__" : Str)) = false := by decide)
    (he1 : starEach [e, .Name x p2] X.env = (false, eval e X.env) :: starEach [.Name x p2] X.env := by rfl) (he2 : starEach [.Name x p2] X.env = (false, eval (.Name x p2) X.env) :: starEach [] X.env := by rfl)
    (hpl : (backTo pos (starEach [.Name x p2] X.env)).any (·.1) = false := by rfl) : DE X c pa false (.Call (.Name "isinstance" p) [e, .Name x p2] [] pos) (wUn (isCD C) we) :=
  ⟨(pe_callB (call_isi (X := X)) hg hm (by decide +kernel) (pa_cons he.pe (pa_cons (pe_glob hgx hC (v := .ref C) rfl hdb) pa_nil he2) he1) (by decide) (by decide) he1 hpl).imp fun σ H Q ⟨ρ, F, O, Kk, S, w, k⟩ => ⟨ρ, F, O, _, S, w, fun x ρ1 v F1 H1 ⟨z, hz, hk⟩ S1 fs1 ko1 g1 r1 => by
    rw [he.kk]
    rcases isC_cases hz with ⟨ns, xs, rfl, rfl⟩ | ⟨t, ht, rfl⟩
    · exact ⟨v, _, _, _, _, rfl, .own _, tyC_of I S1.sub (r1.bv S1), IsC.self, k _ ρ1 _ F1 H1 hk S1 fs1 ko1 g1 (.bl _)⟩
    · exact ⟨v, _, _, _, _, rfl, .own _, ty_of2 S1.sub (r1.bv S1) ht, I.it t, k _ ρ1 _ F1 H1 hk S1 fs1 ko1 g1 (.bl _)⟩⟩, he.kk⟩
/-- x == y, x != y by an own == -/
structure OwnEq (X : Cx) (C : Addr) (n : Nat) (m : WM) : Prop where
  ex : ∃ g, PySem.W.findIn X.K (.ref C) "__eq__" = some (some (.ref g)) ∧ PySem.W.isFn X.K (.ref g) = true ∧ L2.FnR X.prog X.w X.K X.mg X.base CX0 n g (spD X.K m)
  ne : PySem.W.findIn X.K (.ref C) "__ne__" = some (some (.builtin "object.__ne__"))
def wOwnE {R : Rgn} (C : Addr) (neg : Bool) (m : WM) (wa wb : WE R) : WE R := fun ρ K => wa ρ fun x ρ1 => wb ρ1 fun y ρ2 => (∃ ns xs, x = .ins C ns xs) ∧ ((∃ ns xs, y = .ins C ns xs) ∨ ∃ t, kD2 y = some t) ∧ m [x, y] fun d => ∃ b, d = .bl b ∧ K (.bl (xr neg b)) ρ2
theorem ownE_ok {C : Addr} {neg : Bool} {m : WM} (I : IsC c.K C) (ha : DE X c pa false a wa) (hb : DE X c pb false b wb) {σ : L2.St} {H : Hp} {Q : VK} (h : liftE c (pa && pb) false (wOwnE C neg m wa wb) σ H Q) :
    tOp (rOwnC c.K C neg (spD c.K m)) (liftE c pa false wa) (liftE c pb false wb) σ H Q := by
  obtain ⟨ρ, F, O, Kk, S, w, k⟩ := h
  refine ⟨ρ, F, O, _, S, w, fun x ρ1 v F1 H1 hk S1 fs1 ko1 g1 r1 => ⟨ρ1, F1, O, _, S1, hk, fun y ρ2 u F2 H2 ⟨⟨ns, xs, ex⟩, hy, hm⟩ S2 fs2 ko2 g2 r2 => ?_⟩⟩
  subst ex
  have r1' : Rep c.K F2 v (.ins C ns xs) := Rep.same fs2 r1
  obtain ⟨a, dx, fs, rfl, h1, _⟩ := (BV.rep r1' : BV c.K F2 H2 v _).ins S2.sub
  have r2' : Rep c.K F2 u y := r2
  have ty : ∃ t, TyX c.K H2 u t ∧ PySem.W.notFirst c.K C t = true := by
    rcases hy with ⟨ns', xs', rfl⟩ | ⟨t, ht⟩
    · exact ⟨_, tyC_of I S2.sub (r2.bv S2), IsC.selfN⟩
    · exact ⟨_, ty_of2 S2.sub (r2.bv S2) ht, I.nf t⟩
  obtain ⟨t, ty, hnf⟩ := ty
  refine ⟨a, dx, fs, t, rfl, h1, ty, hnf, _, F2, _, S2.sub, .cons r1' (.cons r2' .nil), hm, fun d v' F' H' ⟨b, ed, hk⟩ gr rp => ?_⟩
  subst ed
  cases rp
  refine ⟨b, rfl, k _ ρ2 _ F' H' hk (S2.grow gr) (fs1.trans (fs2.trans gr.fs)) (fun q hq => by rw [gr.at (S2.out q hq).2.2, ko2 q hq, ko1 q hq]) (fun e => ?_) (.bl _)⟩
  rw [Bool.and_eq_true] at e
  obtain ⟨e1, q1⟩ := g1 e.1
  obtain ⟨e2, q2⟩ := g2 e.2
  exact ⟨e2.trans e1, q1.trans (q2.trans gr)⟩
theorem de_ownE {C : Addr} {m : WM} {n : Nat} (I : IsC c.K C) (O : OwnEq X C n m) (hr : Room j X.A) (ha : DE X c pa false a wa) (hb : DE X c pb false b wb) (hj : n ≤ j := by decide) (hm : behindInMarks .Eq b = false := by rfl) : DE X c (pa && pb) false (.Compare a [.Eq] [b] pos) (wOwnE C false m wa wb) := by
  obtain ⟨g, h1, h2, F⟩ := O.ex
  exact ⟨(pe_cmpR (op_ownE h1 h2 F (hr.mono hj)) ha.pe hb.pe hm).imp fun σ H Q h => by rw [ha.kk]; exact ownE_ok I ha hb h, ha.kk⟩
theorem de_ownN {C : Addr} {m : WM} {n : Nat} (I : IsC c.K C) (O : OwnEq X C n m) (hr : Room j X.A) (ha : DE X c pa false a wa) (hb : DE X c pb false b wb) (hj : n + 1 ≤ j := by decide) (hm : behindInMarks .NotEq b = false := by rfl) : DE X c (pa && pb) false (.Compare a [.NotEq] [b] pos) (wOwnE C true m wa wb) := by
  obtain ⟨g, h1, h2, F⟩ := O.ex
  exact ⟨(pe_cmpR (op_ownN O.ne h1 h2 (by rw [ha.kk]; exact I.hm) F (hr.mono hj)) ha.pe hb.pe hm).imp fun σ H Q h => by rw [ha.kk]; exact ownE_ok I ha hb h, ha.kk⟩
/-- a test by what answers a truth -/
theorem dt_of {e : Expr} {w : WE c.R} (h : DE X c pa ba e w) (he : ∀ whole, isTrue e X.env whole = (do let v ← whole; standAt e.pos; holding [v] (truthy v)) := by intro _; rfl) : DT X c pa e (wTest w) := dt_val h he
/-- len(x) by an own len -/
structure OwnLen (X : Cx) (C : Addr) (n : Nat) (m : WM) : Prop where
  ex : ∃ g, PySem.W.findIn X.K (.ref C) "__len__" = some (some (.ref g)) ∧ PySem.W.isFn X.K (.ref g) = true ∧ L2.FnR X.prog X.w X.K X.mg X.base CX0 n g (spD X.K m)
def wOwnL {R : Rgn} (C : Addr) (m : WM) (we : WE R) : WE R := fun ρ K => we ρ fun x ρ1 => (∃ ns xs, x = .ins C ns xs) ∧ m [x] fun d => ∃ i : Int, d = .int i ∧ 0 ≤ i ∧ i ≤ 1000000 ∧ K (.int i) ρ1
theorem de_lenO {C : Addr} {m : WM} {n : Nat} (hm : X.mg "len" = none) (L : OwnLen X C n m) (hr : Room j X.A) (he : DE X c pa false e we) (hj : n + 1 ≤ j := by decide) (hg : Gl X "len" := by rfl)
    (he1 : starEach [e] X.env = (false, eval e X.env) :: starEach [] X.env := by rfl) (hpl : (backTo pos (starEach [] X.env)).any (·.1) = false := by rfl) : DE X c pa false (.Call (.Name "len" p) [e] [] pos) (wOwnL C m we) := by
  obtain ⟨g, h1, h2, F⟩ := L.ex
  exact ⟨(pe_callB (call_lenO h1 h2 F (hr.mono hj)) hg hm (by decide +kernel) (pa_cons he.pe pa_nil he1) (by decide) (by decide) he1 hpl).imp fun σ H Q ⟨ρ, F, O, Kk, S, w, k⟩ => ⟨ρ, F, O, _, S, w, fun x ρ1 v F1 H1 ⟨⟨ns, xs, ex⟩, hm⟩ S1 fs1 ko1 g1 r1 => by
    subst ex
    have r1' : Rep c.K F1 v (.ins C ns xs) := r1
    obtain ⟨a, dx, fs, rfl, ha, _⟩ := (r1.bv S1).ins S1.sub
    refine ⟨a, dx, fs, rfl, ha, ?_⟩
    rw [he.kk]
    refine ⟨_, F1, _, S1.sub, .cons r1' .nil, hm, fun d v' F' H' ⟨i, ed, i0, i1, hk⟩ gr rp => ?_⟩
    subst ed
    cases rp
    have e1 : (2 : Int) ^ 63 = 9223372036854775808 := by decide
    exact ⟨i, rfl, i0, by rw [e1]; omega, k _ ρ1 _ F' H' hk (S1.grow gr) (fs1.trans gr.fs) (fun q hq => by rw [gr.at (S1.out q hq).2.2, ko1 q hq]) (fun e => ⟨(g1 e).1, (g1 e).2.trans gr⟩) (.int _)⟩⟩, he.kk⟩
end
end Q

set_option Elab.async false
set_option linter.all false
set_option maxRecDepth 100000
set_option maxHeartbeats 4000000
/-! errors that leave a def -/
namespace Q
open PySem PySem.Spec PyProof.Rows L2
/-- what is wanted of an error: its class, its fields -/
abbrev XW := Addr → List Str → List D → Prop
abbrev WMX := List D → (D → Prop) → XW → Prop
/-- an error's fields, as they lie in the heap behind it -/
structure XdAt (K : PySem.W.Frag) (F' H H' : Hp) (dx : Addr) (ns : List Str) (xs : List D) : Prop where
  f0 : F' dx = none
  h0 : H dx = none
  at_ : ∃ fs : List (Str × V), H' dx = some (.xd fs) ∧ ns = fs.map (·.1) ∧ Reps K F' (fs.map (·.2)) xs
def spX (K : PySem.W.Frag) (m : WMX) : Sp := fun vs H Q E => ∃ (ds : List D) (F : Hp) (Kk : D → Prop) (Xk : XW), Same F H ∧ Reps K F vs ds ∧ m ds Kk Xk ∧ (∀ d v F' H', Kk d → Grow F H F' H' → Rep K F' v d → Q v H') ∧
  ∀ C ns xs F' H' dx, Xk C ns xs → Grow F H F' H' → XdAt K F' H H' dx ns xs → E (.ref C) (some dx) H'
def XFit (c : Ctx) (E : XK) (Xk : XW) : Prop := ∀ C ns xs (g : c.R.G) F' H' dx, Xk C ns xs → Fin c F' H' g → XdAt c.K F' c.H0 H' dx ns xs → E (.ref C) (some dx) H'
def XNo : XW := fun _ _ _ => False
theorem xfit_no {c : Ctx} {E : XK} : XFit c E XNo := fun _ _ _ _ _ _ _ h => h.elim
theorem St.dead {c : Ctx} {F H : Hp} {O : List Addr} {σ : L2.St} {ρ : DS c.R} (S : St c F O σ ρ H) {p : Addr} (hp : H p = none) : c.H0 p = none := by
  cases e : c.H0 p with
  | none => rfl
  | some u => exact absurd hp (S.live p (by rw [e]; exact fun z => by cases z))
/-- a def of the text that may let errors out -/
structure CalX (P : Program) (w : World) (K : PySem.W.Frag) (mg : Str → Option Value) (base : Heap) (x : Str) (k : Nat) (ps : List Str) (sp : Sp) : Prop where
  ex : ∃ (f : Addr) (fd : FuncData), mg x = some (.ref f) ∧ PySem.W.keepIn K (.ref f) = true ∧ FnOk P w K mg base (L2.CX P w) k f fd ps sp ∧ Binds K fd ps []
theorem passF {X : Cx} : Passes (L2.CX X.prog X.w) X (fun _ _ _ => False) := fun _ _ _ _ _ _ _ ⟨_, _, _, _, _, _, _, _, _, _, _, _, h⟩ => h.elim
section
variable {X : Cx} {c : Ctx} {fr : Bool} {e : Expr} {es : List Expr} {pos p : Pos} {pa : Bool} {wa : WA c.R} {j k : Nat} {x : Str} {ps : List Str} {E : XK} {Xk : XW}
def wCallX {R : Rgn} (Xk : XW) (m : WMX) (wa : WA R) : WE R := fun ρ K => wa ρ fun ds ρ1 => m ds (fun d => K d ρ1) Xk
theorem de_callX {m : WMX} (C : CalX X.prog X.w X.K X.mg X.base x k ps (spX c.K m)) (hx : Passes (L2.CX X.prog X.w) X E) (fit : XFit c E Xk) (hr : Room j X.A) (ha : DA X c pa (e :: es) wa) (hj : k ≤ j := by decide) (hk : X.K = c.K := by rfl) (hg : Gl X x := by rfl) (hdb : (x == ("__debug__" : Str)) = false := by decide)
    (he : starEach (e :: es) X.env = (false, eval e X.env) :: starEach es X.env := by rfl) (hpl : (backTo pos (starEach es X.env)).any (·.1) = false := by rfl) : DE X c pa false (.Call (.Name x p) (e :: es) [] pos) (wCallX Xk m wa) := by
  obtain ⟨f, fd, hm, hkp, G, hb⟩ := C.ex
  exact ⟨(pe_call G (hr.mono hj) hg hm hkp hb .nil hx ha.pa hdb he hpl).imp fun σ H Q ⟨ρ, F, O, Kk, S, w, kk⟩ => ⟨ρ, F, O, _, S, w, fun ds ρ1 vs F1 H1 hw S1 fs1 ko1 g1 r1 => ⟨ds, F1, _, Xk, S1.sub, by rw [app_nil]; exact r1, hw, fun d v F' H' hd gr rp =>
    kk d ρ1 v F' H' hd (S1.grow gr) (fs1.trans gr.fs) (fun q hq => by rw [gr.at (S1.out q hq).2.2]; exact ko1 q hq) (fun e => ⟨(g1 e).1, (g1 e).2.trans gr⟩) rp,
    fun C ns xs F' H' dx hX gr ⟨x0, x1, x2⟩ => fit C ns xs ρ1.g F' H' dx hX (S1.grow gr).fin ⟨x0, S1.dead x1, x2⟩⟩⟩, hk⟩
/-! ### raise -/
/-- an error class of the text: its fields, in the order in which it is told -/
structure ExCl (P : Program) (w : World) (K : PySem.W.Frag) (mg : Str → Option Value) (base : Heap) (x : Str) (C : Addr) (k : Nat) (ns : List Str) : Prop where
  cls : OexC K C
  at_ : mg x = some (.ref C)
  ex : ∃ (fI : Addr) (fd : FuncData) (ps : List Str) (sp : Sp), PySem.W.findIn K (.ref C) "__init__" = some (some (.ref fI)) ∧ PySem.W.typeIn K (.ref fI) = some (.type "function") ∧ FnOk P w K mg base CX0 k fI fd ps sp ∧ Binds K fd ps [] ∧
    ∀ (a : Addr) (us : List V) (H : Hp) (Q : VK), us.length = ns.length → H a = some (exo a C none) → (∀ d, H d = none → d ≠ a → Q .non (upd (upd H d (exd d (List.zip ns us).reverse)) a (exo a C (some d)))) → sp (.ref a :: us) H Q (fun _ _ _ => False)
def sRaise {R : Rgn} (Xk : XW) (C : Addr) (ns : List Str) (wa : WA R) : WS R := fun _ ρ => wa ρ fun xs _ => xs.length = ns.length ∧ Xk C ns.reverse xs.reverse
theorem zip_fst {α β : Type} : ∀ {xs : List α} {ys : List β}, ys.length = xs.length → (List.zip xs ys).map (·.1) = xs
  | [], [], _ => rfl
  | [], _ :: _, h => by simp at h
  | _ :: _, [], h => by simp at h
  | x :: xs, y :: ys, h => by rw [List.zip_cons_cons, List.map_cons, zip_fst (by simpa using h)]
theorem zip_snd {α β : Type} : ∀ {xs : List α} {ys : List β}, ys.length = xs.length → (List.zip xs ys).map (·.2) = ys
  | [], [], _ => rfl
  | [], _ :: _, h => by simp at h
  | _ :: _, [], h => by simp at h
  | x :: xs, y :: ys, h => by rw [List.zip_cons_cons, List.map_cons, zip_snd (by simpa using h)]
theorem ds_raise {C : Addr} {ns : List Str} {pos' : Pos} (T : ExCl X.prog X.w X.K X.mg X.base x C k ns) (tk : Takes X (fun cls d _ H => E cls d H)) (fit : XFit c E Xk) (hr : Room (k + 1) X.A) (ha : DA X c pa (e :: es) wa) (hn : ns.length ≤ 10 := by decide) (hk : X.K = c.K := by rfl) (hc : X.calm = true := by rfl) (hg : Gl X x := by rfl) (hdb : (x == ("__debug__" : Str)) = false := by decide)
    (he : starEach (e :: es) X.env = (false, eval e X.env) :: starEach es X.env := by rfl) (hpl : (backTo pos (starEach es X.env)).any (·.1) = false := by rfl) : DS1 X c fr (.Raise (some (.Call (.Name x p) (e :: es) [] pos)) none pos') (sRaise Xk C ns wa) := by
  obtain ⟨fI, fd, ps, sp, h1, h2, G, hb, hsp⟩ := T.ex
  refine ⟨(ps_raise hc tk (pmk_oex T.cls h1 h2 G hr hb .nil pass0 hg T.at_ ha.pa hdb he hpl)).imp fun E' σ H ⟨ρ, F, Dk, S, w, _⟩ => ?_⟩
  refine ⟨ρ, F, [], _, S, w, fun xs ρ1 vs F1 H1 ⟨hl, hX⟩ S1 fs1 ko1 g1 r1 => ⟨by rw [r1.length, hl]; omega, fun a ha => ?_⟩⟩
  rw [List.append_nil]
  have hvl : vs.length = ns.length := by rw [r1.length, hl]
  refine hsp a vs _ _ hvl upd_same fun d hd nd => ⟨rfl, d, (List.zip ns vs).reverse, upd_same, by rw [upd_ne nd, upd_same], by rw [upd_ne nd] at hd; exact hd, ?_⟩
  have hd1 : H1 d = none := by rw [upd_ne nd] at hd; exact hd
  have e1 : upd (L2.del (upd (upd (upd H1 a (exo a C none)) d (exd d (List.zip ns vs).reverse)) a (exo a C (some d))) a) d (.xd (List.zip ns vs).reverse) = upd H1 d (.xd (List.zip ns vs).reverse) := by
    funext b
    by_cases z : b = d
    · rw [z, upd_same, upd_same]
    · rw [upd_ne z, upd_ne z]
      by_cases y : b = a
      · rw [y, L2.del_same, ha]
      · rw [L2.del_ne y, upd_ne y, upd_ne z, upd_ne y]
  rw [e1]
  have hF : F1 d = none := by
    cases q : F1 d with
    | none => rfl
    | some u => rw [S1.sub _ _ q] at hd1; cases hd1
  have gr : Grow F1 H1 F1 (upd H1 d (.xd (List.zip ns vs).reverse)) := ⟨Same.refl _, fun b u q => by rw [upd_ne (fun z => by rw [z, hF] at q; cases q)]; exact S1.sub _ _ q, fun b u q => by rw [upd_ne (fun z => by rw [z, hd1] at q; cases q)]; exact q, fun b h => .inl h⟩
  refine fit C _ _ ρ1.g F1 _ d hX (S1.grow gr).fin ⟨hF, S1.dead hd1, _, upd_same, ?_, ?_⟩
  · rw [List.map_reverse, zip_fst hvl]
  · rw [List.map_reverse, zip_snd hvl]
    exact r1.reverse
end
/-! ### a def's body -/
abbrev bodyXX (P : Program) (w : World) (K : PySem.W.Frag) (mg : Str → Option Value) (base : Heap) (N : List Str) (q : Str) (st : Stmt) (f : Addr) (cdv : Value) (A : Around) (outer : List Env) (s : Shared) (H : Hp) (E : XK) : Cx := cxOf (L2.CX P w) P w K mg base N q (defScope st) f cdv A outer s H E
section
variable {P : Program} {w : World} {K : PySem.W.Frag} {mg : Str → Option Value} {base : Heap} {x q : Str} {st : Stmt} {f : Addr} {fd : FuncData} {N ps : List Str} {k : Nat}
theorem takes_body {cdv : Value} {A : Around} {outer : List Env} {s : Shared} {H : Hp} {E : XK} : Takes (bodyXX P w K mg base N q st f cdv A outer s H E) (fun cls d _ H => E cls d H) := takes_of rfl rfl rfl rfl
theorem pass_body {cdv : Value} {A : Around} {outer : List Env} {s : Shared} {H : Hp} {E : XK} : Passes (L2.CX P w) (bodyXX P w K mg base N q st f cdv A outer s H E) E := passes_call takes_body fun _ _ _ _ h => h
theorem own_body {cdv : Value} {A : Around} {outer : List Env} {s : Shared} {H : Hp} {E : XK} : PassesOwn (model P w) (bodyXX P w K mg base N q st f cdv A outer s H E).A (bodyXX P w K mg base N q st f cdv A outer s H E).env (bodyXX P w K mg base N q st f cdv A outer s H E).xe := passes_of rfl
theorem FnX {m : WMX} (F : FnP K x q st f fd) (S : FnScope N ps (defScope st)) (hm : ∀ ds Kk Xk, m ds Kk Xk → ds.length = ps.length)
    (hbody : ∀ (cdv : Value) (A : Around) (outer : List Env) (s : Shared) (H Fz : Hp) (E : XK) (Xk : XW), Room k (A.deeper (envOfC q (defScope st) s.heap.objs.size f cdv)) → XFit ⟨K, noR, H, Fz, fun _ => False⟩ E Xk →
      ∃ w' : WS noR, DSs (bodyXX P w K mg base N q st f cdv A outer s H E) ⟨K, noR, H, Fz, fun _ => False⟩ false (defBody st) w' ∧
        ∀ ds Kk, m ds Kk Xk → w' { nx := fun _ => Kk .non, rt := fun d _ => Kk d } ⟨noG, startD N ds⟩) : FnOk P w K mg base (L2.CX P w) (k + 1) f fd ps (spX K m) := by
  refine F.ok S (fun vs H Q E h => ?_) (fun cdv A outer s H vs Q E hr h => ?_)
  · obtain ⟨ds, F, Kk, Xk, _, r, hw, _⟩ := h
    rw [r.length]
    exact hm ds Kk Xk hw
  · obtain ⟨ds, Fz, Kk, Xk, sub, r, hw, k, kx⟩ := h
    have gr : ∀ {F' H' : Hp} {g : noR.G}, Fin ⟨K, noR, H, Fz, fun _ => False⟩ F' H' g → Grow Fz H F' H' := fun fin => ⟨fin.old, fin.sub, fun b o e => fin.keep b o e id, fin_grow fin⟩
    obtain ⟨w', hb, hw'⟩ := hbody cdv A outer s H Fz E Xk hr fun C ns xs g F' H' dx hX fin xd => kx C ns xs F' H' dx hX (gr fin) xd
    exact ⟨_, hb.ps, _, Fz, _, St.start sub r (fun a h => h) (fun b h => h.elim), hw' ds Kk hw, fun ρ' σ' F' H' h S' _ => k .non .non F' H' h (gr S'.fin) .non, (fun _ _ _ _ h => h.elim), (fun _ _ _ _ h => h.elim),
      fun d g h v F' H' fin rp => k d v F' H' h (gr fin) rp⟩
end
end Q

set_option Elab.async false
set_option linter.all false
set_option maxRecDepth 100000
set_option maxHeartbeats 4000000
/-! loops by an invariant of what is left -/
namespace Q
open PySem PySem.Spec PyProof.Rows L2
section
variable {R : Rgn} {g : WG R} {wb : WS R} {Dk : DEnds R}
theorem forGo_ind (I : List D → DS R → Prop) (st : ∀ (d : D) (rest : List D) (N : DS R → Prop) (ρ : DS R), (∀ ρ', I rest ρ' → N ρ') → I (d :: rest) ρ → g d ρ fun ρ2 => wb { Dk with nx := N, ct := N, bk := Dk.nx } ρ2)
    (e : ∀ ρ, I [] ρ → Dk.nx ρ) : ∀ (ds : List D) (ρ : DS R), I ds ρ → forGo g wb Dk ds ρ
  | [], ρ, h => by
    unfold forGo
    exact e ρ h
  | d :: ds, ρ, h => by
    unfold forGo
    exact st d ds _ ρ (fun ρ' h' => forGo_ind I st e ds ρ' h') h
end
/-- a key told as data, put to keys told as data -/
theorem putKs_str (ks : List Str) (z : Str) : putKs (ks.map Sum.inr) (.inr z : Key) = (if z ∈ ks then ks else ks ++ [z]).map Sum.inr := by
  unfold putKs
  by_cases h : z ∈ ks
  · rw [if_pos h, if_pos (List.mem_map.mpr ⟨z, h, rfl⟩)]
  · rw [if_neg h, if_neg (fun q => by obtain ⟨y, hy, e⟩ := List.mem_map.mp q; cases e; exact h hy), List.map_append]
    rfl
end Q

set_option Elab.async false
set_option linter.all false
set_option maxRecDepth 100000
set_option maxHeartbeats 4000000
namespace L03
open PySem PySem.Spec PyProof.Rows L2 Q
section
variable {P : Program} {w : World} {K : PySem.W.Frag} {mg : Str → Option Value} {base : Heap} {f : Addr} {fd : FuncData}
/-! parts -/
def asNot (xs : List D) : D := if xs.length = 2 then (match asAtom (xs.getD 1 .non) with | .non => .non | a => .tup [.str "not", a]) else .non
def tms2 : List D → Prop := fun ds => ∃ x xs, ds = [x] ∧ sqOf x = some xs ∧ tmB x = true
theorem tms2_one (x : D) {xs : List D} (h : sqOf x = some xs) (t : tmB x = true) : tms2 [x] := ⟨x, xs, rfl, h, t⟩
theorem sq_cases {x : D} {xs : List D} (h : sqOf x = some xs) : x = .lst xs ∨ x = .tup xs := by
  cases x <;> first | (cases h; exact .inl rfl) | (cases h; exact .inr rfl) | cases h
theorem sq_tms {x : D} {xs : List D} (h : sqOf x = some xs) (t : tmB x = true) : tmBs xs = true := by
  rcases sq_cases h with rfl | rfl
  · simp at t; exact t.2
  · simp at t; exact t.2
theorem asAtom_cases (d : D) : asAtom d = .non ∨ ∃ xs, sqOf d = some xs ∧ rowB xs = true ∧ xs.tail.all isTm = true ∧ asAtom d = .tup xs := by
  unfold asAtom
  cases h : sqOf d with
  | none => exact .inl rfl
  | some xs =>
    by_cases q : (rowB xs && xs.tail.all isTm) = true
    · right
      refine ⟨xs, rfl, ?_, ?_, by simp [q]⟩
      · simp at q; exact q.1
      · rw [Bool.and_eq_true] at q; exact q.2
    · left
      simp only [q]
      rfl
-- _as_not: slots 0 thing, 1 atom
abbrev s_as_not : Stmt := (top 23)
abbrev N_sc_as_not : List Str := ["thing", "atom"]
theorem sc_as_not : FnScope N_sc_as_not ["thing"] (defScope s_as_not) := ⟨rfl, rfl, rfl, by decide +kernel, rfl, by decide +kernel, by decide +kernel⟩
theorem ok_as_not (F : FnP K "_as_not" "_as_not" s_as_not f fd) (T : Tx K mg) (C_as_atom : Cal P w K mg base "as_atom" 4 ["thing"] (spD K (wF tmd1 fun ds => asAtom (ds.headD .non)))) :
    FnOk P w K mg base CX0 5 f fd ["thing"] (spD K (wF tms2 fun ds => asNot ((sqOf (ds.headD .non)).getD []))) :=
  FnD F sc_as_not (fun ds Kk h => by obtain ⟨⟨x, xs, rfl, _⟩, _⟩ := h; rfl) fun cdv A outer s H Fz E hr => ⟨_, 
(ds_cons (ds_if (dt_cm (c_ne hr) (de_len T.b_len (de_v (i := 0))) de_int) (ds_one (ds_ret de_non)) ds_nil)
 (ds_cons (ds_set (i := 1) sc_as_not.nd (de_call C_as_atom hr (da_cons (de_ixA (de_v (i := 0)) de_int) da_nil)))
 (ds_cons (ds_if (dt_cm c_is (de_v (i := 1)) de_non) (ds_one (ds_ret de_non)) ds_nil)
 (ds_one (ds_ret (de_tup (da_cons de_str (da_cons (de_v (i := 1)) da_nil))))))))
  , fun ds Kk h => by
    obtain ⟨⟨x, xs, rfl, hs, hx⟩, k⟩ := h
    have hx' : tmBs xs = true := sq_tms hs hx
    by_cases h2 : xs.length = 2
    · match xs, h2 with
      | [a, b], _ =>
        have hb : tmB b = true := by simp at hx'; exact hx'.2
        rcases sq_cases hs with rfl | rfl <;>
        · simp [sRet, wAndV, wOrV, wNotV, wUn, wOp, wV, wB, wO, wC, wIfE, wTest, wTruth, wBand, wBor, wBnot, wChain, wSl, wPart, wTup, wLst, wCons, wNil, wCall, sIf, sSeq, sSet, sNew, sNext, sPass, sApp, sExt, sDrop, sAsg, gNm, gTp, gCs, gNl, startD, DS.put, wF, isaD, eqD, inSq, ixN, hb, asNot] at k ⊢
          rcases asAtom_cases b with h | ⟨xs, _, _, _, h⟩
          · rw [h] at k ⊢
            simp [xr] at k ⊢
            exact k
          · rw [h] at k ⊢
            simp [xr] at k ⊢
            exact k
    · have h3 : ¬ (xs.length : Int) = 2 := by omega
      rcases sq_cases hs with rfl | rfl <;>
      · simp [sRet, wAndV, wOrV, wNotV, wUn, wOp, wV, wB, wO, wC, wIfE, wTest, wTruth, wBand, wBor, wBnot, wChain, wSl, wPart, wTup, wLst, wCons, wNil, wCall, sIf, sSeq, sSet, sNew, sNext, sPass, sApp, sExt, sDrop, sAsg, gNm, gTp, gCs, gNl, startD, DS.put, wF, isaD, eqD, inSq, h2, h3, asNot, xr] at k ⊢
        exact k⟩
def asUnl (xs : List D) : D := if xs.length = 3 ∧ isTm (xs.getD 1 .non) = true ∧ isTm (xs.getD 2 .non) = true then .tup xs else .non
-- _as_unlike: slots 0 thing
abbrev s_as_unlike : Stmt := (top 24)
abbrev N_sc_as_unlike : List Str := ["thing"]
theorem sc_as_unlike : FnScope N_sc_as_unlike ["thing"] (defScope s_as_unlike) := ⟨rfl, rfl, rfl, by decide +kernel, rfl, by decide +kernel, by decide +kernel⟩
theorem ok_as_unlike (F : FnP K "_as_unlike" "_as_unlike" s_as_unlike f fd) (T : Tx K mg) (C_is_term : Cal P w K mg base "is_term" 3 ["thing"] (spD K (wF tame1 fun ds => .bl (isTm (ds.headD .non))))) :
    FnOk P w K mg base CX0 4 f fd ["thing"] (spD K (wF tms2 fun ds => asUnl ((sqOf (ds.headD .non)).getD []))) :=
  FnD F sc_as_unlike (fun ds Kk h => by obtain ⟨⟨x, xs, rfl, _⟩, _⟩ := h; rfl) fun cdv A outer s H Fz E hr => ⟨_, 
(ds_cons (ds_if (DW.dt (dw_or (dt_cm (c_ne hr) (de_len T.b_len (de_v (i := 0))) de_int) (dw_or (dt_not (dt_truth (de_call C_is_term hr (da_cons (de_ixA (de_v (i := 0)) de_int) da_nil)))) (dw_or1 (dt_not (dt_truth (de_call C_is_term hr (da_cons (de_ixA (de_v (i := 0)) de_int) da_nil)))))))) (ds_one (ds_ret de_non)) ds_nil)
 (ds_one (ds_ret (de_tuple T.b_tuple (de_v (i := 0))))))
  , fun ds Kk h => by
    obtain ⟨⟨x, xs, rfl, hs, hx⟩, k⟩ := h
    have hx' : tmBs xs = true := sq_tms hs hx
    by_cases h2 : xs.length = 3
    · match xs, h2 with
      | [a, b, c], _ =>
        have hb : tame b := by simp at hx'; exact tmB.tame hx'.2.1
        have hc : tame c := by simp at hx'; exact tmB.tame hx'.2.2
        rcases sq_cases hs with rfl | rfl <;>
        · cases h1 : isTm b <;> cases h2 : isTm c <;>
          · simp [sRet, wAndV, wOrV, wNotV, wUn, wOp, wV, wB, wO, wC, wIfE, wTest, wTruth, wBand, wBor, wBnot, wChain, wSl, wPart, wTup, wLst, wCons, wNil, wCall, sIf, sSeq, sSet, sNew, sNext, sPass, sApp, sExt, sDrop, sAsg, gNm, gTp, gCs, gNl, startD, DS.put, wF, isaD, eqD, inSq, ixN, hb, hc, asUnl, h1, h2, xr] at k ⊢
            exact k
    · have h3 : ¬ (xs.length : Int) = 3 := by omega
      rcases sq_cases hs with rfl | rfl <;>
      · simp [sRet, wAndV, wOrV, wNotV, wUn, wOp, wV, wB, wO, wC, wIfE, wTest, wTruth, wBand, wBor, wBnot, wChain, wSl, wPart, wTup, wLst, wCons, wNil, wCall, sIf, sSeq, sSet, sNew, sNext, sPass, sApp, sExt, sDrop, sAsg, gNm, gTp, gCs, gNl, startD, DS.put, wF, isaD, eqD, inSq, h2, h3, asUnl, xr] at k ⊢
        exact k⟩
def asPart (d : D) : D := match sqOf d with
  | some (.str z :: r) => if z = "not" then asNot (.str z :: r) else if z = "unlike" then asUnl (.str z :: r) else asAtom d
  | _ => .non
-- as_part: slots 0 thing
abbrev s_as_part : Stmt := (top 25)
abbrev N_sc_as_part : List Str := ["thing"]
theorem sc_as_part : FnScope N_sc_as_part ["thing"] (defScope s_as_part) := ⟨rfl, rfl, rfl, by decide +kernel, rfl, by decide +kernel, by decide +kernel⟩
theorem ok_as_part (F : FnP K "as_part" "as_part" s_as_part f fd) (T : Tx K mg) (C_as_atom : Cal P w K mg base "as_atom" 4 ["thing"] (spD K (wF tmd1 fun ds => asAtom (ds.headD .non))))
    (C__as_not : Cal P w K mg base "_as_not" 5 ["thing"] (spD K (wF tms2 fun ds => asNot ((sqOf (ds.headD .non)).getD [])))) (C__as_unlike : Cal P w K mg base "_as_unlike" 4 ["thing"] (spD K (wF tms2 fun ds => asUnl ((sqOf (ds.headD .non)).getD [])))) :
    FnOk P w K mg base CX0 6 f fd ["thing"] (spD K (wF tmd1 fun ds => asPart (ds.headD .non))) :=
  FnD F sc_as_part (fun ds Kk h => by obtain ⟨⟨x, rfl, _⟩, _⟩ := h; rfl) fun cdv A outer s H Fz E hr => ⟨_, 
(ds_cons (ds_if (DW.dt (dw_or (dt_not (dt_truth (de_isN T.b_isinstance (tns_cons (TyN.mk (t := .list) (by rfl) T.b_list (by decide +kernel) (by decide) (by decide)) (tns_cons (TyN.mk (t := .tuple) (by rfl) T.b_tuple (by decide +kernel) (by decide) (by decide)) tns_nil)) (de_v (i := 0))))) (dw_or (dt_cm (c_eq hr) (de_len T.b_len (de_v (i := 0))) de_int) (dw_or1 (dt_not (dt_truth (de_is1 T.b_isinstance (TyN.mk (t := .str) (by rfl) T.b_str (by decide +kernel) (by decide) (by decide)) (de_ixA (de_v (i := 0)) de_int)))))))) (ds_one (ds_ret de_non)) ds_nil)
 (ds_cons (ds_if (dt_cm (c_eq hr) (de_ixA (de_v (i := 0)) de_int) de_str) (ds_one (ds_ret (de_call C__as_not hr (da_cons (de_v (i := 0)) da_nil)))) ds_nil)
 (ds_cons (ds_if (dt_cm (c_eq hr) (de_ixA (de_v (i := 0)) de_int) de_str) (ds_one (ds_ret (de_call C__as_unlike hr (da_cons (de_v (i := 0)) da_nil)))) ds_nil)
 (ds_one (ds_ret (de_call C_as_atom hr (da_cons (de_v (i := 0)) da_nil)))))))
  , fun ds Kk h => by
    obtain ⟨⟨x, rfl, hx⟩, k⟩ := h
    have hx0 := hx
    cases x
    case' lst xs => have hx : tmBs xs = true := by simp at hx; exact hx.2
    case' tup xs => have hx : tmBs xs = true := by simp at hx; exact hx.2
    case lst | tup =>
      cases xs with
      | nil => simp [sRet, wAndV, wOrV, wNotV, wUn, wOp, wV, wB, wO, wC, wIfE, wTest, wTruth, wBand, wBor, wBnot, wChain, wSl, wPart, wTup, wLst, wCons, wNil, wCall, sIf, sSeq, sSet, sNew, sNext, sPass, sApp, sExt, sDrop, sAsg, gNm, gTp, gCs, gNl, startD, DS.put, wF, isaD, eqD, inSq, asPart] at *; exact k
      | cons a r =>
        have hl : ¬ (r.length : Int) + 1 = 0 := by omega
        cases a with
        | str z =>
          have t2 := fun (y : D) (h : sqOf y = some (.str z :: r)) (t : tmB y = true) => tms2_one y h t
          by_cases h1 : z = "not"
          · subst h1
            simp [sRet, wAndV, wOrV, wNotV, wUn, wOp, wV, wB, wO, wC, wIfE, wTest, wTruth, wBand, wBor, wBnot, wChain, wSl, wPart, wTup, wLst, wCons, wNil, wCall, sIf, sSeq, sSet, sNew, sNext, sPass, sApp, sExt, sDrop, sAsg, gNm, gTp, gCs, gNl, startD, DS.put, wF, isaD, eqD, inSq, ixN, asPart, hl, -tmB_lst, -tmB_tup] at k ⊢
            exact ⟨t2 _ rfl hx0, k⟩
          · by_cases h2 : z = "unlike"
            · subst h2
              have hne : ("unlike" : Str) ≠ "not" := by decide +kernel
              simp [sRet, wAndV, wOrV, wNotV, wUn, wOp, wV, wB, wO, wC, wIfE, wTest, wTruth, wBand, wBor, wBnot, wChain, wSl, wPart, wTup, wLst, wCons, wNil, wCall, sIf, sSeq, sSet, sNew, sNext, sPass, sApp, sExt, sDrop, sAsg, gNm, gTp, gCs, gNl, startD, DS.put, wF, isaD, eqD, inSq, ixN, asPart, hl, hne, -tmB_lst, -tmB_tup] at k ⊢
              exact ⟨t2 _ rfl hx0, k⟩
            · simp [sRet, wAndV, wOrV, wNotV, wUn, wOp, wV, wB, wO, wC, wIfE, wTest, wTruth, wBand, wBor, wBnot, wChain, wSl, wPart, wTup, wLst, wCons, wNil, wCall, sIf, sSeq, sSet, sNew, sNext, sPass, sApp, sExt, sDrop, sAsg, gNm, gTp, gCs, gNl, startD, DS.put, wF, isaD, eqD, inSq, ixN, asPart, hl, h1, h2, hx0, -tmB_lst, -tmB_tup] at k ⊢
              exact k
        | _ => first | (exfalso; simp at hx; done) | (simp [sRet, wAndV, wOrV, wNotV, wUn, wOp, wV, wB, wO, wC, wIfE, wTest, wTruth, wBand, wBor, wBnot, wChain, wSl, wPart, wTup, wLst, wCons, wNil, wCall, sIf, sSeq, sSet, sNew, sNext, sPass, sApp, sExt, sDrop, sAsg, gNm, gTp, gCs, gNl, startD, DS.put, wF, isaD, eqD, inSq, ixN, asPart, hl] at k ⊢; exact k)
    all_goals (simp [sRet, wAndV, wOrV, wNotV, wUn, wOp, wV, wB, wO, wC, wIfE, wTest, wTruth, wBand, wBor, wBnot, wChain, wSl, wPart, wTup, wLst, wCons, wNil, wCall, sIf, sSeq, sSet, sNew, sNext, sPass, sApp, sExt, sDrop, sAsg, gNm, gTp, gCs, gNl, startD, DS.put, wF, isaD, eqD, inSq, asPart] at * <;> exact k)⟩
end
end L03

set_option Elab.async false
set_option linter.all false
set_option maxRecDepth 100000
set_option maxHeartbeats 4000000
namespace L03
open PySem PySem.Spec PyProof.Rows L2 Q
theorem isTm_dat {t : D} (h : isTm t = true) : isDat t = true ∧ dep t = 0 ∧ deq t .non = false := by
  cases t <;> simp [isTm, isTh, isInt, isNm, isLt] at h ⊢
theorem tms_dat : ∀ {ts : List D}, ts.all isTm = true → isDats ts = true ∧ deps ts = 0
  | [], _ => by simp
  | t :: ts, h => by
    rw [List.all_cons, Bool.and_eq_true] at h
    obtain ⟨h1, h2⟩ := h
    obtain ⟨i1, i2⟩ := tms_dat h2
    obtain ⟨j1, j2, _⟩ := isTm_dat h1
    simp [i1, i2, j1, j2]
theorem isTm_tmB {t : D} (h : isTm t = true) : tmB t = true := by
  cases t <;> simp [isTm, isTh, isInt, isNm, isLt, strNm, strLt] at h ⊢ <;> omega
theorem tms_tmB {ts : List D} (h : ts.all isTm = true) : tmBs ts = true := tmBs_iff.mpr fun x hx => isTm_tmB (List.all_eq_true.mp h x hx)
/-- a row that is an atom's -/
def okRow (xs : List D) : Prop := ∃ (z : Str) (ts : List D), xs = .str z :: ts ∧ strNm z = true ∧ ts.length ≤ 6 ∧ ts.all isTm = true
theorem okRow_of {xs : List D} (h1 : rowB xs = true) (h2 : xs.tail.all isTm = true) : okRow xs := by
  cases xs with
  | nil => simp [rowB] at h1
  | cons a r =>
    cases a <;> simp [rowB, isNm] at h1
    exact ⟨_, r, rfl, h1.2, h1.1, h2⟩
theorem okRow.row {xs : List D} (h : okRow xs) : rowB xs = true ∧ xs.tail.all isTm = true := by
  obtain ⟨z, ts, rfl, h1, h2, h3⟩ := h
  exact ⟨by simp [rowB, isNm, h1]; omega, h3⟩
theorem asAtom_ok {d : D} {xs : List D} (h : sqOf d = some xs) (o : okRow xs) : asAtom d = .tup xs := by
  obtain ⟨h1, h2⟩ := o.row
  simp only [asAtom, h, h1, h2]
  rfl
theorem nm_not {z : Str} (h : strNm z = true) : z ≠ "not" ∧ z ≠ "unlike" := by
  simp [strNm] at h
  exact ⟨h.1.2.1, h.1.2.2.1⟩
/-- a part, as it is told -/
def okPart (p : D) : Prop := (∃ xs, p = .tup xs ∧ okRow xs) ∨ (∃ xs, p = .tup [.str "not", .tup xs] ∧ okRow xs) ∨ ∃ a b, p = .tup [.str "unlike", a, b] ∧ isTm a = true ∧ isTm b = true
theorem asNot_cases (xs : List D) : asNot xs = .non ∨ ∃ ys, asNot xs = .tup [.str "not", .tup ys] ∧ okRow ys := by
  unfold asNot
  split
  · rcases asAtom_cases (xs.getD 1 .non) with h | ⟨ys, _, h1, h2, h⟩
    · rw [h]; exact .inl rfl
    · rw [h]; exact .inr ⟨ys, rfl, okRow_of h1 h2⟩
  · exact .inl rfl
theorem asPart_cases (d : D) : asPart d = .non ∨ okPart (asPart d) := by
  unfold asPart
  split
  · rename_i z r h
    split
    · rename_i e
      rcases asNot_cases (.str z :: r) with h | ⟨ys, h, o⟩
      · exact .inl h
      · exact .inr (.inr (.inl ⟨ys, h, o⟩))
    · split
      · rename_i e1 e2
        unfold asUnl
        split
        · rename_i q
          obtain ⟨q1, q2, q3⟩ := q
          subst e2
          match r, q1 with
          | [a, b], _ => exact .inr (.inr (.inr ⟨a, b, rfl, q2, q3⟩))
        · exact .inl rfl
      · rcases asAtom_cases d with h | ⟨ys, _, h1, h2, h⟩
        · exact .inl h
        · exact .inr (.inl ⟨ys, h, okRow_of h1 h2⟩)
  · exact .inl rfl
theorem okRow.dat {xs : List D} (h : okRow xs) : isDats xs = true ∧ deps xs = 0 := by
  obtain ⟨z, ts, rfl, h1, h2, h3⟩ := h
  obtain ⟨a, b⟩ := tms_dat h3
  simp [a, b]
theorem okPart.dat {p : D} (h : okPart p) : isDat p = true ∧ dep p ≤ 2 ∧ deq p .non = false := by
  rcases h with ⟨xs, rfl, o⟩ | ⟨xs, rfl, o⟩ | ⟨a, b, rfl, h1, h2⟩
  · obtain ⟨d1, d2⟩ := o.dat
    simp [d1, d2]
  · obtain ⟨d1, d2⟩ := o.dat
    simp [d1, d2]
  · obtain ⟨d1, d2, _⟩ := isTm_dat h1
    obtain ⟨e1, e2, _⟩ := isTm_dat h2
    simp [d1, d2, e1, e2]
theorem asPart_dat (d : D) : isDat (asPart d) = true := by
  rcases asPart_cases d with h | h
  · rw [h]; simp
  · exact h.dat.1
def isNon : D → Bool
  | .non => true
  | _ => false
theorem asPart_non (d : D) : deq (asPart d) .non = isNon (asPart d) := by
  rcases asPart_cases d with h | h
  · rw [h]; simp [isNon]
  · rw [h.dat.2.2]
    rcases h with ⟨xs, h, _⟩ | ⟨xs, h, _⟩ | ⟨a, b, h, _⟩ <;> rw [h] <;> rfl
def asBody (d : D) : D := match sqOf d with
  | some xs => if xs.any (fun x => isNon (asPart x)) then .non else .tup (xs.map asPart)
  | none => .non
theorem parts_dat : ∀ xs : List D, isDats (xs.map asPart) = true
  | [] => by simp
  | x :: xs => by simp [asPart_dat x, parts_dat xs]
theorem any_parts (xs : List D) : ((xs.map asPart).any fun p => deq p .non) = xs.any fun x => isNon (asPart x) := by
  rw [List.any_map]
  congr 1
  funext x
  exact asPart_non x
section
variable {P : Program} {w : World} {K : PySem.W.Frag} {mg : Str → Option Value} {base : Heap} {f : Addr} {fd : FuncData}
-- as_body: slots 0 thing, 1 parts, 2 part
abbrev s_as_body : Stmt := (top 26)
abbrev N_sc_as_body : List Str := ["thing", "parts", "part"]
theorem sc_as_body : FnScope N_sc_as_body ["thing"] (defScope s_as_body) := ⟨rfl, rfl, rfl, by decide +kernel, rfl, by decide +kernel, by decide +kernel⟩
theorem ok_as_body (F : FnP K "as_body" "as_body" s_as_body f fd) (T : Tx K mg) (C_as_part : Cal P w K mg base "as_part" 6 ["thing"] (spD K (wF tmd1 fun ds => asPart (ds.headD .non)))) :
    FnOk P w K mg base CX0 7 f fd ["thing"] (spD K (wF tmd1 fun ds => asBody (ds.headD .non))) :=
  FnD F sc_as_body (fun ds Kk h => by obtain ⟨⟨x, rfl, _⟩, _⟩ := h; rfl) fun cdv A outer s H Fz E hr => ⟨_, 
(ds_cons (ds_if (dt_not (dt_truth (de_isN T.b_isinstance (tns_cons (TyN.mk (t := .list) (by rfl) T.b_list (by decide +kernel) (by decide) (by decide)) (tns_cons (TyN.mk (t := .tuple) (by rfl) T.b_tuple (by decide +kernel) (by decide) (by decide)) tns_nil)) (de_v (i := 0))))) (ds_one (ds_ret de_non)) ds_nil)
 (ds_cons (ds_set (i := 1) sc_as_body.nd (de_tuple T.b_tuple (FE.de (fe_lc (own := [("part", 2)]) sc_as_body.nd (di_seq (de_v (i := 0))) (blkOk_by (own := [("part", 2)]) (N := N_sc_as_body) (sc := defScope s_as_body) (by decide +kernel)) (fun _ _ _ _ _ => (dg_name (i := 2) sc_as_body.nd)) (fun _ _ _ _ _ => dts_nil) (fun _ _ _ _ _ => (de_call C_as_part hr (da_cons (de_v (i := 2)) da_nil)))))))
 (ds_cons (ds_if (dt_cm (c_in hr) de_non (de_v (i := 1))) (ds_one (ds_ret de_non)) ds_nil)
 (ds_one (ds_ret (de_v (i := 1)))))))
  , fun ds Kk h => by
    obtain ⟨⟨x, rfl, hx⟩, k⟩ := h
    cases hs : sqOf x with
    | some xs =>
      have hz : xs.length ≤ 100000 := by rcases sq_cases hs with rfl | rfl <;> simp at hx <;> exact hx.1
      have hx' := tmBs_iff.mp (sq_tms hs hx)
      have hq : seqD x = some xs := by rcases sq_cases hs with rfl | rfl <;> rfl
      have hi : isaD [.list, .tuple] x = some (.bl true) := by rcases sq_cases hs with rfl | rfl <;> simp [isaD]
      have k : Kk (asBody x) := k
      refine ⟨_, rfl, _, hi, true, rfl, itF ?_⟩
      simp only [sNext, sSeq, sSet, wUn]
      refine wLc_m (α := D) (h := id) (xs := xs) (f := asPart) (x := none) (fun K k => ⟨_, rfl, xs, hq, by simpa using k⟩) hz rfl (fun _ h => by cases h) (fun t ht K k => ⟨_, rfl, (by simp; exact hx' t ht), k⟩) _ ?_
      refine ⟨_, rfl, ?_⟩
      have e : asBody x = if xs.any (fun x => isNon (asPart x)) then .non else .tup (xs.map asPart) := by simp only [asBody, hs]
      rw [e] at k
      have hin : inD false .non (.tup (xs.map asPart)) = some (.bl (xs.any fun x => isNon (asPart x))) := by
        rw [in_tup]
        unfold inSq
        rw [if_pos ⟨da_non, parts_dat xs, by rw [dp_non]; omega⟩, any_parts]
        rfl
      refine ⟨_, rfl, _, hin, _, rfl, ?_⟩
      cases hn : xs.any (fun x => isNon (asPart x)) with
      | true =>
        rw [hn] at k
        exact itT k
      | false =>
        rw [hn] at k
        exact itF ⟨_, rfl, k⟩
    | none =>
      cases x <;> simp at hs hx
      all_goals (simp [sRet, wAndV, wOrV, wNotV, wUn, wOp, wV, wB, wO, wC, wIfE, wTest, wTruth, wBand, wBor, wBnot, wChain, wSl, wPart, wTup, wLst, wCons, wNil, wCall, sIf, sSeq, sSet, sNew, sNext, sPass, sApp, sExt, sDrop, sAsg, gNm, gTp, gCs, gNl, startD, DS.put, wF, isaD, eqD, inSq, asBody] at k ⊢; exact k)⟩
end
end L03

set_option Elab.async false
set_option linter.all false
set_option maxRecDepth 100000
set_option maxHeartbeats 4000000
namespace L03
open PySem PySem.Spec PyProof.Rows L2 Q
def plainP : D → Bool
  | .tup (.str z :: _) => !(decide (z = "not") || decide (z = "unlike"))
  | _ => false
def termsP : D → List D
  | .tup (.str z :: r) => if z = "not" then (match r with | [.tup (_ :: ts)] => ts | _ => []) else r
  | _ => []
def okp1 : List D → Prop := fun ds => ∃ x, ds = [x] ∧ okPart x
@[simp] theorem okp1_one (x : D) : okp1 [x] = okPart x := by
  apply propext
  constructor
  · rintro ⟨y, e, h⟩
    cases e
    exact h
  · exact fun h => ⟨x, rfl, h⟩
theorem okPart.terms {p : D} (h : okPart p) : (termsP p).all isTm = true ∧ (termsP p).length ≤ 6 := by
  rcases h with ⟨xs, rfl, z, ts, rfl, h1, h2, h3⟩ | ⟨xs, rfl, z, ts, rfl, h1, h2, h3⟩ | ⟨a, b, rfl, h1, h2⟩
  · have := (nm_not h1).1
    simp only [termsP, this]
    exact ⟨h3, h2⟩
  · simp only [termsP]
    exact ⟨h3, h2⟩
  · have : (("unlike" : Str) = "not") = False := eq_false (by decide +kernel)
    simp [termsP, this, h1, h2]
/-- letters, each once, as they come -/
def addL (acc : List Str) (t : D) : List Str := match t with
  | .str z => if strLt z then (if z ∈ acc then acc else acc ++ [z]) else acc
  | _ => acc
def lettersP (ps : List D) : List Str := (ps.flatMap termsP).foldl addL []
theorem addL_len (acc : List Str) (t : D) : (addL acc t).length ≤ acc.length + 1 := by
  unfold addL
  split
  · split
    · split
      · omega
      · simp
    · omega
  · omega
section
variable {P : Program} {w : World} {K : PySem.W.Frag} {mg : Str → Option Value} {base : Heap} {f : Addr} {fd : FuncData}
-- is_plain: slots 0 part
abbrev s_is_plain : Stmt := (top 28)
abbrev N_sc_is_plain : List Str := ["part"]
theorem sc_is_plain : FnScope N_sc_is_plain ["part"] (defScope s_is_plain) := ⟨rfl, rfl, rfl, by decide +kernel, rfl, by decide +kernel, by decide +kernel⟩
theorem ok_is_plain (F : FnP K "is_plain" "is_plain" s_is_plain f fd) (T : Tx K mg) :
    FnOk P w K mg base CX0 1 f fd ["part"] (spD K (wF okp1 fun ds => .bl (plainP (ds.headD .non)))) :=
  FnD F sc_is_plain (fun ds Kk h => by obtain ⟨⟨x, rfl, _⟩, _⟩ := h; rfl) fun cdv A outer s H Fz E hr => ⟨_, 
(ds_one (ds_ret (de_cm (c_ni hr) (de_ixA (de_v (i := 0)) de_int) (de_tup (da_cons de_str (da_cons de_str da_nil))))))
  , fun ds Kk h => by
    obtain ⟨⟨x, rfl, hx⟩, k⟩ := h
    rcases hx with ⟨xs, rfl, z, ts, rfl, h1, h2, h3⟩ | ⟨xs, rfl, z, ts, rfl, h1, h2, h3⟩ | ⟨a, b, rfl, h1, h2⟩
    · obtain ⟨e1, e2⟩ := nm_not h1
      have e3 : ¬ (("not" : Str) = z) := fun h => e1 h.symm
      have e4 : ¬ (("unlike" : Str) = z) := fun h => e2 h.symm
      have e5 : (("not" : Str) == z) = false := beq_eq_false_iff_ne.mpr e3
      have e6 : (("unlike" : Str) == z) = false := beq_eq_false_iff_ne.mpr e4
      simp [sRet, wAndV, wOrV, wNotV, wUn, wOp, wV, wB, wO, wC, wIfE, wTest, wTruth, wBand, wBor, wBnot, wChain, wSl, wPart, wTup, wLst, wCons, wNil, wCall, sIf, sSeq, sSet, sNew, sNext, sPass, sApp, sExt, sDrop, sAsg, gNm, gTp, gCs, gNl, startD, DS.put, wF, isaD, eqD, inSq, ixN, plainP, xr, e1, e2, e5, e6] at k ⊢
      exact k
    · simp [sRet, wAndV, wOrV, wNotV, wUn, wOp, wV, wB, wO, wC, wIfE, wTest, wTruth, wBand, wBor, wBnot, wChain, wSl, wPart, wTup, wLst, wCons, wNil, wCall, sIf, sSeq, sSet, sNew, sNext, sPass, sApp, sExt, sDrop, sAsg, gNm, gTp, gCs, gNl, startD, DS.put, wF, isaD, eqD, inSq, ixN, plainP, xr] at k ⊢
      exact k
    · simp [sRet, wAndV, wOrV, wNotV, wUn, wOp, wV, wB, wO, wC, wIfE, wTest, wTruth, wBand, wBor, wBnot, wChain, wSl, wPart, wTup, wLst, wCons, wNil, wCall, sIf, sSeq, sSet, sNew, sNext, sPass, sApp, sExt, sDrop, sAsg, gNm, gTp, gCs, gNl, startD, DS.put, wF, isaD, eqD, inSq, ixN, plainP, xr] at k ⊢
      exact k⟩
-- terms_of: slots 0 part
abbrev s_terms_of : Stmt := (top 30)
abbrev N_sc_terms_of : List Str := ["part"]
theorem sc_terms_of : FnScope N_sc_terms_of ["part"] (defScope s_terms_of) := ⟨rfl, rfl, rfl, by decide +kernel, rfl, by decide +kernel, by decide +kernel⟩
theorem ok_terms_of (F : FnP K "terms_of" "terms_of" s_terms_of f fd) (T : Tx K mg) :
    FnOk P w K mg base CX0 1 f fd ["part"] (spD K (wF okp1 fun ds => .tup (termsP (ds.headD .non)))) :=
  FnD F sc_terms_of (fun ds Kk h => by obtain ⟨⟨x, rfl, _⟩, _⟩ := h; rfl) fun cdv A outer s H Fz E hr => ⟨_, 
(ds_cons (ds_if (dt_cm (c_eq hr) (de_ixA (de_v (i := 0)) de_int) de_str) (ds_one (ds_ret (de_sl (de_ixA (de_v (i := 0)) de_int) (dp_at de_int) dp_no))) ds_nil)
 (ds_one (ds_ret (de_sl (de_v (i := 0)) (dp_at de_int) dp_no))))
  , fun ds Kk h => by
    obtain ⟨⟨x, rfl, hx⟩, k⟩ := h
    rcases hx with ⟨xs, rfl, z, ts, rfl, h1, h2, h3⟩ | ⟨xs, rfl, z, ts, rfl, h1, h2, h3⟩ | ⟨a, b, rfl, h1, h2⟩
    · have := (nm_not h1).1
      simp [sRet, wAndV, wOrV, wNotV, wUn, wOp, wV, wB, wO, wC, wIfE, wTest, wTruth, wBand, wBor, wBnot, wChain, wSl, wPart, wTup, wLst, wCons, wNil, wCall, sIf, sSeq, sSet, sNew, sNext, sPass, sApp, sExt, sDrop, sAsg, gNm, gTp, gCs, gNl, startD, DS.put, wF, isaD, eqD, inSq, ixN, termsP, xr, this, cut_tl] at k ⊢
      exact k
    · simp [sRet, wAndV, wOrV, wNotV, wUn, wOp, wV, wB, wO, wC, wIfE, wTest, wTruth, wBand, wBor, wBnot, wChain, wSl, wPart, wTup, wLst, wCons, wNil, wCall, sIf, sSeq, sSet, sNew, sNext, sPass, sApp, sExt, sDrop, sAsg, gNm, gTp, gCs, gNl, startD, DS.put, wF, isaD, eqD, inSq, ixN, termsP, xr, cut_tl] at k ⊢
      exact k
    · have : (("unlike" : Str) = "not") = False := eq_false (by decide +kernel)
      simp [sRet, wAndV, wOrV, wNotV, wUn, wOp, wV, wB, wO, wC, wIfE, wTest, wTruth, wBand, wBor, wBnot, wChain, wSl, wPart, wTup, wLst, wCons, wNil, wCall, sIf, sSeq, sSet, sNew, sNext, sPass, sApp, sExt, sDrop, sAsg, gNm, gTp, gCs, gNl, startD, DS.put, wF, isaD, eqD, inSq, ixN, termsP, xr, cut_tl, this] at k ⊢
      exact k⟩
def oks : List D → Prop := fun ds => ∃ x ps, ds = [x] ∧ sqOf x = some ps ∧ ps.length ≤ 1000 ∧ ∀ p ∈ ps, okPart p
theorem sq_seq {x : D} {xs : List D} (h : sqOf x = some xs) : seqD x = some xs := by rcases sq_cases h with rfl | rfl <;> rfl
-- letters_in: slots 0 parts, 1 found, 2 part, 3 term
abbrev s_letters_in : Stmt := (top 31)
abbrev N_sc_letters_in : List Str := ["parts", "found", "part", "term"]
theorem sc_letters_in : FnScope N_sc_letters_in ["parts"] (defScope s_letters_in) := ⟨rfl, rfl, rfl, by decide +kernel, rfl, by decide +kernel, by decide +kernel⟩
theorem ok_letters_in (F : FnP K "letters_in" "letters_in" s_letters_in f fd) (T : Tx K mg) (C_terms_of : Cal P w K mg base "terms_of" 1 ["part"] (spD K (wF okp1 fun ds => .tup (termsP (ds.headD .non)))))
    (C_is_letter : Cal P w K mg base "is_letter" 1 ["thing"] (spD K (wF tame1 fun ds => .bl (isLt (ds.headD .non))))) :
    FnOk P w K mg base CX0 2 f fd ["parts"] (spF K (wF oks fun ds => .lst ((lettersP ((sqOf (ds.headD .non)).getD [])).map .str))) :=
  FnF F sc_letters_in (fun ds Kk h => by obtain ⟨⟨x, ps, rfl, _⟩, _⟩ := h; rfl) fun cdv A outer s H Fz E hr => ⟨_, 
(ds_cons (ds_new (i := 1) sc_letters_in.nd fe_d0)
 (ds_cons (ds_for (di_seq (de_v (i := 0))) (dg_name (i := 2) sc_letters_in.nd)
  (ds_one (ds_for (di_seq (de_call C_terms_of hr (da_cons (de_v (i := 2)) da_nil))) (dg_name (i := 3) sc_letters_in.nd)
  (ds_one (ds_if (dt_truth (de_call C_is_letter hr (da_cons (de_v (i := 3)) da_nil))) (ds_one (ds_dput hr (i := 1) de_bl (de_v (i := 3)))) ds_nil)))))
 (ds_one (ds_retF (fe_listK T.b_list (de_b (i := 1)))))))
  , fun ds Kk h => by
    obtain ⟨⟨x, ps, rfl, hs, hl, ho⟩, k⟩ := h
    have k : Kk (.lst ((lettersP ((sqOf x).getD [])).map .str)) := k
    rw [hs] at k
    have k : Kk (.lst ((lettersP ps).map .str)) := k
    simp only [sSeq, sNew, wC, sFor, wSq, wV, startD, DS.put]
    refine ⟨x, rfl, ps, sq_seq hs, ?_⟩
    let mk : List Str → List D → Option DV → Option DV → DS noR := fun acc vs x2 x3 => ⟨noG, [some (.fz x), some (.own (.dct ((acc.map Sum.inr : List Key).map kD) vs)), x2, x3]⟩
    refine forGo_ind (fun rest ρ => ∃ acc vs x2 x3, ρ = mk acc vs x2 x3 ∧ (rest.flatMap termsP).foldl addL acc = lettersP ps ∧ acc.length + 7 * rest.length ≤ 7000 ∧ ∀ p ∈ rest, okPart p) ?_ ?_ ps _ ⟨[], [], none, none, rfl, rfl, by simp; omega, ho⟩
    · rintro p rest N ρ hN ⟨acc, vs, x2, x3, rfl, hf, hlen, hok⟩
      have hp := hok p List.mem_cons_self
      obtain ⟨ht1, ht2⟩ := hp.terms
      rw [List.length_cons] at hlen
      refine ⟨p, rfl, ⟨p, rfl, hp⟩, termsP p, rfl, ?_⟩
      rw [List.flatMap_cons, List.foldl_append] at hf
      refine forGo_ind (fun tr ρ => ∃ acc' vs' x3', ρ = mk acc' vs' (some (.fz p)) x3' ∧ tr.foldl addL acc' = (termsP p).foldl addL acc ∧ acc'.length + tr.length ≤ acc.length + 6 ∧ ∀ t ∈ tr, isTm t = true) ?_ ?_ (termsP p) _ ⟨acc, vs, x3, rfl, rfl, by omega, List.all_eq_true.mp ht1⟩
      · rintro t tr N2 ρ hN2 ⟨acc', vs', x3', rfl, hf', hl', ht'⟩
        have htt := ht' t List.mem_cons_self
        rw [List.length_cons] at hl'
        refine ⟨t, rfl, ⟨t, rfl, tmB.tame (isTm_tmB htt)⟩, isLt t, rfl, ?_⟩
        cases hb : isLt t with
        | true =>
          refine itT ?_
          cases t with
          | str z =>
            refine ⟨⟨_, rfl⟩, .str z, rfl, .inr z, acc'.map Sum.inr, vs', rfl, rfl, by rw [List.length_map]; omega, hN2 _ ⟨if z ∈ acc' then acc' else acc' ++ [z], putVs (acc'.map Sum.inr) vs' (.inr z) (.bl true), some (.fz (.str z)), ?_, ?_, ?_, fun t h => ht' t (List.mem_cons_of_mem _ h)⟩⟩
            · rw [putKs_str]
              rfl
            · rw [List.foldl_cons] at hf'
              rw [← hf']
              have : addL acc' (.str z) = if z ∈ acc' then acc' else acc' ++ [z] := by
                have hb : strLt z = true := hb
                simp only [addL, hb]
                rfl
              rw [this]
            · split
              · omega
              · rw [List.length_append]; simp; omega
          | _ => cases hb
        | false =>
          refine itF (hN2 _ ⟨acc', vs', _, rfl, ?_, by omega, fun t h => ht' t (List.mem_cons_of_mem _ h)⟩)
          rw [List.foldl_cons] at hf'
          rw [← hf']
          have : addL acc' t = acc' := by
            cases t <;> simp only [addL]
            have hb : strLt _ = false := hb
            rw [hb]
            rfl
          rw [this]
      · rintro ρ ⟨acc', vs', x3', rfl, hf', hl', _⟩
        refine hN _ ⟨acc', vs', _, _, rfl, ?_, by simp at hl'; omega, fun q h => hok q (List.mem_cons_of_mem _ h)⟩
        have hf' : acc' = (termsP p).foldl addL acc := hf'
        rw [hf']
        exact hf
    · rintro ρ ⟨acc, vs, x2, x3, rfl, hf, hlen, hok⟩
      have hf : acc = lettersP ps := hf
      subst hf
      refine .inr ⟨_, rfl, _, rfl, ?_⟩
      have e : ((lettersP ps).map Sum.inr : List Key).map kD = (lettersP ps).map .str := by rw [List.map_map]; rfl
      rw [e]
      exact k⟩
end
end L03

set_option Elab.async false
set_option linter.all false
set_option maxRecDepth 100000
set_option maxHeartbeats 4000000
namespace L03
open PySem PySem.Spec PyProof.Rows L2 Q
theorem addL_fold_len : ∀ (ts : List D) (acc : List Str), (ts.foldl addL acc).length ≤ acc.length + ts.length
  | [], acc => by simp
  | t :: ts, acc => by
    have h1 := addL_fold_len ts (addL acc t)
    have h2 := addL_len acc t
    rw [List.foldl_cons, List.length_cons]
    omega
theorem flat_len : ∀ {ps : List D}, (∀ p ∈ ps, okPart p) → (ps.flatMap termsP).length ≤ 6 * ps.length
  | [], _ => by simp
  | p :: ps, h => by
    have h1 := (h p List.mem_cons_self).terms.2
    have h2 := flat_len fun q hq => h q (List.mem_cons_of_mem _ hq)
    rw [List.flatMap_cons, List.length_append, List.length_cons]
    omega
theorem lettersP_len {ps : List D} (h : ∀ p ∈ ps, okPart p) : (lettersP ps).length ≤ 6 * ps.length := by
  have h1 := addL_fold_len (ps.flatMap termsP) []
  have h2 := flat_len h
  unfold lettersP
  rw [List.length_nil] at h1
  omega
theorem strs_dat : ∀ zs : List Str, isDats (zs.map D.str) = true ∧ deps (zs.map D.str) = 0
  | [] => by simp
  | z :: zs => by
    obtain ⟨a, b⟩ := strs_dat zs
    simp [a, b]
theorem any_strs (z : Str) (zs : List Str) : ((zs.map D.str).any fun y => deq y (.str z)) = decide (z ∈ zs) := by
  induction zs with
  | nil => simp
  | cons y ys ih =>
    rw [List.map_cons, List.any_cons, ih]
    by_cases h : z = y
    · subst h; simp
    · have h' : ¬ y = z := fun e => h e.symm
      simp [h, h']
theorem inD_strs (n : Bool) (z : Str) (zs : List Str) : inD n (.str z) (.lst (zs.map .str)) = some (.bl (xr n (decide (z ∈ zs)))) := by
  rw [in_lst]
  unfold inSq
  obtain ⟨a, b⟩ := strs_dat zs
  rw [if_pos ⟨da_str z, a, by rw [b]; simp⟩, any_strs]
/-- letters of these parts that stand in no plain atom of the body -/
def looseP (ps body : List D) : List Str := (lettersP ps).filter fun z => !decide (z ∈ lettersP (body.filter plainP))
def oks2 : List D → Prop := fun ds => ∃ x y ps qs, ds = [x, y] ∧ sqOf x = some ps ∧ sqOf y = some qs ∧ ps.length ≤ 1000 ∧ qs.length ≤ 1000 ∧ (∀ p ∈ ps, okPart p) ∧ ∀ p ∈ qs, okPart p
section
variable {P : Program} {w : World} {K : PySem.W.Frag} {mg : Str → Option Value} {base : Heap} {f : Addr} {fd : FuncData}
-- loose_letters: slots 0 parts, 1 body, 2 held, 3 letter, 4 part
abbrev s_loose_letters : Stmt := (top 32)
abbrev N_sc_loose_letters : List Str := ["parts", "body", "held", "letter", "part"]
theorem sc_loose_letters : FnScope N_sc_loose_letters ["parts", "body"] (defScope s_loose_letters) := ⟨rfl, rfl, rfl, by decide +kernel, rfl, by decide +kernel, by decide +kernel⟩
theorem ok_loose_letters (F : FnP K "loose_letters" "loose_letters" s_loose_letters f fd) (T : Tx K mg) (C_is_plain : Cal P w K mg base "is_plain" 1 ["part"] (spD K (wF okp1 fun ds => .bl (plainP (ds.headD .non)))))
    (C_letters_in : Cal P w K mg base "letters_in" 2 ["parts"] (spF K (wF oks fun ds => .lst ((lettersP ((sqOf (ds.headD .non)).getD [])).map .str)))) :
    FnOk P w K mg base CX0 3 f fd ["parts", "body"] (spF K (wF oks2 fun ds => .lst ((looseP ((sqOf (ds.headD .non)).getD []) ((sqOf (ds.getD 1 .non)).getD [])).map .str))) :=
  FnF F sc_loose_letters (fun ds Kk h => by obtain ⟨⟨x, y, ps, qs, rfl, _⟩, _⟩ := h; rfl) fun cdv A outer s H Fz E hr => ⟨_, 
(ds_cons (ds_set (i := 2) sc_loose_letters.nd (FE.de (fe_call C_letters_in hr (da_cons (FE.de (fe_lc (own := [("part", 4)]) sc_loose_letters.nd (di_seq (de_v (i := 1))) (blkOk_by (own := [("part", 4)]) (N := N_sc_loose_letters) (sc := defScope s_loose_letters) (by decide +kernel)) (fun _ _ _ _ _ => (dg_name (i := 4) sc_loose_letters.nd)) (fun _ _ _ _ _ => (dts_one (dt_truth (de_call C_is_plain hr (da_cons (de_v (i := 4)) da_nil))))) (fun _ _ _ _ _ => (de_v (i := 4))))) da_nil))))
 (ds_one (ds_retF (fe_lc (own := [("letter", 3)]) sc_loose_letters.nd (di_seq (FE.de (fe_call C_letters_in hr (da_cons (de_v (i := 0)) da_nil)))) (blkOk_by (own := [("letter", 3)]) (N := N_sc_loose_letters) (sc := defScope s_loose_letters) (by decide +kernel)) (fun _ _ _ _ _ => (dg_name (i := 3) sc_loose_letters.nd)) (fun _ _ _ _ _ => (dts_one (dt_cm (c_ni hr) (de_v (i := 3)) (de_v (i := 2))))) (fun _ _ _ _ _ => (de_v (i := 3)))))))
  , fun ds Kk h => by
    obtain ⟨⟨x, y, ps, qs, rfl, hx, hy, l1, l2, o1, o2⟩, k⟩ := h
    have k : Kk (.lst ((looseP ((sqOf x).getD []) ((sqOf y).getD [])).map .str)) := k
    rw [hx, hy] at k
    have k : Kk (.lst ((looseP ps qs).map .str)) := k
    have ev : ∀ (zs : List D) (o : ∀ p ∈ zs, okPart p), zs.length ≤ 1000 → ((lettersP zs).length ≤ 6000) := fun zs o l => by
      have := lettersP_len o
      omega
    simp only [sSeq, sSet, wCall, wCons, wNil]
    show wLc (wSq (wV 1)) (gNm 4) (wTruth (wCall (wF okp1 fun ds => D.bl (plainP (ds.headD D.non))) (wCons (wV 4) wNil))) (wV 4) [4] ⟨noG, [some (.fz x), some (.fz y), none, none, none]⟩ _
    refine wLc_filter (ds := qs) (f := fun d => d) (p := plainP) (x := none) (fun K k => ⟨y, rfl, qs, sq_seq hy, k⟩) (by omega) rfl (fun _ h => by cases h) (fun d hd K k => ⟨d, rfl, ⟨d, rfl, o2 d hd⟩, _, rfl, k⟩) (fun d hd _ K k => ⟨d, rfl, k⟩) _ ?_
    rw [List.map_id']
    have of : ∀ p ∈ qs.filter plainP, okPart p := fun p hp => o2 p (List.mem_filter.mp hp).1
    have lf : (qs.filter plainP).length ≤ 1000 := Nat.le_trans (List.length_filter_le _ _) l2
    refine ⟨⟨_, qs.filter plainP, rfl, rfl, lf, of⟩, ?_⟩
    show wLc (wSq (wCall (wF oks fun ds => D.lst (List.map D.str (lettersP ((sqOf (ds.headD D.non)).getD [])))) (wCons (wV 0) wNil))) (gNm 3) (wTest (wOp (inD true) (wV 3) (wV 2))) (wV 3) [3]
      ⟨noG, [some (.fz x), some (.fz y), some (.fz (.lst ((lettersP (qs.filter plainP)).map .str))), none, none]⟩ _
    refine wLc_fm (α := Str) (h := .str) (xs := lettersP ps) (p := fun z => !decide (z ∈ lettersP (qs.filter plainP))) (f := .str) (x := none) (fun K k => ⟨x, rfl, ⟨x, ps, rfl, hx, l1, o1⟩, (lettersP ps).map .str, ?_, k⟩) (by have := ev ps o1 l1; omega) rfl (fun _ h => by cases h)
      (fun z hz K k => ⟨.str z, rfl, _, rfl, _, inD_strs true z (lettersP (qs.filter plainP)), _, rfl, ?_⟩) (fun z hz _ K k => ⟨.str z, rfl, k⟩) _ ?_
    · exact k
    · show seqD (.lst ((lettersP ((sqOf x).getD [])).map .str)) = _
      rw [hx]
      rfl
    · have e : xr true (decide (z ∈ lettersP (qs.filter plainP))) = !decide (z ∈ lettersP (qs.filter plainP)) := by cases decide (z ∈ lettersP (qs.filter plainP)) <;> rfl
      rw [e]
      exact k⟩
end
end L03

set_option Elab.async false
set_option linter.all false
set_option maxRecDepth 100000
set_option maxHeartbeats 4000000
/-! enumerate over a tuple -/
namespace Q
open PySem PySem.Spec PyProof.Rows L2
theorem meets_enumerate_new1B {v : Value} {ob : Obj} {H : Heap → Prop} (B : Begins v ob H) :
    Meets (Builtin.«enumerate.__new__» ⟨[.type "enumerate", v], []⟩) (fun _ R s => H s.heap ∧
      R (.ok (.ret (.ref (s.heap.push ob).objs.size))) { s with heap := (s.heap.push ob).push { cls := .type "enumerate", data := .fields #[.none, .bool false, .ref s.heap.objs.size, rawInt 0, .none, .none] } }) :=
  .of_wp fun prog w A R s h => by
    obtain ⟨hp, g, d, tk2, os⟩ := s; obtain ⟨hV, h⟩ := h
    have subE := sub_enumerate
    have iterV : ∀ {A' : Around} {E : Value → Shared → Prop} {Q : Value → Shared → Prop}, Q (.ref hp.objs.size) ⟨hp.push ob, g, d, tk2, os⟩ → wpAny (model prog w) A' (pyIter v) Q E ⟨hp, g, d, tk2, os⟩ :=
      fun q => B.iter prog w _ _ ⟨hp, g, d, tk2, os⟩ _ hV q
    wp_walk using iterV
    refine wpAny_stack_any fun now => wpAny_pure ?_
    split
    · rename_i c _ _ _ _ _
      cases (c == Value.type "enumerate")
      · wp_walk using iterV
        exact ⟨_, rfl, h⟩
      · wp_walk using iterV
        exact ⟨_, rfl, h⟩
    · wp_walk using iterV
      exact ⟨_, rfl, h⟩
theorem enum_begins1 {prog : Program} {w : World} {A : Around} {E : Value → Shared → Prop} {s : Shared} {v : Value} {ob : Obj} {H : Heap → Prop} {Q : Value → Shared → Prop} (B : Begins v ob H) (hV : H s.heap)
    (h : ∀ hp2, IsEnum hp2 (s.heap.objs.size + 1) s.heap.objs.size 0 .none → hp2.get? s.heap.objs.size = some ob → hp2.objs.size = s.heap.objs.size + 2 →
      (∀ b ob, s.heap.get? b = some ob → hp2.get? b = some ob) → Q (.ref (s.heap.objs.size + 1)) { s with heap := hp2 }) :
    wpAny (model prog w) A (call (.type "enumerate") [v]) Q E s := by
  refine callType_new F.called_enumerate (by decide) (F.typeCall_enumerate_1 _) (F.newCall_enumerate_1 _) (fun obj => F.args_object_init_2 obj _) F.entry_enumerate_new
    (meets_enumerate_new1B B) ⟨hV, ?_⟩
  have zlen : (s.heap.push ob).objs.size = s.heap.objs.size + 1 := Heap.size_push ..
  show _ ∧ _
  rw [zlen]
  have enAt : IsEnum ((s.heap.push ob).push { cls := .type "enumerate", data := .fields #[.none, .bool false, .ref s.heap.objs.size, rawInt 0, .none, .none] }) (s.heap.objs.size + 1) s.heap.objs.size 0 .none := by
    have := Heap.get?_push_size (s.heap.push ob) (o := { cls := .type "enumerate", data := .fields #[.none, .bool false, .ref s.heap.objs.size, rawInt 0, .none, .none] }) rfl
    rw [zlen] at this; exact this
  refine ⟨⟨_, enAt, rfl⟩, h _ enAt (Heap.get?_push_of_some _ (Heap.get?_push_size _ B.free)) (by rw [Heap.size_push, zlen]) fun b ob x => Heap.get?_push_of_some _ (Heap.get?_push_of_some _ x)⟩
/-- the tuple at a, each item in a fresh1 pair -/
def IteT (K : PySem.W.Frag) (a : Addr) : It :=
  ⟨fun i H => ∃ (xs : List V) (x : V), SqT K H a xs ∧ xs[i]? = some x, fun i H v H' => ∃ T x, v = .ref T ∧ H T = none ∧ H' = upd H T (.tup [.int (i : Nat), x]) ∧ ∀ xs, SqT K H a xs → xs[i]? = some x, fun i H => ∃ xs : List V, SqT K H a xs ∧ xs.length ≤ i⟩
theorem turn_enumT {P : Program} {w : World} {K : PySem.W.Frag} {elts : List Expr} {kk : Nat} {tpos : Pos} (a e it : Addr) (hai : a ≠ it) (hae : a ≠ e) :
    Turn P w K (.Tuple elts kk tpos) (IteT K a) [e, it] e (fun i h => (∃ was, IsEnum h e it ((i : Nat) : Int) was) ∧ h.IsTupleIter it a i ∧ e ≠ it) where
  mem := by simp
  obj := fun i h now b inB => by
    obtain ⟨⟨was, enAt⟩, ⟨ob, oAt, cAt, dAt⟩, _⟩ := now
    have be : b = e ∨ b = it := by simpa using inB
    rcases be with z | z
    · rw [z]; exact ⟨_, enAt, fun v q => nomatch q⟩
    · rw [z]; exact ⟨ob, oAt, fun v q => by rw [dAt] at q; cases q⟩
  keep := fun i h hp2 now k => let ⟨⟨was, enAt⟩, hi, eNe⟩ := now; ⟨⟨was, k e (by simp) _ enAt⟩, hi.at fun ob q => k it (by simp) ob q, eNe⟩
  item := by
    intro X eP eW eK cAt i pn s σ H E J fpOk0 now goes
    subst eP eW eK
    obtain ⟨⟨was, enAt⟩, itAt, eNe⟩ := now
    obtain ⟨xs, x, sq, xAt⟩ := goes
    obtain ⟨vals, rvals, p, zlen⟩ := J.tuple sq
    obtain ⟨u, uAt, rel1⟩ := rvals.get xAt
    have tup0 : s.heap.IsTuple a vals.toArray := p
    have ltE : e < s.heap.objs.size := Heap.lt_size enAt
    have ltI : it < s.heap.objs.size := by obtain ⟨_, q, _⟩ := itAt; exact Heap.lt_size q
    have noEx : X.A.in1.handled = none := J.ok.hd cAt
    have uAt2 : vals.toArray[i]? = some u := by simpa using uAt
    have iLt : i < vals.toArray.size := (Array.getElem?_eq_some_iff.mp uAt2).1
    refine wpAny_pyNext_enum_itemD (Draws.tuple noEx it a hai vals.toArray) enAt ⟨itAt, tup0⟩ iLt eNe (fun z => by
      rcases List.mem_cons.mp z with q | q
      · exact eNe q
      · exact hae (List.mem_singleton.mp q).symm) fun y hp2 tk2 eP oAt stN tAt sz2 kp2 => ?_
    have ey : y = u := by rw [uAt2] at eP; exact (Option.some.inj eP).symm
    subst ey
    refine ⟨_, rfl, wpAny_letOwnedTupleGo_enum (s := { s with heap := hp2, toks := tk2 + 1 }) oAt fun hp3 he' same1 => ?_⟩
    have tAt2 : hp3.get? s.heap.objs.size = some { cls := .type "tuple", data := .seq #[.int i tk2, y] } := (same1.2 _ (Nat.ne_of_gt ltE)).trans tAt
    have fresh1 : ObjOk X.prog X.w (upd H s.heap.objs.size (.tup [.int (i : Nat), x])) hp3 s.heap.objs.size (.tup [.int (i : Nat), x]) :=
      ⟨by show 2 ≤ sizeLine; decide, [.int i tk2, y], .cons ⟨_, rfl⟩ (.cons rel1 .nil), ⟨_, tAt2, rfl, _, rfl⟩⟩
    have J1 : Inv X pn σ (upd H s.heap.objs.size (.tup [.int (i : Nat), x])) { s with heap := hp3, toks := tk2 + 1 } :=
      J.turnedNew (ch := [e, it]) (fun b ob inB q => (same1.2 b (fun z => inB (by simp [z]))).trans (kp2 b ob (fun z => inB (by simp [z])) (fun z => inB (by simp [z])) q)) fpOk0 (Nat.le_refl _) fresh1
    refine ⟨.ref s.heap.objs.size, _, J1, rfl, ⟨_, x, rfl, J.hok.fresh (Nat.le_refl _), rfl, fun ys hy => by rw [J.tuple_inj hy sq]; exact xAt⟩, ⟨⟨y, ?_⟩, stN.1.at fun ob q => (same1.2 it (Ne.symm eNe)).trans q, eNe⟩, fun b inB => ?_⟩
    · have e1 : ((i + 1 : Nat) : Int) = (i : Int) + 1 := by omega
      rw [e1]; exact he'
    · have ltB : b < s.heap.objs.size := by
        have be : b = e ∨ b = it := by simpa using inB
        rcases be with z | z
        · rw [z]; exact ltE
        · rw [z]; exact ltI
      rw [upd_ne (Nat.ne_of_lt ltB)]
      exact (fpOk0 b inB).1
  done := by
    intro X eP eW eK cAt i pn s σ H E J fpOk0 now goes
    subst eP eW eK
    obtain ⟨⟨was, enAt⟩, itAt, eNe⟩ := now
    obtain ⟨xs, sq, xAt⟩ := goes
    obtain ⟨vals, rvals, p, zlen⟩ := J.tuple sq
    have tup0 : s.heap.IsTuple a vals.toArray := p
    obtain ⟨f0, f1, f2, f3, f4, f5⟩ := fpOk0 it (by simp)
    have noEx : X.A.in1.handled = none := J.ok.hd cAt
    have rlen := rvals.length
    have noX : vals.toArray[i]? = none := by
      rw [Array.getElem?_eq_none_iff]
      simp
      omega
    have enT : s.TypeIs (.ref e) "enumerate" := ⟨_, enAt, rfl⟩
    unfold pyNext
    refine wpAny_bind (wpAny_attempt (wpAny_callSpecial?_slot (name := Str.ofString "__next__") enT F.slot_enumerate_next
      (wpAny_call_entry F.slot_enumerate_next enT F.entry_enumerate_next ?_ (F.args_enumerate_next_1 _))))
    show wpAny _ _ (field (.ref e) 2 >>= _) _ _ _
    refine wpAny_bind (wpAny_field enAt rfl (x := .ref it) rfl ?_)
    refine wpAny_bind (wpAny_nextOf_tuple_end noEx itAt tup0 noX fun hp2 x he' xEx => ?_)
    obtain ⟨ob, oAt, hc'⟩ := xEx
    refine wpAny_bind (wpAny_isInstance (T := "StopIteration") (b := true) ⟨ob, oAt, hc'⟩ isSubtype_stop ?_)
    exact wpAny_pure ⟨rfl, J.turned (t' := s.toks) (fun b ob inB e => he' b ob inB e) f0 f1 f3 f4 f5⟩
  self := fun A i s Q E now h => let ⟨⟨_, enAt⟩, _⟩ := now; wpAny_pyIter_enum enAt h
theorem walks_enumT {K : PySem.W.Frag} {F0 : Hp} {a : Addr} {vs : List V} {ds : List D} (h : SqT K F0 a vs) (r : Reps K F0 vs ds) : Walks K F0 (IteT K a) (enumD 0 ds) where
  go := fun F H i s1 s2 hi => by
    rw [enumD_length] at hi
    have hs : SqT K H a vs := SqT.same s2 (SqT.same s1 h)
    obtain ⟨v, hv, rvals⟩ := r.get' (List.getElem?_eq_getElem hi)
    refine ⟨⟨vs, v, hs, hv⟩, fun x H' ⟨q, y, e1, e2, e3, e4⟩ => ?_⟩
    have := e4 vs hs
    rw [hv] at this
    cases this
    obtain ⟨al, rp⟩ := al_tup (K := K) (us := [.int ((i : Nat) : Int), v]) (es := [.int ((i : Nat) : Int), ds[i]]) s2 e2 (.cons (.int _) (.cons (rvals.same s1) .nil))
    refine ⟨_, _, enumD_get 0 ds i _ (List.getElem?_eq_getElem hi), by rw [e3]; exact al, by rw [e1, Nat.zero_add]; exact rp⟩
  stop := fun F H s1 s2 => ⟨vs, SqT.same s2 (SqT.same s1 h), by rw [enumD_length, r.length]; exact Nat.le_refl _⟩
/-- enumerate over a list or a tuple -/
def wEnA {R : Rgn} (we : WE R) : WI R := fun ρ K => we ρ fun d ρ1 => ∃ ds, (d = .lst ds ∨ d = .tup ds) ∧ K (enumD 0 ds) ρ1
section
variable {X : Cx} {c : Ctx} {e : Expr} {p pos : Pos} {pa : Bool} {we : WE c.R}
theorem pi_enumA {ta : TA} {tpos : Pos} {elts : List Expr} {kk : Nat} (goes : Gl X "enumerate") (hm : X.mg "enumerate" = none) (ha : PA X [e] ta) (hs : starEach [e] X.env = [(false, eval e X.env)] := by rfl) :
    PI X (.Tuple elts kk tpos) (.Call (.Name "enumerate" p) [e] [] pos) (fun σ H R => ta σ H fun vs H1 => ∃ a xs, vs = [.ref a] ∧ ((SqL X.K H1 a xs ∧ R (Ite X.K a) H1) ∨ (SqT X.K H1 a xs ∧ R (IteT X.K a) H1))) := by
  refine ⟨fun pn s σ H R J h => ?_⟩
  refine Call_ (ld_blt J goes hm boot_enumerate (PyProof.Rows.callWith_type1 (thn (ha.run pos pn s σ H _ J h) fun us s1 ⟨vs, H1, J1, r1, iterV⟩ => ?_) hs rfl))
  obtain ⟨a, xs, ex, q⟩ := iterV
  subst ex
  cases r1 with
  | cons r rs2 =>
    cases rs2
    cases r
    rcases q with ⟨sq, q⟩ | ⟨sq, q⟩
    · obtain ⟨vals, rvals, pl, zlen⟩ := J1.list sq
      refine call_enumerate_list pl.isList fun hp2 enAt itAt sz2 kp2 => wpAny_pyIter_enum enAt ?_
      have J2 : Inv X pn σ H1 { s1 with heap := hp2 } := J1.kept (t' := s1.toks) kp2
      refine ⟨s1.heap.objs.size + 1, [s1.heap.objs.size + 1, s1.heap.objs.size], _, _, H1, rfl, J2, turn_enum a (s1.heap.objs.size + 1) s1.heap.objs.size, ⟨⟨.none, enAt⟩, itAt, Nat.succ_ne_self _⟩, fun b inB => ?_, q⟩
      have be : b = s1.heap.objs.size + 1 ∨ b = s1.heap.objs.size := by simpa using inB
      have leB : s1.heap.objs.size ≤ b := by
        rcases be with z | z
        · rw [z]; exact Nat.le_add_right _ _
        · rw [z]; exact Nat.le_refl _
      exact J1.fpOk leB (J1.hok.fresh leB)
    · obtain ⟨vals, rvals, pl, zlen⟩ := J1.tuple sq
      have tup0 : s1.heap.IsTuple a vals.toArray := pl
      have ltA : a < s1.heap.objs.size := by obtain ⟨_, q, _⟩ := tup0; exact Heap.lt_size q
      refine enum_begins1 (begins_tuple a vals.toArray) tup0 fun hp2 enAt itAt sz2 kp2 => wpAny_pyIter_enum enAt ?_
      have J2 : Inv X pn σ H1 { s1 with heap := hp2 } := J1.kept (t' := s1.toks) kp2
      refine ⟨s1.heap.objs.size + 1, [s1.heap.objs.size + 1, s1.heap.objs.size], _, _, H1, rfl, J2, turn_enumT a (s1.heap.objs.size + 1) s1.heap.objs.size (Nat.ne_of_lt ltA) (Nat.ne_of_lt (Nat.lt_succ_of_lt ltA)), ⟨⟨.none, enAt⟩, ⟨_, itAt, rfl, rfl⟩, Nat.succ_ne_self _⟩, fun b inB => ?_, q⟩
      have be : b = s1.heap.objs.size + 1 ∨ b = s1.heap.objs.size := by simpa using inB
      have leB : s1.heap.objs.size ≤ b := by
        rcases be with z | z
        · rw [z]; exact Nat.le_add_right _ _
        · rw [z]; exact Nat.le_refl _
      exact J1.fpOk leB (J1.hok.fresh leB)
theorem di_enumA {elts : List Expr} {kk : Nat} {tpos : Pos} (hm : X.mg "enumerate" = none) (enAt : DE X c pa false e we) (goes : Gl X "enumerate" := by rfl) (hV : starEach [e] X.env = (false, eval e X.env) :: starEach [] X.env := by rfl) (hs : starEach [e] X.env = [(false, eval e X.env)] := by rfl) : DI X c (.Tuple elts kk tpos) (.Call (.Name "enumerate" p) [e] [] pos) (wEnA we) :=
  ⟨(pi_enumA goes hm (pa_cons enAt.pe pa_nil hV) hs).imp fun σ H R ⟨ρ, F, O, Kk, S, w, k⟩ => ⟨ρ, F, O, _, S, w, fun d ρ1 v F1 H1 ⟨ds, dAt, kp2⟩ S1 fs1 ko1 g1 r1 => by
    rw [enAt.kk]
    rcases dAt with rfl | rfl
    · cases r1 with
      | lst h r => exact ⟨_, _, rfl, .inl ⟨SqL.of (S1.sub _ _ h), k _ ρ1 F1 H1 _ kp2 S1 fs1 ko1 (walks_enum h r)⟩⟩
    · cases r1 with
      | tup h r => exact ⟨_, _, rfl, .inr ⟨SqT.same S1.sub h, k _ ρ1 F1 H1 _ kp2 S1 fs1 ko1 (walks_enumT h r)⟩⟩⟩⟩
end
end Q

set_option Elab.async false
set_option linter.all false
set_option maxRecDepth 100000
set_option maxHeartbeats 4000000
/-! dict comprehensions over texts -/
namespace Q
open PySem PySem.Spec PyProof.Rows L2
def addS (acc : List Str) (z : Str) : List Str := if z ∈ acc then acc else acc ++ [z]
/-- each once, as they come -/
def onceS (zs : List Str) : List Str := zs.foldl addS []
section
variable {R : Rgn} {ρ : DS R} {wk wv : WE R} {wi : WI R} {i : Nat}
theorem dcGo_strs {K : List Key → List D → DS R → Prop} {v : D} : ∀ (zs acc : List Str) (vs : List D), (∀ z ∈ zs, Ev wk (ρ.put i (some (.fz (.str z)))) (.str z)) → (∀ z ∈ zs, Ev wv (ρ.put i (some (.fz (.str z)))) v) →
    (∀ vs', K ((zs.foldl addS acc).map Sum.inr) vs' (ρ.put i none)) → dcGo (gNm i) wYes wk wv [i] K (zs.map D.str) (acc.map Sum.inr) vs (ρ.put i none)
  | [], acc, vs, _, _, k => k vs
  | z :: zs, acc, vs, h1, h2, k => by
    rw [List.map_cons]
    unfold dcGo
    simp only [gNm, wYes]
    rw [put_put, if_pos trivial]
    refine h1 z List.mem_cons_self _ (h2 z List.mem_cons_self _ ⟨.inr z, rfl, ?_⟩)
    have e : (⟨(ρ.put i (some (DV.fz (.str z)))).g, wipeL (ρ.put i (some (DV.fz (.str z)))).sl [i]⟩ : DS R) = ρ.put i none := put_put
    rw [e, putKs_str]
    exact dcGo_strs zs (addS acc z) _ (fun y m => h1 y (List.mem_cons_of_mem _ m)) (fun y m => h2 y (List.mem_cons_of_mem _ m)) k
theorem wDc_strs {zs : List Str} {v : D} {x : Option DV} (hi : EvI wi ρ (zs.map D.str)) (hz : zs.length ≤ 100000) (hx : ρ.sl[i]? = some x) (no : ∀ d, x ≠ some (.own d)) (h1 : ∀ z ∈ zs, Ev wk (ρ.put i (some (.fz (.str z)))) (.str z))
    (h2 : ∀ z ∈ zs, Ev wv (ρ.put i (some (.fz (.str z)))) v) (K : D → DS R → Prop) (k : ∀ vs, K (.dct (((onceS zs).map Sum.inr : List Key).map kD) vs) ρ) : wDc wi (gNm i) wYes wk wv [i] ρ K := by
  refine hi _ ⟨by rw [List.length_map]; exact hz, fun j m d q => ?_, ?_⟩
  · have e : j = i := by simpa using m
    subst e
    rw [hx] at q
    exact no d (Option.some.inj q)
  · refine dcGo_strs zs [] [] h1 h2 fun vs => ?_
    have : (⟨(ρ.put i none).g, backL ρ.sl (ρ.put i none).sl [i]⟩ : DS R) = ρ := by
      show (⟨ρ.g, (ρ.sl.set i none).set i (ρ.sl.getD i none)⟩ : DS R) = ρ
      rw [List.set_set, List.getD_eq_getElem?_getD, hx]
      exact put_back hx
    rw [this]
    exact k vs
end
end Q

set_option Elab.async false
set_option linter.all false
set_option maxRecDepth 100000
set_option maxHeartbeats 4000000
namespace L03
open PySem PySem.Spec PyProof.Rows L2 Q
def strOf : D → Str
  | .str z => z
  | _ => ""
theorem lts_strs : ∀ {xs : List D}, xs.all isLt = true → xs = (xs.map strOf).map D.str
  | [], _ => rfl
  | x :: xs, h => by
    rw [List.all_cons, Bool.and_eq_true] at h
    have ih := lts_strs h.2
    cases x <;> simp [isLt] at h
    rw [List.map_cons, List.map_cons, ← ih]
    rfl
theorem wLc_via {R : Rgn} {wi : WI R} {g : WG R} {wt : WB R} {we : WE R} {vs : List Nat} {ρ ρ' : DS R} {ds : List D} (h : ∀ K' : List D → DS R → Prop, K' ds ρ' → wi ρ K') (K : D → DS R → Prop) (k : wLc (fun ρ K => K ds ρ) g wt we vs ρ' K) : wLc wi g wt we vs ρ K := h _ k
end L03

set_option Elab.async false
set_option linter.all false
set_option maxRecDepth 100000
set_option maxHeartbeats 4000000
namespace L03
open PySem PySem.Spec PyProof.Rows L2 Q
/-! rules -/
def asRule (d : D) : D := match sqOf d with
  | some [h, b] => if isNon (asAtom h) || isNon (asBody b) then .non else .tup [asAtom h, asBody b]
  | _ => .non
theorem asBody_cases (d : D) : asBody d = .non ∨ ∃ xs, sqOf d = some xs ∧ (∀ x ∈ xs, okPart (asPart x)) ∧ asBody d = .tup (xs.map asPart) := by
  unfold asBody
  cases h : sqOf d with
  | none => exact .inl rfl
  | some xs =>
    by_cases q : xs.any (fun x => isNon (asPart x)) = true
    · exact .inl (if_pos q)
    · refine .inr ⟨xs, rfl, fun x hx => ?_, if_neg q⟩
      rcases asPart_cases x with h | h
      · exact absurd (List.any_eq_true.mpr ⟨x, hx, by rw [h]; rfl⟩) q
      · exact h
/-- a rule, as it is told -/
def okRule (d : D) : Prop := ∃ (hd body : List D), d = .tup [.tup hd, .tup body] ∧ okRow hd ∧ (∀ p ∈ body, okPart p) ∧ body.length ≤ 900
def smallR (d : D) : Prop := ∀ hd body, asRule d = .tup [hd, .tup body] → body.length ≤ 900
theorem asRule_cases (d : D) (s : smallR d) : asRule d = .non ∨ okRule (asRule d) := by
  by_cases hn : asRule d = .non
  · exact .inl hn
  · right
    have : ∃ hd body, asRule d = .tup [.tup hd, .tup body] ∧ okRow hd ∧ ∀ p ∈ body, okPart p := by
      unfold asRule at hn ⊢
      split
      · rename_i h b hs
        simp only [hs] at hn
        rcases asAtom_cases h with h1 | ⟨xs, _, r1, r2, h1⟩
        · rw [h1] at hn; exact absurd rfl hn
        · rcases asBody_cases b with h3 | ⟨zs, _, z2, h3⟩
          · rw [h1, h3] at hn; exact absurd rfl hn
          · rw [h1, h3]
            exact ⟨xs, _, rfl, okRow_of r1 r2, fun q hq => by
              obtain ⟨z, hz, rfl⟩ := List.mem_map.mp hq
              exact z2 z hz⟩
      · rename_i hs
        split at hn
        · rename_i hs2
          exact absurd hs2 (hs _ _)
        · exact absurd rfl hn
    obtain ⟨hd, body, e, h1, h2⟩ := this
    exact ⟨hd, body, e, h1, h2, s _ _ e⟩
def atomP : D → D
  | .tup (.str z :: r) => if z = "not" then r.headD .non else if z = "unlike" then .non else .tup (.str z :: r)
  | _ => .non
theorem ne_un : ¬ ("unlike" : Str) = "not" := by decide
def isAt (d : D) : Prop := ∃ xs, d = .tup xs ∧ okRow xs
theorem okPart.atom {p : D} (h : okPart p) : atomP p = .non ∨ isAt (atomP p) := by
  rcases h with ⟨xs, rfl, o⟩ | ⟨xs, rfl, o⟩ | ⟨a, b, rfl, h1, h2⟩
  · obtain ⟨z, ts, rfl, h1, h2, h3⟩ := o
    obtain ⟨e1, e2⟩ := nm_not h1
    exact .inr ⟨_, by simp [atomP, e1, e2], z, ts, rfl, h1, h2, h3⟩
  · exact .inr ⟨xs, by simp [atomP], o⟩
  · exact .inl (by simp [atomP, ne_un])
/-- the atoms of a rule: its head's, its body's -/
def atomsR : D → List D
  | .tup [h, .tup body] => h :: (body.map atomP).filter fun a => !isNon a
  | _ => []
def looseR : D → List Str
  | .tup [h, .tup body] => looseP (h :: body.filter fun p => !plainP p) body
  | _ => []
theorem atomsR_ok {d : D} (h : okRule d) : (∀ a ∈ atomsR d, isAt a) ∧ (atomsR d).length ≤ 901 := by
  obtain ⟨hd, body, rfl, oh, ob, lb⟩ := h
  refine ⟨fun a ha => ?_, ?_⟩
  · rcases List.mem_cons.mp ha with rfl | ha
    · exact ⟨hd, rfl, oh⟩
    · obtain ⟨h1, h2⟩ := List.mem_filter.mp ha
      obtain ⟨p, hp, rfl⟩ := List.mem_map.mp h1
      rcases (ob p hp).atom with h | h
      · rw [h] at h2; cases h2
      · exact h
  · have := List.length_filter_le (fun a => !isNon a) (body.map atomP)
    rw [List.length_map] at this
    simp only [atomsR, List.length_cons]
    omega
def okr1 : List D → Prop := fun ds => ∃ x, ds = [x] ∧ okRule x
section
variable {P : Program} {w : World} {K : PySem.W.Frag} {mg : Str → Option Value} {base : Heap} {f : Addr} {fd : FuncData}
-- as_rule: slots 0 thing, 1 head, 2 body
abbrev s_as_rule : Stmt := (top 27)
abbrev N_sc_as_rule : List Str := ["thing", "head", "body"]
theorem sc_as_rule : FnScope N_sc_as_rule ["thing"] (defScope s_as_rule) := ⟨rfl, rfl, rfl, by decide +kernel, rfl, by decide +kernel, by decide +kernel⟩
theorem ok_as_rule (F : FnP K "as_rule" "as_rule" s_as_rule f fd) (T : Tx K mg) (C_as_atom : Cal P w K mg base "as_atom" 4 ["thing"] (spD K (wF tmd1 fun ds => asAtom (ds.headD .non))))
    (C_as_body : Cal P w K mg base "as_body" 7 ["thing"] (spD K (wF tmd1 fun ds => asBody (ds.headD .non)))) :
    FnOk P w K mg base CX0 8 f fd ["thing"] (spD K (wF tmd1 fun ds => asRule (ds.headD .non))) :=
  FnD F sc_as_rule (fun ds Kk h => by obtain ⟨⟨x, rfl, _⟩, _⟩ := h; rfl) fun cdv A outer s H Fz E hr => ⟨_, 
(ds_cons (ds_if (DW.dt (dw_or (dt_not (dt_truth (de_isN T.b_isinstance (tns_cons (TyN.mk (t := .list) (by rfl) T.b_list (by decide +kernel) (by decide) (by decide)) (tns_cons (TyN.mk (t := .tuple) (by rfl) T.b_tuple (by decide +kernel) (by decide) (by decide)) tns_nil)) (de_v (i := 0))))) (dw_or1 (dt_cm (c_ne hr) (de_len T.b_len (de_v (i := 0))) de_int)))) (ds_one (ds_ret de_non)) ds_nil)
 (ds_cons (ds_set (i := 1) sc_as_rule.nd (de_call C_as_atom hr (da_cons (de_ixA (de_v (i := 0)) de_int) da_nil)))
 (ds_cons (ds_set (i := 2) sc_as_rule.nd (de_call C_as_body hr (da_cons (de_ixA (de_v (i := 0)) de_int) da_nil)))
 (ds_cons (ds_if (DW.dt (dw_or (dt_cm c_is (de_v (i := 1)) de_non) (dw_or1 (dt_cm c_is (de_v (i := 2)) de_non)))) (ds_one (ds_ret de_non)) ds_nil)
 (ds_one (ds_ret (de_tup (da_cons (de_v (i := 1)) (da_cons (de_v (i := 2)) da_nil)))))))))
  , fun ds Kk h => by
    obtain ⟨⟨x, rfl, hx⟩, k⟩ := h
    cases hs : sqOf x with
    | none =>
      cases x <;> simp at hs hx
      all_goals (simp [sRet, wAndV, wOrV, wNotV, wUn, wOp, wV, wB, wO, wC, wIfE, wTest, wTruth, wBand, wBor, wBnot, wChain, wSl, wPart, wTup, wLst, wCons, wNil, wCall, sIf, sSeq, sSet, sNew, sNext, sPass, sApp, sExt, sDrop, sAsg, gNm, gTp, gCs, gNl, startD, DS.put, wF, isaD, eqD, inSq, asRule] at k ⊢; exact k)
    | some xs =>
      have hx' := sq_tms hs hx
      by_cases h4 : xs.length = 2
      · match xs, h4 with
        | [h, p], _ =>
          have hh : tmB h = true := by simp at hx'; exact hx'.1
          have hp : tmB p = true := by simp at hx'; exact hx'.2
          replace k : Kk (asRule x) := k
          have e : asRule x = if isNon (asAtom h) || isNon (asBody p) then .non else .tup [asAtom h, asBody p] := by simp only [asRule, hs]
          rw [e] at k
          rcases sq_cases hs with rfl | rfl <;>
          · simp [sRet, wAndV, wOrV, wNotV, wUn, wOp, wV, wB, wO, wC, wIfE, wTest, wTruth, wBand, wBor, wBnot, wChain, wSl, wPart, wTup, wLst, wCons, wNil, wCall, sIf, sSeq, sSet, sNew, sNext, sPass, sApp, sExt, sDrop, sAsg, gNm, gTp, gCs, gNl, startD, DS.put, wF, isaD, eqD, inSq, ixN, xr, hh, hp]
            rcases asAtom_cases h with h1 | ⟨xs, _, r1, r2, h1⟩ <;> rcases asBody_cases p with h3 | ⟨zs, _, _, h3⟩ <;>
            · rw [h1, h3] at k ⊢; simp [isNon] at k ⊢; exact k
      · have h5 : ¬ (xs.length : Int) = 2 := by omega
        have e : asRule x = .non := by
          unfold asRule
          rw [hs]
          split
          · rename_i e
            cases e
            exact absurd rfl h4
          · rfl
        replace k : Kk (asRule x) := k
        rw [e] at k
        rcases sq_cases hs with rfl | rfl <;>
        · simp [sRet, wAndV, wOrV, wNotV, wUn, wOp, wV, wB, wO, wC, wIfE, wTest, wTruth, wBand, wBor, wBnot, wChain, wSl, wPart, wTup, wLst, wCons, wNil, wCall, sIf, sSeq, sSet, sNew, sNext, sPass, sApp, sExt, sDrop, sAsg, gNm, gTp, gCs, gNl, startD, DS.put, wF, isaD, eqD, inSq, h4, h5, xr] at k ⊢
          exact k⟩
-- atom_of: slots 0 part
abbrev s_atom_of : Stmt := (top 29)
abbrev N_sc_atom_of : List Str := ["part"]
theorem sc_atom_of : FnScope N_sc_atom_of ["part"] (defScope s_atom_of) := ⟨rfl, rfl, rfl, by decide +kernel, rfl, by decide +kernel, by decide +kernel⟩
theorem ok_atom_of (F : FnP K "atom_of" "atom_of" s_atom_of f fd) (T : Tx K mg) :
    FnOk P w K mg base CX0 1 f fd ["part"] (spD K (wF okp1 fun ds => atomP (ds.headD .non))) :=
  FnD F sc_atom_of (fun ds Kk h => by obtain ⟨⟨x, rfl, _⟩, _⟩ := h; rfl) fun cdv A outer s H Fz E hr => ⟨_, 
(ds_cons (ds_if (dt_cm (c_eq hr) (de_ixA (de_v (i := 0)) de_int) de_str) (ds_one (ds_ret (de_ixA (de_v (i := 0)) de_int))) ds_nil)
 (ds_cons (ds_if (dt_cm (c_eq hr) (de_ixA (de_v (i := 0)) de_int) de_str) (ds_one (ds_ret de_non)) ds_nil)
 (ds_one (ds_ret (de_v (i := 0))))))
  , fun ds Kk h => by
    obtain ⟨⟨x, rfl, hx⟩, k⟩ := h
    rcases hx with ⟨xs, rfl, z, ts, rfl, h1, h2, h3⟩ | ⟨xs, rfl, z, ts, rfl, h1, h2, h3⟩ | ⟨a, b, rfl, h1, h2⟩
    · obtain ⟨e1, e2⟩ := nm_not h1
      simp [sRet, wAndV, wOrV, wNotV, wUn, wOp, wV, wB, wO, wC, wIfE, wTest, wTruth, wBand, wBor, wBnot, wChain, wSl, wPart, wTup, wLst, wCons, wNil, wCall, sIf, sSeq, sSet, sNew, sNext, sPass, sApp, sExt, sDrop, sAsg, gNm, gTp, gCs, gNl, startD, DS.put, wF, isaD, eqD, inSq, ixN, atomP, xr, e1, e2] at k ⊢
      exact k
    · simp [sRet, wAndV, wOrV, wNotV, wUn, wOp, wV, wB, wO, wC, wIfE, wTest, wTruth, wBand, wBor, wBnot, wChain, wSl, wPart, wTup, wLst, wCons, wNil, wCall, sIf, sSeq, sSet, sNew, sNext, sPass, sApp, sExt, sDrop, sAsg, gNm, gTp, gCs, gNl, startD, DS.put, wF, isaD, eqD, inSq, ixN, atomP, xr] at k ⊢
      exact k
    · simp [sRet, wAndV, wOrV, wNotV, wUn, wOp, wV, wB, wO, wC, wIfE, wTest, wTruth, wBand, wBor, wBnot, wChain, wSl, wPart, wTup, wLst, wCons, wNil, wCall, sIf, sSeq, sSet, sNew, sNext, sPass, sApp, sExt, sDrop, sAsg, gNm, gTp, gCs, gNl, startD, DS.put, wF, isaD, eqD, inSq, ixN, atomP, xr, ne_un] at k ⊢
      exact k⟩
-- loose_in_rule: slots 0 rule, 1 head, 2 body, 3 part
abbrev s_loose_in_rule : Stmt := (top 33)
abbrev N_sc_loose_in_rule : List Str := ["rule", "head", "body", "part"]
theorem sc_loose_in_rule : FnScope N_sc_loose_in_rule ["rule"] (defScope s_loose_in_rule) := ⟨rfl, rfl, rfl, by decide +kernel, rfl, by decide +kernel, by decide +kernel⟩
theorem ok_loose_in_rule (F : FnP K "loose_in_rule" "loose_in_rule" s_loose_in_rule f fd) (T : Tx K mg) (C_is_plain : Cal P w K mg base "is_plain" 1 ["part"] (spD K (wF okp1 fun ds => .bl (plainP (ds.headD .non)))))
    (C_loose_letters : Cal P w K mg base "loose_letters" 3 ["parts", "body"] (spF K (wF oks2 fun ds => .lst ((looseP ((sqOf (ds.headD .non)).getD []) ((sqOf (ds.getD 1 .non)).getD [])).map .str)))) :
    FnOk P w K mg base CX0 4 f fd ["rule"] (spF K (wF okr1 fun ds => .lst ((looseR (ds.headD .non)).map .str))) :=
  FnF F sc_loose_in_rule (fun ds Kk h => by obtain ⟨⟨x, rfl, _⟩, _⟩ := h; rfl) fun cdv A outer s H Fz E hr => ⟨_, 
(ds_cons (ds_asg (de_v (i := 0)) (dg_tup (n := 2) (dgs_cons (dg_name (i := 1) sc_loose_in_rule.nd) (dgs_cons (dg_name (i := 2) sc_loose_in_rule.nd) dgs_nil))))
 (ds_one (ds_retF (fe_call C_loose_letters hr (da_cons (de_add (FE.de (fe_lst (da_cons (de_v (i := 1)) da_nil))) (FE.de (fe_lc (own := [("part", 3)]) sc_loose_in_rule.nd (di_seq (de_v (i := 2))) (blkOk_by (own := [("part", 3)]) (N := N_sc_loose_in_rule) (sc := defScope s_loose_in_rule) (by decide +kernel)) (fun _ _ _ _ _ => (dg_name (i := 3) sc_loose_in_rule.nd)) (fun _ _ _ _ _ => (dts_one (dt_not (dt_truth (de_call C_is_plain hr (da_cons (de_v (i := 3)) da_nil)))))) (fun _ _ _ _ _ => (de_v (i := 3)))))) (da_cons (de_v (i := 2)) da_nil))))))
  , fun ds Kk h => by
    obtain ⟨⟨x, rfl, hd, body, rfl, oh, ob, lb⟩, k⟩ := h
    replace k : Kk (.lst ((looseP (.tup hd :: body.filter fun p => !plainP p) body).map .str)) := k
    simp only [sSeq, sSet, sNew, sNext, sPass, sRet, sIf, sApp, sExt, sDrop, sAsg, wIfE, wTest, wTruth, wBand, wBor, wBnot, wOp, wUn, wCall, wCons, wNil, wTup, wLst]
    refine ⟨_, rfl, _, rfl, rfl, _, _, rfl, _, _, rfl, rfl, ?_⟩
    refine ⟨_, rfl, by simp, ?_⟩
    let mk : DS noR := ⟨noG, [some (.fz (.tup [.tup hd, .tup body])), some (.fz (.tup hd)), some (.fz (.tup body)), none]⟩
    show wLc (wSq (wV 2)) (gNm 3) (wBnot (wTruth (wCall (wF okp1 fun ds => D.bl (plainP (ds.headD D.non))) (wCons (wV 3) wNil)))) (wV 3) [3] mk _
    refine wLc_filter (ds := body) (f := fun d => d) (p := fun p => !plainP p) (x := none) (fun K k => ⟨_, rfl, body, rfl, k⟩) (by omega) rfl (fun _ h => by cases h) (fun d hd K k => ⟨d, rfl, ⟨d, rfl, ob d hd⟩, _, rfl, k⟩) (fun d hd _ K k => ⟨d, rfl, k⟩) _ ?_
    rw [List.map_id']
    have lf := List.length_filter_le (fun p => !plainP p) body
    refine ⟨.lst (.tup hd :: body.filter fun p => !plainP p), by rw [addD]; rw [if_pos (by simp; omega)]; rfl, _, rfl, ⟨_, _, .tup hd :: body.filter fun p => !plainP p, body, rfl, rfl, rfl, by simp; omega, by omega, fun p hp => ?_, ob⟩, k⟩
    rcases List.mem_cons.mp hp with rfl | hp
    · exact .inl ⟨hd, rfl, oh⟩
    · exact ob p (List.mem_filter.mp hp).1⟩
-- atoms_of: slots 0 rule, 1 found, 2 part, 3 head, 4 body, 5 atom
abbrev s_atoms_of : Stmt := (top 35)
abbrev N_sc_atoms_of : List Str := ["rule", "found", "part", "head", "body", "atom"]
theorem sc_atoms_of : FnScope N_sc_atoms_of ["rule"] (defScope s_atoms_of) := ⟨rfl, rfl, rfl, by decide +kernel, rfl, by decide +kernel, by decide +kernel⟩
theorem ok_atoms_of (F : FnP K "atoms_of" "atoms_of" s_atoms_of f fd) (T : Tx K mg) (C_atom_of : Cal P w K mg base "atom_of" 1 ["part"] (spD K (wF okp1 fun ds => atomP (ds.headD .non)))) :
    FnOk P w K mg base CX0 2 f fd ["rule"] (spF K (wF okr1 fun ds => .lst (atomsR (ds.headD .non)))) :=
  FnF F sc_atoms_of (fun ds Kk h => by obtain ⟨⟨x, rfl, _⟩, _⟩ := h; rfl) fun cdv A outer s H Fz E hr => ⟨_, 
(ds_cons (ds_asg (de_v (i := 0)) (dg_tup (n := 2) (dgs_cons (dg_name (i := 3) sc_atoms_of.nd) (dgs_cons (dg_name (i := 4) sc_atoms_of.nd) dgs_nil))))
 (ds_cons (ds_new (i := 1) sc_atoms_of.nd (fe_lst (da_cons (de_v (i := 3)) da_nil)))
 (ds_cons (ds_for (di_seq (de_v (i := 4))) (dg_name (i := 2) sc_atoms_of.nd)
  (ds_cons (ds_set (i := 5) sc_atoms_of.nd (de_call C_atom_of hr (da_cons (de_v (i := 2)) da_nil)))
 (ds_one (ds_if (dt_cm c_isn (de_v (i := 5)) de_non) (ds_one (ds_app (i := 1) (de_v (i := 5)))) ds_nil))))
 (ds_one (ds_retO (i := 1))))))
  , fun ds Kk h => by
    obtain ⟨⟨x, rfl, hd, body, rfl, oh, ob, lb⟩, k⟩ := h
    replace k : Kk (.lst (.tup hd :: (body.map atomP).filter fun a => !isNon a)) := k
    simp only [sSeq, sSet, sNew, sNext, sPass, sRet, sIf, sApp, sExt, sDrop, sAsg, wIfE, wTest, wTruth, wBand, wBor, wBnot, wOp, wUn, wCall, wCons, wNil, wTup, wLst]
    refine ⟨_, rfl, _, rfl, rfl, _, _, rfl, _, _, rfl, rfl, ?_⟩
    refine ⟨_, rfl, by simp, _, rfl, body, rfl, ?_⟩
    let mk : List D → Option DV → Option DV → DS noR := fun acc x2 x5 => ⟨noG, [some (.fz (.tup [.tup hd, .tup body])), some (.own (.lst (.tup hd :: acc))), x2, some (.fz (.tup hd)), some (.fz (.tup body)), x5]⟩
    refine forGo_ind (fun rest ρ => ∃ acc x2 x5, ρ = mk acc x2 x5 ∧ acc ++ (rest.map atomP).filter (fun a => !isNon a) = (body.map atomP).filter (fun a => !isNon a) ∧ acc.length + rest.length ≤ 900 ∧ ∀ p ∈ rest, okPart p) ?_ ?_ _ _ ⟨[], none, none, rfl, rfl, by simpa using lb, ob⟩
    · rintro p rest N ρ hN ⟨acc, x2, x5, rfl, hf, hlen, hok⟩
      have hp := hok p List.mem_cons_self
      rw [List.length_cons] at hlen
      refine ⟨p, rfl, ⟨p, rfl, hp⟩, ?_⟩
      rw [List.map_cons] at hf
      rcases hp.atom with h | ⟨xs, h, o⟩
      · refine ⟨atomP p, rfl, .bl false, by rw [h]; rfl, false, rfl, itF (hN _ ⟨acc, some (.fz p), some (.fz (atomP p)), rfl, ?_, by omega, fun q hq => hok q (List.mem_cons_of_mem _ hq)⟩)⟩
        rw [List.filter_cons_of_neg (by rw [h]; decide)] at hf
        exact hf
      · refine ⟨atomP p, rfl, .bl true, by rw [h]; rfl, true, rfl, itT ⟨⟨_, rfl⟩, atomP p, rfl, .tup hd :: acc, rfl, by simp; omega, hN _ ⟨acc ++ [atomP p], some (.fz p), some (.fz (atomP p)), rfl, ?_, by simp; omega, fun q hq => hok q (List.mem_cons_of_mem _ hq)⟩⟩⟩
        rw [List.filter_cons_of_pos (by rw [h]; rfl)] at hf
        rw [List.append_assoc]
        exact hf
    · rintro ρ ⟨acc, x2, x5, rfl, hf, hlen, hok⟩
      rw [List.map_nil, List.filter_nil, List.append_nil] at hf
      subst hf
      exact ⟨_, rfl, k⟩⟩
end
end L03

set_option Elab.async false
set_option linter.all false
set_option maxRecDepth 100000
set_option maxHeartbeats 4000000
/-! readings that tell errors, too; objects made -/
namespace Q
open PySem PySem.Spec PyProof.Rows L2
abbrev XR (R : Rgn) := Addr → List Str → List D → DS R → Prop
abbrev WEX (R : Rgn) := DS R → (D → DS R → Prop) → XR R → Prop
/-- an error's fields, as they lie in the heap -/
structure XdL (K : PySem.W.Frag) (F' H' : Hp) (dx : Addr) (ns : List Str) (xs : List D) : Prop where
  f0 : F' dx = none
  at_ : ∃ fs : List (Str × V), H' dx = some (.xd fs) ∧ ns = fs.map (·.1) ∧ Reps K F' (fs.map (·.2)) xs
theorem XdAt.l {K : PySem.W.Frag} {F' H H' : Hp} {dx : Addr} {ns : List Str} {xs : List D} (h : XdAt K F' H H' dx ns xs) : XdL K F' H' dx ns xs := ⟨h.f0, h.at_⟩
def liftX (c : Ctx) (w : WEX c.R) (E : XK) : TE := fun σ H Q => ∃ (ρ : DS c.R) (F : Hp) (O : List Addr) (Kk : D → DS c.R → Prop) (Xk : XR c.R), St c F O σ ρ H ∧ w ρ Kk Xk ∧
  (∀ d ρ' v F' H', Kk d ρ' → St c F' O σ ρ' H' → Same F F' → (∀ a ∈ O, H' a = H a) → Rep c.K F' v d → Q v H') ∧
  ∀ C ns xs ρ' F' H' dx, Xk C ns xs ρ' → St c F' O σ ρ' H' → Same F F' → (∀ a ∈ O, H' a = H a) → XdL c.K F' H' dx ns xs → E (.ref C) (some dx) H'
structure DX (X : Cx) (c : Ctx) (e : Expr) (w : WEX c.R) (E : XK) : Prop where
  pe : PE X e (liftX c w E)
  kk : X.K = c.K
/-- no error: an ordinary reading -/
def noX {R : Rgn} (w : WEX R) : WE R := fun ρ K => w ρ K fun _ _ _ _ => False
section
variable {X : Cx} {c : Ctx} {e : Expr} {es : List Expr} {pos p : Pos} {pa : Bool} {we : WE c.R} {wa : WA c.R} {w : WEX c.R} {E : XK} {x : Str} {j k : Nat} {ps : List Str}
theorem DX.de (h : DX X c e w E) : DE X c false false e (noX w) :=
  ⟨h.pe.imp fun σ H Q ⟨ρ, F, O, Kk, S, hw, kk⟩ => ⟨ρ, F, O, Kk, _, S, hw, fun d ρ' v F' H' hk S' fs ko rp => kk d ρ' v F' H' hk S' fs ko (fun z => by cases z) rp, fun _ _ _ _ _ _ _ h => h.elim⟩, h.kk⟩
theorem DX.of (h : DE X c pa false e we) : DX X c e (fun ρ K _ => we ρ K) E :=
  ⟨h.pe.imp fun σ H Q ⟨ρ, F, O, Kk, Xk, S, hw, kk, _⟩ => ⟨ρ, F, O, Kk, S, hw, fun d ρ' v F' H' hk S' fs ko _ rp => kk d ρ' v F' H' hk S' fs ko rp⟩, h.kk⟩
/-- a def of the text that may let errors out, called -/
def wCallXR {R : Rgn} (m : WMX) (wa : WA R) : WEX R := fun ρ K Xk => wa ρ fun ds ρ1 => m ds (fun d => K d ρ1) fun C ns xs => Xk C ns xs ρ1
/-- what a class's init promises: one that sets the fields of the object anew made -/
def spI (K : PySem.W.Frag) (C : Addr) (m : WMX) : Sp := fun vs H Q E => ∃ (x dx : Addr) (us : List V) (ds : List D) (F : Hp) (Kk : D → Prop) (Xk : XW), vs = .ref x :: us ∧ H x = some (.ins C dx []) ∧ F x = none ∧ Same F H ∧ Reps K F us ds ∧ m ds Kk Xk ∧
  (∀ ns xs fs F' H', Kk (.ins C ns xs) → Grow F H F' H' → F' x = none → ns = fs.map (·.1) → Reps K F' (fs.map (·.2)) xs → Q .non (upd H' x (.ins C dx fs))) ∧
  ∀ C' ns xs F' H' d, Xk C' ns xs → Grow F H F' H' → XdAt K F' H H' d ns xs → E (.ref C') (some d) H'
/-- a class of the text, called -/
structure CalK (P : Program) (w : World) (K : PySem.W.Frag) (mg : Str → Option Value) (base : Heap) (x : Str) (C : Addr) (k : Nat) (ps : List Str) (m : WMX) : Prop where
  ex : ∃ (f : Addr) (fd : FuncData), Mk K C f ∧ FnOk P w K mg base (L2.CX P w) k f fd ps (spI K C m) ∧ Binds K fd ps []
  at_ : mg x = some (.ref C)
theorem dx_make {C : Addr} {m : WMX} (M : CalK X.prog X.w X.K X.mg X.base x C k ps m) (hx : Passes (L2.CX X.prog X.w) X E) (hr : Room j X.A) (ha : DA X c pa (e :: es) wa) (hj : k + 1 ≤ j := by decide) (hk : X.K = c.K := by rfl) (hg : Gl X x := by rfl) (hdb : (x == ("__debug__" : Str)) = false := by decide)
    (he : starEach (e :: es) X.env = (false, eval e X.env) :: starEach es X.env := by rfl) (hpl : (backTo pos (starEach es X.env)).any (·.1) = false := by rfl) : DX X c (.Call (.Name x p) (e :: es) [] pos) (wCallXR m wa) E := by
  obtain ⟨f, fd, mk, G, hb⟩ := M.ex
  refine ⟨(pe_make mk G (hr.mono hj) hg M.at_ hb .nil hx ha.pa hdb he hpl).imp fun σ H Q ⟨ρ, F, O, Kk, Xk, S, hw, k1, k2⟩ => ⟨ρ, F, O, _, S, hw, fun ds ρ1 vs F1 H1 hm S1 fs1 ko1 g1 r1 a dx ha hd nd => ?_⟩, hk⟩
  have na : F1 a = none := by
    cases q : F1 a with
    | none => rfl
    | some o => rw [S1.sub _ _ q] at ha; cases ha
  have nd1 : F1 dx = none := by
    cases q : F1 dx with
    | none => rfl
    | some o => rw [S1.sub _ _ q] at hd; cases hd
  have hs2 : Same H1 (upd (upd H1 dx (.own a)) a (.ins C dx [])) := fun b o q => by
    rw [upd_ne (fun z => by rw [z, ha] at q; cases q), upd_ne (fun z => by rw [z, hd] at q; cases q)]
    exact q
  have gr0 : Grow F1 H1 F1 (upd (upd H1 dx (.own a)) a (.ins C dx [])) := ⟨Same.refl _, S1.sub.trans hs2, hs2, fun b h => .inl h⟩
  have ko : ∀ {F' H' : Hp}, Grow F1 H1 F' H' → ∀ q ∈ O, H' q = H q := fun g q hq => by rw [g.at (S1.out q hq).2.2, ko1 q hq]
  rw [app_nil]
  refine ⟨a, dx, vs, ds, F1, _, _, rfl, upd_same, na, gr0.sub, by rw [hk]; exact r1, hm, fun ns xs fs F' H' hk' gr nx en rf => ⟨rfl, ?_⟩, fun C' ns xs F' H' d hX gr xd => ?_⟩
  · have gr1 := gr0.trans gr
    have hH1a : H' a = some (.ins C dx []) := gr.hs _ _ upd_same
    have g2 : Grow F1 H1 (upd F' a (.ins C dx fs)) (upd H' a (.ins C dx fs)) :=
      ⟨fun b o q => by rw [upd_ne (fun z => by rw [z, na] at q; cases q)]; exact gr1.fs _ _ q, Same.upd2 gr1.sub, fun b o q => by rw [upd_ne (fun z => by rw [z, ha] at q; cases q)]; exact gr1.hs _ _ q, fun b n => by
        by_cases z : b = a
        · rw [z]; exact .inr ha
        · rw [upd_ne z] at n; exact gr1.old b n⟩
    have fs2 : Same F' (upd F' a (.ins C dx fs)) := fun b o q => by rw [upd_ne (fun z => by rw [z, nx] at q; cases q)]; exact q
    rw [hk] at rf
    exact k1 _ ρ1 _ _ _ hk' (S1.grow g2) (fs1.trans g2.fs) (ko g2) (.ins upd_same en (rf.same fs2))
  · have gr1 := gr0.trans gr
    rw [hk] at xd
    exact k2 C' ns xs ρ1 F' H' d hX (S1.grow gr1) (fs1.trans gr1.fs) (ko gr1) xd.l
theorem dx_call {m : WMX} (C : CalX X.prog X.w X.K X.mg X.base x k ps (spX c.K m)) (hx : Passes (L2.CX X.prog X.w) X E) (hr : Room j X.A) (ha : DA X c pa (e :: es) wa) (hj : k ≤ j := by decide) (hk : X.K = c.K := by rfl) (hg : Gl X x := by rfl) (hdb : (x == ("__debug__" : Str)) = false := by decide)
    (he : starEach (e :: es) X.env = (false, eval e X.env) :: starEach es X.env := by rfl) (hpl : (backTo pos (starEach es X.env)).any (·.1) = false := by rfl) : DX X c (.Call (.Name x p) (e :: es) [] pos) (wCallXR m wa) E := by
  obtain ⟨f, fd, hm, hkp, G, hb⟩ := C.ex
  exact ⟨(pe_call G (hr.mono hj) hg hm hkp hb .nil hx ha.pa hdb he hpl).imp fun σ H Q ⟨ρ, F, O, Kk, Xk, S, hw, k1, k2⟩ => ⟨ρ, F, O, _, S, hw, fun ds ρ1 vs F1 H1 hm S1 fs1 ko1 g1 r1 => ⟨ds, F1, _, _, S1.sub, by rw [app_nil]; exact r1, hm, fun d v F' H' hd gr rp =>
    k1 d ρ1 v F' H' hd (S1.grow gr) (fs1.trans gr.fs) (fun q hq => by rw [gr.at (S1.out q hq).2.2]; exact ko1 q hq) rp,
    fun C ns xs F' H' dx hX gr xd => k2 C ns xs ρ1 F' H' dx hX (S1.grow gr) (fs1.trans gr.fs) (fun q hq => by rw [gr.at (S1.out q hq).2.2]; exact ko1 q hq) xd.l⟩⟩, hk⟩
end
end Q

set_option Elab.async false
set_option linter.all false
set_option maxRecDepth 100000
set_option maxHeartbeats 4000000
/-! a lambda, made: what of the heap changes -/
namespace Q
open PySem PySem.Spec PyProof.Rows L2 LamX
/-- from H to H1 a lambda was made: only tables of T may have changed, what they tell anew is new -/
structure LamStep (T : List (Addr × Str)) (H H1 : Hp) : Prop where
  keep : ∀ b o, H b = some o → (∀ p ∈ T, p.1 ≠ b) → H1 b = some o
  tabs : Tabs T H1
  codes : ∀ p ∈ T, ∀ ps pos c, H1 p.1 = some (.tbl ps) → codeAmong pos ps.toList = some (.ref c) → (∃ ps0, H p.1 = some (.tbl ps0) ∧ codeAmong pos ps0.toList = some (.ref c)) ∨ H c = none
theorem lam_made {X : Cx} {pins : List (Addr × Obj)} {σ : L2.St} {H : Hp} {s : Shared} {T : List (Addr × Str)} {c P : Addr} {params : Arguments} {body : Expr} {scope : Scope} {pos : Pos} {E Q : Value → Shared → Prop}
    (J : Inv X pins σ H s) (TB : TabB X.base X.mg c P) (code : X.env.code = .ref c) (mem : (P, X.env.qual ++ "<lambda>") ∈ T) (uni : ∀ p ∈ T, p.1 = P → p.2 = X.env.qual ++ "<lambda>") (tabs : Tabs T H)
    (nodef : defaultsOf params X.env = ([], [])) (caps : ∀ y ∈ scope.names, y.2 = .free → ∃ c, X.env.cells.lookup y.1 = some c)
    (next : ∀ (f c' : Addr) (pm ctv : Value) (H1 : Hp) (s' : Shared), Inv X pins σ H1 s' → LamStep T H H1 → s'.heap.get? f = some (PySem.W.kla_obj "<lambda>" (X.env.qual ++ "<lambda>") params body scope (cloFrom X.env.cells scope.names []) pm c' ctv) →
      H1 f = none → f ∉ frs X.stack → H1 c' = some (CodeO c' (X.env.qual ++ "<lambda>")) → Q (.ref f) s') : wpAny (model X.prog X.w) X.A (eval (.Lambda params body scope pos) X.env) Q E s := by
  obtain ⟨tb, tbAt, tbOk, tbCodes⟩ := tabs _ mem
  refine PySem.W.kla_eval nodef ?_
  have bm : s.heap.BuiltinsAt X.mg P := TB.bm.keeps J.bk
  have tbObj : s.heap.get? P = some { cls := .none, data := .fields tb } := J.hok P _ tbAt
  have noFrame : ∀ f, s.heap.objs.size ≤ f → f ∉ frs X.stack := fun f big m => by
    rcases List.mem_cons.mp (J.stkSub _ m) with same | there
    · exact absurd J.lt (by rw [← same]; exact Nat.not_lt.mpr big)
    · exact J.nofs big there
  cases found : codeAmong pos tb.toList with
  | some cv =>
    obtain ⟨c', rfl, c'At⟩ := tbCodes pos cv found
    refine PySem.W.kla_makeFunctionHit (mg := X.mg) (c := c) (P := P) (ps := tb) (closure_ok caps) J.ok.glob (J.mod.glob.keeps J.bk) code (TB.code.keeps J.bk) tbObj tbOk found bm fun ctv hp tk ext size => ?_
    exact next hp.objs.size c' ((X.mg "__name__").getD .none) ctv H _ (J.kept fun b o at0 => Heap.get?_push_of_some _ (ext b o at0)) ⟨fun _ _ at0 _ => at0, tabs, fun p _ ps pos c at0 am => .inl ⟨ps, at0, am⟩⟩ (Heap.get?_push_size _ rfl) (J.hok.fresh size) (noFrame _ size) c'At
  | none =>
    refine PySem.W.kla_makeFunction (mg := X.mg) (c := c) (P := P) (ps := tb) (closure_ok caps) J.ok.glob (J.mod.glob.keeps J.bk) code (TB.code.keeps J.bk) tbObj tbOk found TB.gP bm fun c' ctv hp tk ext big small rec tbNow => ?_
    obtain ⟨d0, oc, vs, t, ec, ocAt, ocData, ocName⟩ := rec
    cases ec
    have size : s.heap.objs.size ≤ hp.objs.size := Nat.le_trans big (Nat.le_of_lt small)
    have c'New : H c' = none := J.hok.fresh big
    have J1 := inv_table (t' := tk) (more := #[rawInt pos.line, rawInt pos.col, .ref c']) (h' := hp.push (PySem.W.kla_obj "<lambda>" (X.env.qual ++ "<lambda>") params body scope (cloFrom X.env.cells scope.names []) ((X.mg "__name__").getD .none) c' ctv)) J tbAt
      (fun b o ne at0 => Heap.get?_push_of_some _ (ext b o ne at0)) (Heap.get?_push_of_some _ tbNow) big ⟨oc, vs, t, Heap.get?_push_of_some _ ocAt, ocData, ocName⟩
    have P_ne : P ≠ c' := ne_of_none tbAt c'New
    have more_list : (tb ++ #[rawInt pos.line, rawInt pos.col, Value.ref c']).toList = tb.toList ++ [rawInt pos.line, rawInt pos.col, .ref c'] := by simp
    have at_P : upd (upd H P (.tbl (tb ++ #[rawInt pos.line, rawInt pos.col, .ref c']))) c' (CodeO c' (X.env.qual ++ "<lambda>")) P = some (.tbl (tb ++ #[rawInt pos.line, rawInt pos.col, .ref c'])) := by rw [upd_ne P_ne, upd_same]
    have at_other : ∀ b, b ≠ P → b ≠ c' → upd (upd H P (.tbl (tb ++ #[rawInt pos.line, rawInt pos.col, .ref c']))) c' (CodeO c' (X.env.qual ++ "<lambda>")) b = H b := fun b n1 n2 => by rw [upd_ne n2, upd_ne n1]
    have stay : ∀ b o, H b = some o → b ≠ P → upd (upd H P (.tbl (tb ++ #[rawInt pos.line, rawInt pos.col, .ref c']))) c' (CodeO c' (X.env.qual ++ "<lambda>")) b = some o := fun b o at0 n => by rw [at_other b n (ne_of_none at0 c'New)]; exact at0
    have code_stays : ∀ d q, H d = some (CodeO d q) → upd (upd H P (.tbl (tb ++ #[rawInt pos.line, rawInt pos.col, .ref c']))) c' (CodeO c' (X.env.qual ++ "<lambda>")) d = some (CodeO d q) := fun d q at0 => stay d _ at0 fun e => by
      rw [e, tbAt] at at0
      exact codeO_ne tb (Option.some.inj at0).symm
    refine next hp.objs.size c' ((X.mg "__name__").getD .none) ctv _ _ J1 ⟨fun b o at0 n => stay b o at0 fun e => n _ mem e.symm, fun p inT => ?_, fun p inT ps pos1 d at0 am => ?_⟩ (Heap.get?_push_size _ rfl) ?_ (noFrame _ size) upd_same
    · by_cases isP : p.1 = P
      · rw [uni p inT isP, isP]
        refine ⟨_, at_P, by rw [more_list]; exact PySem.TriplesOk_snoc _ _ _ _ tbOk, fun pos1 cv am => ?_⟩
        rw [more_list] at am
        rcases among_app _ tbOk am with before | now
        · obtain ⟨d, e1, e2⟩ := tbCodes pos1 cv before
          exact ⟨d, e1, code_stays _ _ e2⟩
        · exact ⟨c', now, upd_same⟩
      · obtain ⟨ps, a1, a2, a3⟩ := tabs p inT
        refine ⟨ps, stay _ _ a1 isP, a2, fun pos1 cv am => ?_⟩
        obtain ⟨d, e1, e2⟩ := a3 pos1 cv am
        exact ⟨d, e1, code_stays _ _ e2⟩
    · by_cases isP : p.1 = P
      · rw [isP, at_P] at at0
        have e := HO.tbl.inj (Option.some.inj at0)
        rw [← e, more_list] at am
        rcases among_app _ tbOk am with before | now
        · exact .inl ⟨tb, by rw [isP]; exact tbAt, before⟩
        · exact .inr (by rw [Value.ref.inj now]; exact c'New)
      · refine .inl ⟨ps, ?_, am⟩
        obtain ⟨ps0, a1, _⟩ := tabs p inT
        have := stay _ _ a1 isP
        rw [this] at at0
        rw [a1]
        exact at0
    · have n1 : hp.objs.size ≠ c' := Nat.ne_of_gt small
      have n2 : hp.objs.size ≠ P := Nat.ne_of_gt (Nat.lt_of_lt_of_le (Heap.lt_size tbObj) size)
      rw [at_other _ n2 n1]
      exact J.hok.fresh size
end Q

set_option Elab.async false
set_option linter.all false
set_option maxRecDepth 100000
set_option maxHeartbeats 4000000
/-! try, with several clauses that name what they catch -/
namespace Q
open PySem PySem.Spec PyProof.Rows L2
abbrev Suite := Addr → Value → Option Addr → TS
/-- what becomes of an error that meets the clauses: (class, slot of the name, suite) -/
def wNamed (K : PySem.W.Frag) (Wout : L2.WX) (D : Ends) : List (Value × Nat × Suite) → L2.WX
  | [] => Wout
  | (c, i, ts) :: r => fun cls d σ H => ∃ b, PySem.W.exmOne K cls c = some b ∧
      (b = true → ∀ a, H a = none → ts a cls d { nx := fun σ' H' => D.nx (σ'.set i none) H', rt := D.rt, bk := fun σ' H' => D.bk (σ'.set i none) H', ct := fun σ' H' => D.ct (σ'.set i none) H' } (σ.set i (some (.ref a))) H) ∧
      (b = false → wNamed K Wout D r cls d σ H)
inductive Clauses (X : Cx) : List ExceptHandler → List (Value × Nat × Suite) → Prop
  | nil : Clauses X [] []
  | cons {x n : Str} {i : Nat} {c : Value} {ts : Suite} {b0 : Stmt} {suite : List Stmt} {np hp : Pos} {more : List ExceptHandler} {l : List (Value × Nat × Suite)} (isC : Names X x c) (slot : X.N[i]? = some n) (loc : X.env.kindOf n = some .local)
      (reads : ∀ (a : Addr) (oe : Obj) (cls : Value) (d : Option Addr) (pn : List (Addr × Obj)), Zc cls d oe → (∃ vs, oe.data = .fields vs) → PSs (X.suite a ((a, oe) :: pn)) (b0 :: suite) (ts a cls d)) (rest : Clauses X more l) :
      Clauses X (.ExceptHandler (some (.Name x np)) (some n) (b0 :: suite) hp :: more) ((c, i, ts) :: l)
theorem ps_try_named {X : Cx} {body : List Stmt} {h0 : ExceptHandler} {more : List ExceptHandler} {l : List (Value × Nat × Suite)} {pos : Pos} {tb : L2.WX → TS} {Wout : L2.WX} (stack : X.stack = X.env :: X.outer) (frame : X.env.frame = some X.env.locals) (nd : X.N.Nodup) (takes : Takes X Wout)
    (reads : ∀ (W : L2.WX) (pn : List (Addr × Obj)) (xe : Value → Shared → Prop), Takes (X.tr pn xe) W → PassesOwn (model X.prog X.w) X.A X.env xe → PSs (X.tr pn xe) body (tb W)) (clauses : Clauses X (h0 :: more) l) :
    PS X (.Try body (h0 :: more) [] [] pos) (fun D σ H => tb (wNamed X.K Wout D l) D σ H) := by
  refine ⟨fun pins s σ H D J wish => ?_⟩
  have ok := J.ok
  have frames : X.A.frames = some (X.env :: X.outer) := by rw [ok.frames, stack]
  have inner := (reads (wNamed X.K Wout D l) (X.pn ++ pins) (fun e t1 => wpAny (model X.prog X.w) X.A (noteFrame e X.env) (fun _ t2 => wpAny (model X.prog X.w) X.A (setFlight e none) (fun _ t3 => wpAny (model X.prog X.w) X.A (handleBy e X.env (h0 :: more)) (SP X pins D) X.xe t3) X.xe t2) X.xe t1)
    (fun u s2 caught => by
      obtain ⟨a, B, sI, pins2, τ, G, cls, d, rfl, J0, noB, way, sky, aNew, sameOs, gens, meets⟩ := caught
      have J1 : Inv X pins τ G sI := J0.ofTry ok
      have sky1 : Sky B (X.env :: X.outer) a (Zc cls d) X.env.locals s2.heap := by rw [← stack]; exact sky
      show wpAny (model X.prog X.w) X.A (noteFrame (.ref a) X.env) _ _ _
      refine Sky.land Zc.steady frames frame sky1 fun h3 flies way3 => ?_
      have J3 : Inv X pins τ G { s2 with heap := h3 } := J1.landed noB flies.1 (way.trans way3) sameOs gens
      obtain ⟨o3, fs3, o3At, o3Cls, o3Data⟩ := flies.there
      have aFrame : a ∉ frs (X.env :: X.outer) := fun m => by
        obtain ⟨_, o4, at4, notFields⟩ := flies.2.2.1.mem m
        rw [o3At] at at4
        cases at4
        exact notFields _ o3Data
      have aLocals : a ≠ X.env.locals := fun e => aFrame (List.mem_filterMap.mpr ⟨X.env, List.mem_cons_self, by rw [frame, e]⟩)
      have aFs : a ∉ X.fs := fun m => by
        obtain ⟨env1, m1, f1⟩ := List.mem_filterMap.mp m
        exact aFrame (List.mem_filterMap.mpr ⟨env1, List.mem_cons_of_mem _ m1, f1⟩)
      have inSuite := J3.suite o3At o3Data aNew aLocals aFs
      have through : ∀ {hs : List ExceptHandler} {ls : List (Value × Nat × Suite)}, Clauses X hs ls → wNamed X.K Wout D ls cls d τ G → wpAny (model X.prog X.w) X.A (handleBy (.ref a) X.env hs) (SP X pins D) X.xe { s2 with heap := h3 } := by
        intro hs ls cl
        induction cl with
        | nil =>
          intro out
          refine wpAny_handleBy_nil ?_
          obtain ⟨_, _, _, oe, vs, T, _, _, oeAt, _, oeData, tr, _⟩ := id flies
          unfold PySem.passOn
          refine wpAny_bind (wpAny_field oeAt oeData tr ?_)
          rw [if_neg (by simp : ¬ ((Value.ref T == Value.none) = true))]
          have onward : wpAny (model X.prog X.w) X.A (setFlight (.ref a) X.env.frame) (fun _ t4 => wpAny (model X.prog X.w) X.A (throw (.ref a) : Sem Flow) (SP X pins D) X.xe t4) X.xe { s2 with heap := h3 } := by
            rw [frame]
            exact HandSPX.setFlight_upZ flies fun h4 held way4 => wpAny_throw (takes _ _ ⟨a, B, sI, pins, τ, G, cls, d, rfl, J1, noB, (way.trans way3).trans way4, .inr (.inr (by rw [stack]; exact held)), aNew, sameOs, gens, out⟩)
          first
            | exact wpAny_bind (wpAny_pure (wpAny_bind onward))
            | exact wpAny_bind onward
        | @cons x n i c ts b0 suite np hp more2 l2 isC slot loc suiteReads rest ih =>
          rintro ⟨b, fits, yes, no⟩
          refine wpAny_handleBy_cons (codeAny_handlers_test ?_) (by intro z; cases z)
          have tells : PySem.W.Looks (model X.prog X.w) h3 (typeOf (.ref a)) cls := fun A Q E t keep q => wpAny_typeOf_ref (keep _ _ o3At) (by rw [o3Cls.1]; exact q)
          have verdict := PySem.W.exm_one (M := model X.prog X.w) (J3.kIn) tells fits
          have named : ∀ {Q : Value → Shared → Prop} {E : Value → Shared → Prop}, Q c { s2 with heap := h3 } → wpAny (model X.prog X.w) (X.A.mark (some (.ref a))) (eval (.Name x np) X.env) Q E { s2 with heap := h3 } := fun {Q E} q => by
            obtain ⟨glob, noDebug, inMod | ⟨notMod, blt, notName⟩⟩ := isC
            · exact ld_glob (X := X.suite a ((a, o3) :: (X.pn ++ pins))) inSuite glob inMod q noDebug
            · exact ld_blt (X := X.suite a ((a, o3) :: (X.pn ++ pins))) inSuite glob notMod blt q notName noDebug
          refine named (verdict.here ?_)
          cases b with
          | false => exact ih (no rfl)
          | true =>
            refine codeAny_handlers_suite_as ?_
            refine HandSPX.lands_againZ flies fun h4 flies4 way4 => ?_
            have J4 : Inv X pins τ G { s2 with heap := h4 } := J1.landed noB flies4.1 ((way.trans way3).trans way4) sameOs gens
            obtain ⟨o4, fs4, o4At, o4Cls, o4Data⟩ := flies4.there
            refine store_ok (X := X.suite a ((a, o4) :: (X.pn ++ pins))) (v := .ref a) (J4.suite o4At o4Data aNew aLocals aFs) nd slot (.inl loc) rfl (fun t5 J5 => ?_) (.inr loc)
            refine wpAny_mono ((suiteReads a o4 cls d (X.pn ++ pins) o4Cls ⟨_, o4Data⟩).run [] t5 _ G _ J5 (yes rfl a aNew)) (fun flow t6 ends => ?_) (fun _ _ z => z.elim)
            have goes : ∀ {τ6 : L2.St} {G6 : Hp} {Q : Shared → Prop}, Inv (X.suite a ((a, o4) :: (X.pn ++ pins))) [] τ6 G6 t6 → (∀ t7, Inv X pins (τ6.set i none) G6 t7 → Q t7) →
                wpAny (model X.prog X.w) X.A (do bindName X.env n .none; unbindBehindTheSuite X.env n hp) (fun _ t7 => Q t7) X.xe t6 := fun J6 q => gone_ok (J6.unsuite ok) nd slot loc q
            cases flow with
            | ret u =>
              obtain ⟨v6, τ6, G6, J6, rel, q⟩ := ends
              exact goes J6 fun t7 J7 => ⟨_, _, _, J7, rel, q⟩
            | next =>
              obtain ⟨τ6, G6, J6, q⟩ := ends
              exact goes J6 fun t7 J7 => ⟨_, _, J7, q⟩
            | brk =>
              obtain ⟨τ6, G6, J6, q⟩ := ends
              exact goes J6 fun t7 J7 => ⟨_, _, J7, q⟩
            | cont =>
              obtain ⟨τ6, G6, J6, q⟩ := ends
              exact goes J6 fun t7 J7 => ⟨_, _, J7, q⟩
      exact through clauses meets) PassesOwn.looking).run [] s σ H D (J.toTry _) wish
  refine wpAny_Try_except (wpAny_mono inner (fun flow s1 ends => ?_) (fun e s1 he => he))
  cases flow with
  | ret u =>
    obtain ⟨v, τ, G, J0, rel, q⟩ := ends
    exact ⟨v, τ, G, J0.ofTry ok, rel, q⟩
  | next =>
    obtain ⟨τ, G, J0, q⟩ := ends
    exact wpAny_execs_nil ⟨τ, G, J0.ofTry ok, q⟩
  | brk =>
    obtain ⟨τ, G, J0, q⟩ := ends
    exact ⟨τ, G, J0.ofTry ok, q⟩
  | cont =>
    obtain ⟨τ, G, J0, q⟩ := ends
    exact ⟨τ, G, J0.ofTry ok, q⟩
end Q

set_option Elab.async false
set_option linter.all false
set_option maxRecDepth 100000
set_option maxHeartbeats 4000000
/-! tried(lambda: ..) -/
namespace Q
open PySem PySem.Spec PyProof.Rows L2 LamX
/-- a region that holds the tables of T -/
structure LamR (R : Rgn) (T : List (Addr × Str)) : Prop where
  tabs : ∀ {g : R.G} {Z : Addr → Prop} {H : Hp}, R.ok g Z H → Tabs T H ∧ ∀ p ∈ T, Z p.1
  step : ∀ {g : R.G} {Z : Addr → Prop} {H H1 : Hp}, R.ok g Z H → LamStep T H H1 → ∃ Z1 : Addr → Prop, R.ok g Z1 H1 ∧ (∀ b, Z b → Z1 b) ∧ ∀ b, Z1 b → Z b ∨ H b = none
theorem St.lam {c : Ctx} {F H H1 : Hp} {O : List Addr} {σ : L2.St} {ρ : DS c.R} {T : List (Addr × Str)} (S : St c F O σ ρ H) (L : LamR c.R T) (s : LamStep T H H1) : St c F O σ ρ H1 ∧ ∀ a ∈ O, H1 a = H a := by
  obtain ⟨Z, r, z1, z2, z3, z4⟩ := S.reg
  obtain ⟨tabs, inZ⟩ := L.tabs r
  obtain ⟨Z1, r1, up, dn⟩ := L.step r s
  have keep : ∀ b o, H b = some o → ¬ Z b → H1 b = some o := fun b o e n => s.keep b o e fun p hp q => n (by rw [← q]; exact inZ p hp)
  have sub1 : Same F H1 := fun b o e => keep b o (S.sub _ _ e) fun z => by
    rw [z1 b z] at e
    cases e
  have live1 : ∀ b, H b ≠ none → H1 b ≠ none := fun b n => by
    by_cases z : ∃ p ∈ T, p.1 = b
    · obtain ⟨p, hp, rfl⟩ := z
      obtain ⟨ps, e, _⟩ := s.tabs p hp
      rw [e]
      exact fun q => by cases q
    · cases q : H b with
      | none => exact absurd q n
      | some o =>
        rw [s.keep b o q fun p hp e => z ⟨p, hp, e⟩]
        exact fun q => by cases q
  have zf1 : ∀ b, Z1 b → F b = none := fun b h => by
    rcases dn b h with q | q
    · exact z1 b q
    · cases e : F b with
      | none => rfl
      | some o =>
        rw [S.sub _ _ e] at q
        cases q
  have gr : GrowR c.R ρ.g F H Z ρ.g F H1 Z1 := ⟨Same.refl _, sub1, fun b n => .inl n, keep, live1, r1, zf1, dn⟩
  refine ⟨S.growR z2 z3 z4 gr, fun a ha => ?_⟩
  cases q : H a with
  | none => exact absurd q (S.out a ha).2.2
  | some o => exact keep a o q (z3 a ha)
/-- the def g, of one parameter a, called with a lambda: TT is what it makes of the lambda's reading -/
def tLam1 (T : List (Addr × Str)) (TT : (XK → Hp → VK → Prop) → Hp → VK → Prop) (t : XK → TE) : TE := fun σ H Q => Tabs T H ∧ ∀ H1, LamStep T H H1 → TT (fun E H' Q' => t E σ H' Q') H1 Q
theorem pe_lam1 {X : Cx} {T : List (Addr × Str)} {TT : (XK → Hp → VK → Prop) → Hp → VK → Prop} {x a : Str} {g c P : Addr} {k : Nat} {st : Stmt} {gd : FuncData} {Ng : List Str} {params : Arguments} {body : Expr} {scope : Scope} {t : XK → TE} {p lpos pos : Pos}
    (hm : X.mg x = some (.ref g)) (fg : FnP X.K x x st g gd) (hb : L2.Binds X.K gd [a] []) (Sg : FnScope Ng [a] (defScope st)) (hNg : Ng[0]? = some a) (hva : Vis (defScope st) a)
    (hG : ∀ cdg, GivesTo X Ng x (defScope st) g cdg (defBody st) a (X.env.qual ++ "<lambda>") TT) (TB : TabB X.base X.mg c P) (code : X.env.code = .ref c) (mem : (P, X.env.qual ++ "<lambda>") ∈ T) (uni : ∀ p ∈ T, p.1 = P → p.2 = X.env.qual ++ "<lambda>")
    (hr : Room (k + 2) X.A) (L : LamS X.env.scope scope) (nodef : defaultsOf params X.env = ([], [])) (hbind : ∀ (q : Str) (cl : List (Str × Addr)) (pm cv ctv : Value), bindArgs (PySem.W.kla_fn "<lambda>" q params body scope cl pm cv ctv) ⟨[], []⟩ = pure [])
    (hbody : ∀ (A : Around) (outer : List Env) (s : Shared) (H : Hp) (E : XK) (f c' : Addr), Room k (A.deeper (lamEnv X scope s.heap.objs.size f c')) → PE (lamCx X A outer s H E scope f c') body (t E))
    (hg : Gl X x := by rfl) (hdb : (x == ("__debug__" : Str)) = false := by decide) (hd : (a == ("__debug__" : Str)) = false := by decide) (hcd : (a == ("__classdict__" : Str)) = false := by decide) :
    PE X (.Call (.Name x p) [.Lambda params body scope lpos] [] pos) (tLam1 T TT t) := by
  obtain ⟨oc, od, dV, kV, doc, pm, an, cdv, ct, osl, rfl, lk, codeG, _, _⟩ := fg.ex
  refine ⟨fun pins s σ H Q J ⟨tabs, wish⟩ => ?_⟩
  refine wpAny_Call_Name_kw (ld_glob J hg hm ?_ hdb)
  refine PySem.W.callWith_K (h₀ := X.base) J.ok.mod.kin fg.kp ?_ (by rfl) (by rfl)
  show wpAny _ _ (spliced ((false, eval (.Lambda params body scope lpos) X.env) :: backTo pos (starEach [] X.env))) _ _ s
  refine Calls.spliced_cons (lam_made J TB code mem uni tabs nodef (L.has J.ok) fun f c' pm' ctv H1 s1 J1 step fAt fNew fFrame c'At => ?_)
  refine Calls.spliced_nil ⟨J1.kIn, ?_⟩
  have ran : codeAny (model X.prog X.w) X.A (.call (.ref g) ⟨[.ref f], []⟩) (CR C8.CX0 X.stack X.prog X.w H1 s1 Q C8.E0) s1 := by
    refine run_ofS (N := Ng) (ps := [a]) (us := [.ref f]) (vs := [.ref f]) lk codeG Sg hr J1.env0 (hb s1 [.ref f] J1.kIn rfl) (.cons rfl .nil) rfl fun room => ?_
    obtain ⟨tg, bodyG, wishG⟩ := hG cdv f c' s1 H1 Q (fun E H' Q' => t E σ H' Q') (fun W pn xe E p1 p2 tk hW => pe_act (i := 0) J1 L fAt fNew fFrame (hbind _ _ _ _ _) tk hW room (fun A outer s H room2 => hbody A outer s H E f c' room2) hNg hva hd hcd) c'At (wish H1 step)
    exact ⟨tg, bodyG.nox, wishG⟩
  refine wpAny_call (codeAny_mono ran fun r s2 ends => ?_)
  cases r with
  | error e => exact (show False from ends).elim
  | ok flow =>
    cases flow with
    | ret u => exact J1.after ends
    | next => exact ends.elim
    | brk => exact ends.elim
    | cont => exact ends.elim
end Q

set_option Elab.async false
set_option linter.all false
set_option maxRecDepth 100000
set_option maxHeartbeats 4000000
/-! try: ask() / except C as e: return (tag, e.f, ..) -/
namespace Q
open PySem PySem.Spec PyProof.Rows L2 LamX
/-- an errors' reading may count on the number of slots -/
theorem takes_len {X : Cx} {W : L2.WX} (tk : Takes X W) : Takes X (fun cls d σ H => σ.length = X.N.length → W cls d σ H) := fun u s' ⟨a, B, sI, pins, σ, H, cls, d, e, I, nb, up, sky, na, os, ag, w⟩ =>
  tk u s' ⟨a, B, sI, pins, σ, H, cls, d, e, I, nb, up, sky, na, os, ag, w I.len⟩
def TTried (K : PySem.W.Frag) (n : Nat) (l : List (Value × Nat × Suite)) : (XK → Hp → VK → Prop) → Hp → VK → Prop := fun tl H Q =>
  tl (fun cls d H' => ∀ τ : L2.St, τ.length = n → wNamed K (fun _ _ _ _ => False) { nx := fun _ H' => Q .non H', rt := Q } l cls d τ H') H fun _ H' => Q .non H'
theorem tried_gives {X : Cx} {Ng : List Str} {x a q : Str} {sg : Scope} {g : Addr} {cdg : Value} {h0 : ExceptHandler} {more : List ExceptHandler} {l : List (Value × Nat × Suite)} {j : Nat} {p1 p2 p3 p4 p5 p6 : Pos} (nd : Ng.Nodup)
    (clauses : ∀ (s : Shared) (H : Hp), Clauses (cxOf C8.CX0 X.prog X.w X.K X.mg X.base Ng x sg g cdg X.A X.stack s H C8.E0).nox (h0 :: more) l) (s0 : ∀ f : Addr, (L2.start Ng [V.ref f])[0]? = some (some (V.ref f)))
    (sw : ∀ env : Env, swapsWith (.Call (.Name a p1) [] [] p2) none p3.line env = pure false) :
    GivesTo X Ng x sg g cdg [.Try [.Expr (.Call (.Name a p1) [] [] p2) p3] (h0 :: more) [] [] p4, .Return (some (.Constant .none j p5)) p6] a q (TTried X.K Ng.length l) := by
  intro f c' s H Q tl act hc wish
  refine ⟨_, pss_cons (ps_try_named (X := (cxOf C8.CX0 X.prog X.w X.K X.mg X.base Ng x sg g cdg X.A X.stack s H C8.E0).nox) (l := l)
      (tb := fun W D σ H => ∃ Ech : XK, (∀ cls d τ H', τ.length = Ng.length → Ech cls d H' → W cls d τ H') ∧ σ[0]? = some (some (.ref f)) ∧ H c' = some (CodeO c' q) ∧ tl Ech H (fun _ H' => D.nx σ H'))
      rfl rfl nd L2.takes0 (fun W pn xe tk _ => ?_) (clauses s H)) (pss_one (ps_ret pe_non)), ?_⟩
  · refine ⟨fun pins s' σ H' D I ⟨Ech, hW, h1, h2, h3⟩ => ?_⟩
    have called := act (fun cls d τ H' => τ.length = Ng.length → W cls d τ H') pn xe Ech p1 p2 (takes_len tk) fun cls d τ H' e n => hW cls d τ H' n e
    exact (pss_one (ps_expr (pos := p3) called (sw _))).run pins s' σ H' D I ⟨h1, h2, h3⟩
  · exact ⟨_, fun cls d τ H' n e => e τ n, s0 f, hc, wish⟩
/-- a clause: its class, the slot of its name, the tag, the fields told -/
structure Cl where
  C : Addr
  i : Nat
  tag : Str
  fs : List Str
def tFlds (a : Addr) (cls : Value) (d : Option Addr) (C : Addr) (i : Nat) : List Str → TA
  | [] => tNil
  | f :: fs => tCons (tXf a cls d C f (tVar i)) (tFlds a cls d C i fs)
def Cl.suite (k : Cl) : Suite := fun a cls d => tRet (tTup (tCons (tC (.str k.tag)) (tFlds a cls d k.C k.i k.fs)))
def Cl.told (k : Cl) : Value × Nat × Suite := (.ref k.C, k.i, k.suite)
def getFs (ns : List Str) (xs : List D) : List Str → Option (List D)
  | [] => some []
  | f :: fs => match lookD ns xs f, getFs ns xs fs with
    | some d, some ds => some (d :: ds)
    | _, _ => none
def wClauses {R : Rgn} (K : D → DS R → Prop) : List Cl → XR R
  | [] => fun _ _ _ _ => False
  | k :: r => fun C ns xs ρ => if C = k.C then ∃ ds, getFs ns xs k.fs = some ds ∧ ds.length ≤ 100 ∧ K (.tup (.str k.tag :: ds)) ρ else wClauses K r C ns xs ρ
theorem flds_run {K : PySem.W.Frag} {F H : Hp} {a C dx : Addr} {fs0 : List (Str × V)} {xs : List D} {σ : L2.St} {i : Nat} (hi : σ[i]? = some (some (.ref a))) (at_ : H dx = some (.xd fs0)) (r : Reps K F (fs0.map (·.2)) xs) :
    ∀ (fs : List Str) (ds : List D) (Q : List V → Hp → Prop), getFs (fs0.map (·.1)) xs fs = some ds → (∀ vs, Reps K F vs ds → Q vs H) → tFlds a (.ref C) (some dx) C i fs σ H Q
  | [], ds, Q, h, q => by
    cases h
    exact q [] .nil
  | f :: fs, ds, Q, h, q => by
    unfold getFs at h
    split at h
    · rename_i d ds' h1 h2
      cases h
      obtain ⟨v, hv, rv⟩ := lookD_of f r d h1
      refine ⟨.ref a, hi, rfl, rfl, dx, fs0, v, rfl, at_, hv, flds_run hi at_ r fs ds' _ h2 fun vs rs => q (v :: vs) (.cons rv rs)⟩
    · cases h
theorem clauses_run {c : Ctx} {F H : Hp} {O : List Addr} {σ : L2.St} {ρ : DS c.R} {Kk : D → DS c.R → Prop} {Q : VK} {C dx : Addr} {ns : List Str} {xs : List D} {n : Nat} (S : St c F O σ ρ H) (xd : XdL c.K F H dx ns xs)
    (next : ∀ d v F' H', Kk d ρ → St c F' O σ ρ H' → Same F F' → (∀ a ∈ O, H' a = H a) → Rep c.K F' v d → Q v H') {D0 : Ends} (rt : D0.rt = Q) : ∀ (cs : List Cl), (∀ k ∈ cs, k.i < n) → (∀ k ∈ cs, PySem.W.exmOne c.K (.ref C) (.ref k.C) = some (decide (C = k.C))) → wClauses Kk cs C ns xs ρ →
      ∀ τ : L2.St, τ.length = n → wNamed c.K (fun _ _ _ _ => False) D0 (cs.map Cl.told) (.ref C) (some dx) τ H
  | [], _, _, w, _, _ => w.elim
  | k :: r, hn, hx, w, τ, len => by
    refine ⟨decide (C = k.C), hx k List.mem_cons_self, fun yes a na => ?_, fun no => ?_⟩
    · have e := of_decide_eq_true yes
      subst e
      unfold wClauses at w
      rw [if_pos rfl] at w
      obtain ⟨ds, hd, l100, wk⟩ := w
      obtain ⟨fs0, at_, en, rf⟩ := xd.at_
      subst en
      have hi : (τ.set k.i (some (.ref a)))[k.i]? = some (some (.ref a)) := List.getElem?_set_self (by rw [len]; exact hn k List.mem_cons_self)
      show tFlds a (.ref k.C) (some dx) k.C k.i k.fs (τ.set k.i (some (.ref a))) H _
      refine flds_run hi at_ rf k.fs ds _ hd fun vs rs => ⟨by rw [List.length_cons, rs.length]; exact Nat.le_trans (by omega : ds.length + 1 ≤ 100000) big_line, fun p hp => ?_⟩
      have gr := (Al.one (F := F) (o := HO.tup (V.str k.tag :: vs)) hp).grow S.sub
      show D0.rt _ _
      rw [rt]
      exact next _ _ _ _ wk (S.grow gr) gr.fs (fun q hq => by rw [upd_ne (fun z => (S.out q hq).2.2 (by rw [z]; exact hp))]) (.tup (SqT.of upd_same) (.cons (.str _) (rs.same gr.fs)))
    · have ne := of_decide_eq_false no
      unfold wClauses at w
      rw [if_neg ne] at w
      exact clauses_run S xd next rt r (fun q m => hn q (List.mem_cons_of_mem _ m)) (fun q m => hx q (List.mem_cons_of_mem _ m)) w τ len
theorem in_clauses {R : Rgn} {K : D → DS R → Prop} {C : Addr} {ns : List Str} {xs : List D} {ρ : DS R} : ∀ {cs : List Cl}, wClauses K cs C ns xs ρ → ∃ k ∈ cs, C = k.C
  | [], h => h.elim
  | k :: r, h => by
    by_cases e : C = k.C
    · exact ⟨k, List.mem_cons_self, e⟩
    · unfold wClauses at h
      rw [if_neg e] at h
      obtain ⟨k', m, e'⟩ := in_clauses h
      exact ⟨k', List.mem_cons_of_mem _ m, e'⟩
/-- tried(lambda: e) -/
def wTried {R : Rgn} (cs : List Cl) (w : WEX R) : WE R := fun ρ K => w ρ (fun _ ρ' => K .non ρ') (wClauses K cs)
section
variable {X : Cx} {c : Ctx}
theorem de_tried {T : List (Addr × Str)} {cs : List Cl} {n k : Nat} {x a : Str} {g co P : Addr} {st : Stmt} {gd : FuncData} {Ng : List Str} {params : Arguments} {body : Expr} {scope : Scope} {w : WEX c.R} {p lpos pos p1 p2 p3 p4 p5 p6 : Pos} {h0 : ExceptHandler} {more : List ExceptHandler} {j : Nat}
    (hm : X.mg x = some (.ref g)) (fg : FnP X.K x x st g gd) (hb : L2.Binds X.K gd [a] []) (Sg : FnScope Ng [a] (defScope st)) (hNg : Ng[0]? = some a) (hva : Vis (defScope st) a) (hbd : defBody st = [.Try [.Expr (.Call (.Name a p1) [] [] p2) p3] (h0 :: more) [] [] p4, .Return (some (.Constant .none j p5)) p6])
    (clauses : ∀ (cdg : Value) (s : Shared) (H : Hp), Clauses (cxOf C8.CX0 X.prog X.w X.K X.mg X.base Ng x (defScope st) g cdg X.A X.stack s H C8.E0).nox (h0 :: more) (cs.map Cl.told)) (s0 : ∀ f : Addr, (L2.start Ng [V.ref f])[0]? = some (some (V.ref f)))
    (slots : ∀ k ∈ cs, k.i < Ng.length) (kinds : ∀ k ∈ cs, ∀ k' ∈ cs, PySem.W.exmOne c.K (.ref k.C) (.ref k'.C) = some (decide (k.C = k'.C)))
    (TB : LamX.TabB X.base X.mg co P) (code : X.env.code = .ref co) (mem : (P, X.env.qual ++ "<lambda>") ∈ T) (uni : ∀ p ∈ T, p.1 = P → p.2 = X.env.qual ++ "<lambda>") (LR : LamR c.R T)
    (hr : Room (k + 2) X.A) (L : LamX.LamS X.env.scope scope) (nodef : defaultsOf params X.env = ([], [])) (hbind : ∀ (q : Str) (cl : List (Str × Addr)) (pm cv ctv : Value), bindArgs (PySem.W.kla_fn "<lambda>" q params body scope cl pm cv ctv) ⟨[], []⟩ = pure [])
    (hbody : ∀ (A : Around) (outer : List Env) (s : Shared) (H : Hp) (E : XK) (f c' : Addr), Room k (A.deeper (LamX.lamEnv X scope s.heap.objs.size f c')) → DX (LamX.lamCx X A outer s H E scope f c') c body w E) (hk : X.K = c.K := by rfl)
    (hg : Gl X x := by rfl) (hdb : (x == ("__debug__" : Str)) = false := by decide) (hd : (a == ("__debug__" : Str)) = false := by decide) (hcd : (a == ("__classdict__" : Str)) = false := by decide) :
    DE X c false false (.Call (.Name x p) [.Lambda params body scope lpos] [] pos) (wTried cs w) := by
  refine ⟨(pe_lam1 (T := T) (t := fun E => liftX c w E) hm fg hb Sg hNg hva (fun cdg => by rw [hbd]; exact tried_gives Sg.nd (clauses cdg) s0 fun env => rfl) TB code mem uni hr L nodef hbind (fun A outer s H E f c' room => (hbody A outer s H E f c' room).pe) hg hdb hd hcd).imp fun σ H Q ⟨ρ, F, O, Kk, S, hw, next⟩ => ?_, hk⟩
  obtain ⟨Z, r, _⟩ := S.reg
  refine ⟨(LR.tabs r).1, fun H1 step => ?_⟩
  obtain ⟨S1, ko1⟩ := S.lam LR step
  refine ⟨ρ, F, O, _, _, S1, hw, fun d ρ' v F' H' hk' S' fs ko rp => next .non ρ' .non F' H' hk' S' fs (fun q hq => by rw [ko q hq, ko1 q hq]) (fun z => by cases z) .non, fun C ns xs ρ' F' H' dx hX S' fs ko xd τ len => ?_⟩
  obtain ⟨k0, m0, e0⟩ := in_clauses hX
  rw [hk]
  exact clauses_run S' xd (fun d v F2 H2 hk2 S2 fs2 ko2 rp => next d ρ' v F2 H2 hk2 S2 (fs.trans fs2) (fun q hq => by rw [ko2 q hq, ko q hq, ko1 q hq]) (fun z => by cases z) rp) rfl cs slots (fun k' m => by rw [e0]; exact kinds k0 m0 k' m) hX τ len
end
end Q

set_option Elab.async false
set_option linter.all false
set_option maxRecDepth 100000
set_option maxHeartbeats 4000000
/-! the law's stream, a region -/
namespace Q
open PySem PySem.Spec PyProof.Rows L2
/-- the stream at st, its cells at L; at most c draws so far -/
def Sm (st L : Addr) (c : Nat) (H : Hp) : Prop := st ≠ L ∧ ∃ (cell n seed : Int) (cs : List Int), H st = some (.lst [.ref L, .int cell, .int n, .int seed]) ∧ H L = some (.lst (cs.map V.int)) ∧
  cs.length ≤ 63 ∧ 0 ≤ cell ∧ 0 ≤ n ∧ n ≤ (c : Int) ∧ 0 ≤ seed ∧ seed < 2147483647
/-- all but the stream -/
def dat (st L : Addr) (H : Hp) : Hp := fun b => if b = st ∨ b = L then none else H b
theorem dat_sub {st L : Addr} {H : Hp} {b : Addr} {o : HO} (h : dat st L H b = some o) : H b = some o ∧ b ≠ st ∧ b ≠ L := by
  unfold dat at h
  split at h
  · cases h
  · rename_i n
    exact ⟨h, fun e => n (.inl e), fun e => n (.inr e)⟩
theorem dat_of {st L : Addr} {H : Hp} {b : Addr} {o : HO} (h : H b = some o) (h1 : b ≠ st) (h2 : b ≠ L) : dat st L H b = some o := by
  unfold dat
  rw [if_neg (by rintro (e | e); exact h1 e; exact h2 e)]
  exact h
def spStart (K : PySem.W.Frag) : Sp := fun vs H Q _ => ∃ (a : Addr) (ns : List Int), vs = [.ref a] ∧ SqL K H a (ns.map V.int) ∧ ns.length ≤ 63 ∧
  ∀ (H' : Hp) (st L : Addr), Same H (dat st L H') → Sm st L 0 H' → H st = none → H L = none → Q (.ref st) H'
def spDraw : Sp := fun vs H Q _ => ∃ (st L : Addr) (c : Nat) (m : Int), vs = [.ref st, .int m] ∧ Sm st L c H ∧ c ≤ 1000000 ∧ 0 < m ∧ m ≤ 100000 ∧
  ∀ (H' : Hp) (i : Int), Same (dat st L H) (dat st L H') → Sm st L (c + 1) H' → 0 ≤ i → i < m → Q (.int i) H'
/-- the stream, and the tables T with the code objects that they tell -/
structure SG where
  st : Addr
  L : Addr
  c : Nat
structure SmOk (T : List (Addr × Str)) (g : SG) (Z : Addr → Prop) (H : Hp) : Prop where
  sm : Sm g.st g.L g.c H
  zs : Z g.st
  zL : Z g.L
  tabs : LamX.Tabs T H
  zT : ∀ p ∈ T, Z p.1
  zc : ∀ p ∈ T, ∀ ps pos d, H p.1 = some (.tbl ps) → codeAmong pos ps.toList = some (.ref d) → Z d
  live : ∀ a, Z a → H a ≠ none
theorem Sm.at {st L : Addr} {c : Nat} {H H' : Hp} (h : Sm st L c H) (h1 : H' st = H st) (h2 : H' L = H L) : Sm st L c H' := by
  obtain ⟨ne, cell, n, seed, cs, a, b, r⟩ := h
  exact ⟨ne, cell, n, seed, cs, by rw [h1]; exact a, by rw [h2]; exact b, r⟩
def Strm (T : List (Addr × Str)) : Rgn where
  G := SG
  ok := SmOk T
  fr := fun {g Z H H'} h s => by
    have et : ∀ p ∈ T, H' p.1 = H p.1 := fun p hp => s _ (h.zT p hp)
    refine ⟨h.sm.at (s _ h.zs) (s _ h.zL), h.zs, h.zL, fun p hp => ?_, h.zT, fun p hp ps pos d e am => h.zc p hp ps pos d (by rw [← et p hp]; exact e) am, fun a z => by rw [s a z]; exact h.live a z⟩
    obtain ⟨ps, a1, a2, a3⟩ := h.tabs p hp
    refine ⟨ps, by rw [et p hp]; exact a1, a2, fun pos cv am => ?_⟩
    obtain ⟨d, e1, e2⟩ := a3 pos cv am
    subst e1
    exact ⟨d, rfl, by rw [s d (h.zc p hp ps pos d a1 am)]; exact e2⟩
  al := fun h a z => h.live a z
theorem lam_strm (T : List (Addr × Str)) : LamR (Strm T) T where
  tabs := fun h => ⟨SmOk.tabs h, SmOk.zT h⟩
  step := fun {g Z H H1} h s => by
    have h : SmOk T g Z H := h
    have notT : ∀ b xs, H b = some (.lst xs) → ∀ p ∈ T, p.1 ≠ b := fun b xs e p hp q => by
      obtain ⟨ps, a1, _⟩ := h.tabs p hp
      rw [q, e] at a1
      cases a1
    obtain ⟨ne, cell, n, seed, cs, hst, hL, _⟩ := id h.sm
    refine ⟨fun b => Z b ∨ (H b = none ∧ ∃ p ∈ T, ∃ ps pos, H1 p.1 = some (.tbl ps) ∧ codeAmong pos ps.toList = some (.ref b)), ⟨h.sm.at (by rw [hst]; exact s.keep _ _ hst (notT _ _ hst)) (by rw [hL]; exact s.keep _ _ hL (notT _ _ hL)), .inl h.zs, .inl h.zL, s.tabs, fun p hp => .inl (h.zT p hp), fun p hp ps pos d e am => ?_, fun a z => ?_⟩, fun b z => .inl z, fun b z => z.imp id And.left⟩
    · rcases s.codes p hp ps pos d e am with ⟨ps0, e0, am0⟩ | q
      · exact .inl (h.zc p hp ps0 pos d e0 am0)
      · exact .inr ⟨q, p, hp, ps, pos, e, am⟩
    · rcases z with z | ⟨q, p, hp, ps, pos, e, am⟩
      · by_cases m : ∃ p ∈ T, p.1 = a
        · obtain ⟨p, hp, rfl⟩ := m
          obtain ⟨ps, e, _⟩ := s.tabs p hp
          rw [e]
          exact fun q => by cases q
        · cases q : H a with
          | none => exact absurd q (h.live a z)
          | some o =>
            rw [s.keep a o q fun p hp e => m ⟨p, hp, e⟩]
            exact fun q => by cases q
      · obtain ⟨ps1, e1, _, a3⟩ := s.tabs p hp
        rw [e] at e1
        cases e1
        obtain ⟨d, ed, hd⟩ := a3 pos _ am
        cases ed
        rw [hd]
        exact fun q => by cases q
/-- a number drawn: any below m -/
def mDraw (T : List (Addr × Str)) : WMR (Strm T) := fun ds g Kk => ∃ m : Int, ds = [.raw (.ref g.st), .int m] ∧ g.c ≤ 1000000 ∧ 0 < m ∧ m ≤ 100000 ∧ ∀ i : Int, 0 ≤ i → i < m → Kk (.int i) (⟨g.st, g.L, g.c + 1⟩ : SG)
/-- from the stream's own promise to the region's -/
theorem draw_R {K : PySem.W.Frag} {T : List (Addr × Str)} : ∀ vs H Q E, spR (Strm T) K (mDraw T) vs H Q E → spDraw vs H Q E := by
  rintro vs H Q E ⟨ds, F, Z, g, Kk, sub, r, ok, zF, ⟨m, rfl, hc, m0, m1, kk⟩, next⟩
  have ok : SmOk T g Z H := ok
  cases r with
  | cons r1 r =>
    cases r1
    cases r with
    | cons r2 r =>
      cases r2
      cases r
      refine ⟨g.st, g.L, g.c, m, rfl, ok.sm, hc, m0, m1, fun H' i e sm i0 i1 => ?_⟩
      have keep : ∀ b o, H b = some o → b ≠ g.st → b ≠ g.L → H' b = some o := fun b o q n1 n2 => (dat_sub (e _ _ (dat_of q n1 n2))).1
      obtain ⟨ne, cell, n, seed, cs, hst, hL, _⟩ := id ok.sm
      have notL : ∀ {b o}, H b = some o → (∀ xs, o ≠ .lst xs) → b ≠ g.st ∧ b ≠ g.L := fun {b o} q n => ⟨fun z => by
        rw [z, hst] at q
        exact n _ (Option.some.inj q).symm, fun z => by
        rw [z, hL] at q
        exact n _ (Option.some.inj q).symm⟩
      have tab : ∀ p ∈ T, ∀ ps, H p.1 = some (.tbl ps) → H' p.1 = some (.tbl ps) := fun p hp ps q => by
        obtain ⟨n1, n2⟩ := notL q (fun xs z => by cases z)
        exact keep _ _ q n1 n2
      have code : ∀ d q, H d = some (LamX.CodeO d q) → H' d = some (LamX.CodeO d q) := fun d q h => by
        obtain ⟨n1, n2⟩ := notL h (fun xs z => by unfold LamX.CodeO at z; cases z)
        exact keep _ _ h n1 n2
      have live : ∀ b, H b ≠ none → H' b ≠ none := fun b n => by
        by_cases z1 : b = g.st
        · obtain ⟨_, cell', n', seed', cs', a, _⟩ := sm
          rw [z1, a]
          exact fun z => by cases z
        · by_cases z2 : b = g.L
          · obtain ⟨_, cell', n', seed', cs', _, a, _⟩ := sm
            rw [z2, a]
            exact fun z => by cases z
          · cases q : H b with
            | none => exact absurd q n
            | some o =>
              rw [keep b o q z1 z2]
              exact fun z => by cases z
      have tabs' : ∀ p ∈ T, ∀ ps, H' p.1 = some (.tbl ps) → H p.1 = some (.tbl ps) := fun p hp ps q => by
        obtain ⟨ps0, a1, _⟩ := ok.tabs p hp
        have := tab p hp ps0 a1
        rw [this] at q
        cases q
        exact a1
      refine next (.int i) (⟨g.st, g.L, g.c + 1⟩ : SG) (.int i) F Z H' (kk i i0 i1) ⟨Same.refl _, fun b o q => ?_, fun b n => .inl n, fun b o q z => ?_, live, (⟨sm, ok.zs, ok.zL, fun p hp => ?_, ok.zT, fun p hp ps pos d q am => ok.zc p hp ps pos d (tabs' p hp ps q) am, fun a z => live a (ok.live a z)⟩ : SmOk T ⟨g.st, g.L, g.c + 1⟩ Z H'), zF, fun b z => .inl z⟩ (.int i)
      · refine keep b o (sub _ _ q) (fun z => ?_) fun z => ?_
        · rw [z, zF _ ok.zs] at q; cases q
        · rw [z, zF _ ok.zL] at q; cases q
      · exact keep b o q (fun e => z (by rw [e]; exact ok.zs)) fun e => z (by rw [e]; exact ok.zL)
      · obtain ⟨ps, a1, a2, a3⟩ := ok.tabs p hp
        refine ⟨ps, tab p hp ps a1, a2, fun pos cv am => ?_⟩
        obtain ⟨d, e1, e2⟩ := a3 pos cv am
        exact ⟨d, e1, code d _ e2⟩
section
variable {R : Rgn} {g : WG R} {wt : WB R} {we : WE R} {vs : List Nat} {K : List D → DS R → Prop}
/-- a comprehension by an invariant of what is left, what is told -/
theorem lcGo_ind (I : List D → List D → DS R → Prop) (st : ∀ (d : D) (rest acc : List D) (N : List D → DS R → Prop) (ρ : DS R), (∀ acc' ρ', I rest acc' ρ' → N acc' ρ') → I (d :: rest) acc ρ →
      g d ρ fun ρ2 => wt ρ2 fun b ρ3 => if b = true then we ρ3 fun y ρ4 => N (acc ++ [y]) ⟨ρ4.g, wipeL ρ4.sl vs⟩ else N acc ⟨ρ3.g, wipeL ρ3.sl vs⟩)
    (e : ∀ acc ρ, I [] acc ρ → K acc ρ) : ∀ (ds acc : List D) (ρ : DS R), I ds acc ρ → lcGo g wt we vs K ds acc ρ
  | [], acc, ρ, h => by
    unfold lcGo
    exact e acc ρ h
  | d :: ds, acc, ρ, h => by
    unfold lcGo
    exact st d ds acc (fun acc' ρ' => lcGo g wt we vs K ds acc' ρ') ρ (fun acc' ρ' h' => lcGo_ind I st e ds acc' ρ' h') h
end
end Q

set_option Elab.async false
set_option linter.all false
set_option maxRecDepth 100000
set_option maxHeartbeats 4000000
/-! x, y = a, b: the first one an object of the def's own -/
namespace Q
open PySem PySem.Spec PyProof.Rows L2
section
variable {X : Cx} {c : Ctx} {fr : Bool} {a b : Expr} {pos : Pos} {pa pb : Bool} {wa wb : WE c.R}
def sParO {R : Rgn} (i k : Nat) (wa wb : WE R) : WS R := fun Dk ρ => wa ρ fun x ρ1 => wb ρ1 fun y ρ2 => Dk.nx ((ρ2.put i (some (.own x))).put k (some (.fz y)))
theorem ObjD.same {K : PySem.W.Frag} {F F' : Hp} (e : Same F F') : ∀ {o : HO} {d : D}, ObjD K F o d → ObjD K F' o d := fun {o d} h => by
  cases o <;> cases d <;> simp only [ObjD] at h ⊢
  · exact h.same e
  · exact ⟨h.1, h.2.same e⟩
  · exact ⟨h.1, h.2.same e⟩
theorem ds_parO {i k : Nat} {x y : Str} {px py pt : Pos} {kt k2 pt2} (hN : X.N.Nodup) (hij : i ≠ k) (ha : FE X c pa a wa) (hb : DE X c pb false b wb) (hi : X.N[i]? = some x := by rfl) (hj : X.N[k]? = some y := by rfl)
    (hx : X.env.scope.names.lookup x = some .local := by rfl) (hy : X.env.scope.names.lookup y = some .local := by rfl) (hc : X.calm = true := by rfl)
    (hw : swappedStores [.Tuple [.Name x px, .Name y py] kt pt] (.Tuple [a, b] k2 pt2) X.env = pure (some [x, y]) := by rfl)
    (hs : swapsWithSole [.Tuple [.Name x px, .Name y py] kt pt] (.Tuple [a, b] k2 pt2) pos.line X.env = pure false := by rfl)
    (h1 : starEach [a, b] X.env = (false, eval a X.env) :: starEach [b] X.env := by rfl) (h2 : starEach [b] X.env = (false, eval b X.env) :: starEach [] X.env := by rfl) :
    DS1 X c fr (.Assign [.Tuple [.Name x px, .Name y py] kt pt] (.Tuple [a, b] k2 pt2) pos) (sParO i k wa wb) :=
  ⟨(ps_par hc hN hi hj hij hx hy (pa_cons ha.pe (pa_cons hb.pe pa_nil h2) h1) hw hs).imp fun E σ H ⟨ρ, F, Dk, S, w, k1, k2, k3, k4⟩ => ⟨ρ, F, [], _, S, w, fun d ρ1 p o F1 H1 hw2 S1 fs1 _ _ hp ob => by
    refine ⟨ρ1, F1, [p], _, S1.protect hp, hw2, fun d2 ρ2 v2 F2 H2 hk S2 fs2 ko2 _ r2 => ?_⟩
    have at_ : H2 p = some o := by rw [ko2 p (by simp)]; exact upd_same
    have S3 := (S2.release (by simp : p ∉ ([] : List Addr))).setO (q := p) (o := o) gone_at (ob.same fs2) i
    rw [gone_upd at_] at S3
    have r2 : Rep c.K F2 v2 d2 := r2
    exact ⟨_, _, rfl, k1 _ _ F2 H2 hk (S3.setF r2 k) (fs1.trans fs2)⟩⟩⟩
end
end Q

set_option Elab.async false
set_option linter.all false
set_option maxRecDepth 100000
set_option maxHeartbeats 4000000
/-! x.extend(e), e a list or a tuple -/
namespace Q
open PySem PySem.Spec PyProof.Rows L2
open PySem.AutoSeq1 in
theorem extend_tuple (l : Addr) (xs : Array Value) (n : Nat) (t : Addr) (ys : Array Value) (m : Nat) (td : Option Addr) (tsl : Array (Option Value)) (short : ¬ (!xs.isEmpty && Builtin.List.listTooLong (xs.size + ys.size)) = true) (fit1 : xs.size ≤ sizeLine) (fit2 : xs.size + ys.size ≤ sizeLine + 1) :
    Meets (Builtin.«list.extend» ⟨[.ref l, .ref t], []⟩) (fun _ R s => s.heap.get? l = some { cls := .type "list", dict := none, data := .seq xs n, slots := #[] } ∧ s.heap.get? t = some { cls := .type "tuple", dict := td, data := .seq ys m, slots := tsl } ∧
      R (.ok (.ret Value.none)) { s with heap := s.heap.update l (Obj.mapSeq fun x => x ++ ys), toks := s.toks }) :=
  .of_wp fun prog w A R s ⟨lAt, tAt, next⟩ => by
    obtain ⟨hp, g, d, tk, os⟩ := s
    have i1 := idx_int
    have i2 := PySem.AutoSeq1.sub_tuple_tuple
    have i3 := PySem.AutoSeq1.sub_list_list
    have i4 := PySem.AutoSeq1.sub_tuple_list
    have i5 := PySem.AutoSeq1.sub_list_tuple
    have both : (xs ++ ys).size ≤ sizeLine + 1 := by rw [Array.size_append]; exact fit2
    wp_walk using (wpAny_updateSeq lAt rfl (hz := fit1) (_hz' := both)), PySem.AutoSeq1.wpAny_loadPart' lAt, PySem.AutoSeq1.wpAny_loadPart' tAt
    exact ⟨_, rfl, next⟩
def rExtT (K : PySem.W.Frag) : V → List V → Hp → VK → Prop := fun x vs H Q => ∃ l b xs zs, x = .ref l ∧ vs = [.ref b] ∧ H l = some (.lst xs) ∧ SqT K H b zs ∧ xs.length + zs.length ≤ sizeLine ∧ Q .non (upd H l (.lst (xs ++ zs)))
theorem mt_extT {X : Cx} : MtM X "list.extend" (rExtT X.K) := by
  rintro pins s σ H x vs v us Q J rx rv ⟨l, b, xs, zs, rfl, rfl, at_l, at_b, size, wish⟩
  cases rx
  obtain ⟨u, rfl, ru⟩ := rv.one
  cases ru
  obtain ⟨_, its, n, rels, len, lObj⟩ := J.lstM at_l
  obtain ⟨tts, trels, ⟨⟨tcls, tdict, tdata, tsl⟩, tObj, tCls, tn, tData⟩, _⟩ := J.tuple at_b
  have tlen := trels.length
  cases tCls
  cases tData
  have fits : its.toArray.size + tts.toArray.size ≤ sizeLine := by rw [List.size_toArray, List.size_toArray]; omega
  have noLong : ¬ (!its.toArray.isEmpty && Builtin.List.listTooLong (its.toArray.size + tts.toArray.size)) = true := by
    rw [notLongL fits, Bool.and_false]
    exact Bool.false_ne_true
  refine call_meets F.slot_list_extend ⟨_, lObj, rfl⟩ F.entry_list_extend (F.args_list_extend_2 _ _) (extend_tuple l its.toArray n b tts.toArray tn tdict tsl noLong (by rw [List.size_toArray]; omega) (by omega)) ⟨lObj, tObj, ?_⟩
  refine ⟨.non, _, J.lset (its' := its ++ tts) at_l lObj (by simp) (rels.append trels) ?_, rfl, wish⟩
  rw [List.length_append]
  omega
section
variable {X : Cx} {c : Ctx} {fr : Bool} {e : Expr} {pos : Pos} {pa ba : Bool} {we : WE c.R}
def sExtA {R : Rgn} (i : Nat) (we : WE R) : WS R := fun D ρ => (∃ ds, ρ.sl[i]? = some (some (.own (.lst ds)))) ∧ we ρ fun d ρ1 => ∃ ds es, d = .tup es ∧ ρ1.sl[i]? = some (some (.own (.lst ds))) ∧ ds.length + es.length ≤ 100000 ∧ D.nx (ρ1.put i (some (.own (.lst (ds ++ es)))))
theorem ds_extT {i : Nat} {x : Str} {ep pp qp : Pos} (he : DE X c pa ba e we) (hk : X.K = c.K := by rfl) (hN : X.N[i]? = some x := by rfl) (hv : Vis X.env.scope x := by first | exact .inl rfl | exact .inr (.inl rfl) | exact .inr (.inr rfl))
    (hd : (x == ("__debug__" : Str)) = false := by decide) (hcd : (x == ("__classdict__" : Str)) = false := by decide)
    (hbase : attributeBase (.Name x pp) "extend" X.env (eval (.Name x pp) X.env) = eval (.Name x pp) X.env := by rfl)
    (hfew : ((backTo ep (starEach [e] X.env)).all (fun x => !x.1) && (backToKw ep (keywordEach [] X.env)).all (fun x => x.1.isSome) && decide (([e] : List Expr).length + ([] : List Keyword).length + (if ([] : List Keyword).isEmpty then 0 else 1) < 30)) = true := by rfl)
    (hline : (qp.endLine == ep.line) = true := by rfl) (hst : starEach [e] X.env = (false, eval e X.env) :: starEach [] X.env := by rfl) (hplain : (backTo ep (starEach [] X.env)).any (·.1) = false := by rfl)
    (hs : swapsWith (.Call (.Attribute (.Name x pp) "extend" qp) [e] [] ep) none pos.line X.env = pure false := by rfl) :
    DS1 X c fr (.Expr (.Call (.Attribute (.Name x pp) "extend" qp) [e] [] ep) pos) (sExtA i we) :=
  ⟨(ps_expr (pe_bm PySem.F.plainAttrs_list PySem.F.slot_list_extend PySem.F.type_list_extend mt_extT (pe_var hN hv hd hcd) (pa_cons he.pe pa_nil hst) hbase hfew hline hst hplain) hs).imp fun E σ H ⟨ρ, F, Dk, S, ⟨⟨ds0, h0⟩, w⟩, k1, k2, k3, k4⟩ => by
    obtain ⟨q, hq, vs0, hvs0, _⟩ := own_at S h0
    refine ⟨.ref q, hq, .inl ⟨rfl, vs0, SqL.of hvs0⟩, ρ, F, [], _, S, w, fun d ρ1 v F1 H1 ⟨ds, es, e1, h2, hz, hk2⟩ S1 fs1 ko1 g1 r1 => ?_⟩
    subst e1
    obtain ⟨q', hq', vs, hvs, rv⟩ := own_at S1 h2
    rw [hq] at hq'
    cases hq'
    obtain ⟨b, us, rfl, hb, ru⟩ := (r1.bv S1).tup S1.sub
    refine ⟨q, b, vs, us, rfl, rfl, hvs, by rw [hk]; exact hb, by rw [rv.length, ru.length]; exact Nat.le_trans hz big_line, ?_⟩
    exact k1 _ σ F1 _ hk2 (S1.write hq h2 (o := .lst (vs ++ us)) (rv.append ru)) fs1⟩
end
end Q
namespace Q
open PySem PySem.Spec PyProof.Rows L2
/-- -e -/
def negD : D → Option D
  | .int i => some (.int (-i))
  | _ => none
theorem de_neg {X : Cx} {c : Ctx} {e : Expr} {pos : Pos} {pa ba : Bool} {we : WE c.R} (he : DE X c pa ba e we) : DE X c pa false (.UnaryOp .USub e pos) (wUn negD we) :=
  ⟨(pe_un un_neg he.pe).imp fun σ H Q ⟨ρ, F, O, Kk, S, w, k⟩ => ⟨ρ, F, O, _, S, w, fun x ρ1 v F1 H1 ⟨z, hz, hk⟩ S1 fs1 ko1 g1 r1 => by
    cases x <;> simp only [negD, reduceCtorEq, Option.some.injEq] at hz
    subst hz
    exact ⟨_, (r1.bv S1).int, k _ ρ1 _ F1 H1 hk S1 fs1 ko1 g1 (.int _)⟩⟩, he.kk⟩
end Q

set_option Elab.async false
set_option linter.all false
set_option maxRecDepth 100000
set_option maxHeartbeats 4000000
/-! e[:n], n anything that tells a number -/
namespace Q
open PySem PySem.Spec PyProof.Rows L2
def wSlH {R : Rgn} (we wh : WE R) : WE R := fun ρ K => we ρ fun x ρ1 => wh ρ1 fun y ρ2 => ∃ (i : Int) (z : D), y = .int i ∧ slD none (some i) x = some z ∧ K z ρ2
theorem de_slH {X : Cx} {c : Ctx} {e h : Expr} {pa pb bb : Bool} {we wh : WE c.R} {pos p2 : Pos} (he : DE X c pa false e we) (hh : DE X c pb bb h wh) : DE X c false false (.Subscript e (.Slice none (some h) none p2) pos) (wSlH we wh) :=
  ⟨(pe_slice ((sl_list (X := X)).or sl_tupA |>.or sl_str) he.pe po_none (po_some hh.pe)).imp fun σ H Q ⟨ρ, F, O, Kk, S, w, k⟩ => ⟨ρ, F, O, _, S, w, fun x ρ1 v F1 H1 hk S1 fs1 ko1 g1 r1 => ⟨ρ1, F1, O, _, S1, hk, fun y ρ2 u F2 H2 ⟨i, z, ey, hz, hk2⟩ S2 fs2 ko2 g2 r2 => by
    subst ey
    have r1' : Rep c.K F2 v x := Rep.same fs2 r1
    rw [he.kk]
    exact ⟨i, (r2.bv S2).int, rst S2.sub (.rep r1') hz fun v' F' H' al rp => k z ρ2 v' F' H' hk2 (S2.grow (al.grow S2.sub)) (fs1.trans (fs2.trans (al.fs S2.sub))) (fun q hq => by rw [ko_al S2 al q hq, ko2 q hq, ko1 q hq]) (fun e => by cases e) rp⟩⟩⟩, he.kk⟩
end Q

set_option Elab.async false
set_option linter.all false
set_option maxRecDepth 100000
set_option maxHeartbeats 4000000
/-! zip of two lists or of two tuples; what is never reached -/
namespace Q
open PySem PySem.Spec PyProof.Rows L2
section
variable {X : Cx} {c : Ctx} {e e2 : Expr} {p pos : Pos} {pa pb : Bool} {we wb : WE c.R}
theorem walks_zipT {K : PySem.W.Frag} {F0 : Hp} {a b : Addr} {vs us : List V} {ds es : List D} (q1 : SqT K F0 a vs) (m1 : Reps K F0 vs ds) (q2 : SqT K F0 b us) (m2 : Reps K F0 us es) : Walks K F0 (RZ.ItzT K a b) (zipD ds es) where
  go := fun F H i s1 s2 lt => by
    have lt1 : i < ds.length := by simp [zipD] at lt; omega
    have lt2 : i < es.length := by simp [zipD] at lt; omega
    have at1 : SqT K H a vs := SqT.same (s1.trans s2) q1
    have at2 : SqT K H b us := SqT.same (s1.trans s2) q2
    obtain ⟨v, hv, rv⟩ := m1.get' (List.getElem?_eq_getElem lt1)
    obtain ⟨u, hu, ru⟩ := m2.get' (List.getElem?_eq_getElem lt2)
    refine ⟨⟨vs, us, v, u, at1, at2, hv, hu⟩, ?_⟩
    rintro x H' ⟨new, y, y', rfl, free, rfl, f1, f2⟩
    obtain rfl : v = y := Option.some.inj (hv.symm.trans (f1 vs at1))
    obtain rfl : u = y' := Option.some.inj (hu.symm.trans (f2 us at2))
    obtain ⟨al, rp⟩ := al_tup (K := K) (us := [v, u]) (es := [ds[i], es[i]]) s2 free (.cons (rv.same s1) (.cons (ru.same s1) .nil))
    exact ⟨_, _, zipD_get (List.getElem?_eq_getElem lt1) (List.getElem?_eq_getElem lt2), al, rp⟩
  stop := fun F H s1 s2 => by
    refine ⟨vs, us, SqT.same (s1.trans s2) q1, SqT.same (s1.trans s2) q2, ?_⟩
    have l1 := m1.length
    have l2 := m2.length
    simp only [zipD, List.length_zipWith]
    omega
def wZpA {R : Rgn} (we wb : WE R) : WI R := fun ρ K => we ρ fun d ρ1 => wb ρ1 fun d' ρ2 => ∃ ds es, ((d = .lst ds ∧ d' = .lst es) ∨ (d = .tup ds ∧ d' = .tup es)) ∧ K (zipD ds es) ρ2
theorem di_zipA {elts : List Expr} {kk : Nat} {tpos : Pos} (hm : X.mg "zip" = none) (he : DE X c pa false e we) (he2 : DE X c pb false e2 wb) (hg : Gl X "zip" := by rfl) (h1 : starEach [e, e2] X.env = (false, eval e X.env) :: starEach [e2] X.env := by rfl) (h2 : starEach [e2] X.env = (false, eval e2 X.env) :: starEach [] X.env := by rfl)
    (h4 : (backTo pos (starEach [e2] X.env)).any (·.1) = false := by rfl) : DI X c (.Tuple elts kk tpos) (.Call (.Name "zip" p) [e, e2] [] pos) (wZpA we wb) :=
  ⟨(RZ.pi_zipA hg hm (pa_cons he.pe (pa_cons he2.pe pa_nil h2) h1) h1 h4).imp fun σ H R ⟨ρ, F, O, Kk, S, w, k⟩ => ⟨ρ, F, O, _, S, w, fun d ρ1 v F1 H1 hk1 S1 fs1 ko1 g1 r1 => ⟨ρ1, F1, O, _, S1, hk1, fun d' ρ2 u F2 H2 ⟨ds, es, cs, hk⟩ S2 fs2 ko2 g2 r2 => by
    have r1 := Rep.same fs2 r1
    have keep : ∀ q ∈ O, H2 q = H q := fun q hq => by rw [ko2 q hq, ko1 q hq]
    rcases cs with ⟨rfl, rfl⟩ | ⟨rfl, rfl⟩
    · cases r1 with
      | lst h r =>
        cases r2 with
        | lst h' r' =>
          rw [he.kk]
          exact ⟨_, _, _, _, rfl, .inl ⟨SqL.of (S2.sub _ _ h), SqL.of (S2.sub _ _ h'), k _ ρ2 F2 H2 _ hk S2 (fs1.trans fs2) keep (walks_zip h r h' r')⟩⟩
    · cases r1 with
      | tup h r =>
        cases r2 with
        | tup h' r' =>
          rw [he.kk]
          exact ⟨_, _, _, _, rfl, .inr ⟨SqT.same S2.sub h, SqT.same S2.sub h', k _ ρ2 F2 H2 _ hk S2 (fs1.trans fs2) keep (walks_zipT h r h' r')⟩⟩⟩⟩⟩
/-- never reached -/
def wNev {R : Rgn} : WE R := fun _ _ => False
theorem de_nev (hk : X.K = c.K := by rfl) : DE X c pa false e (wNev (R := c.R)) := ⟨⟨fun _ _ _ _ _ _ h => by obtain ⟨_, _, _, _, _, w, _⟩ := h; exact w.elim⟩, hk⟩
end
end Q

set_option Elab.async false
set_option linter.all false
set_option maxRecDepth 100000
set_option maxHeartbeats 4000000
/-! a method without arguments; .append to what is fresh; C(x), x a list of one's own that stays so -/
namespace Q
open PySem PySem.Spec PyProof.Rows L2
/-- a method of the class at C -/
structure CalM (P : Program) (w : World) (K : PySem.W.Frag) (mg : Str → Option Value) (base : Heap) (C : Addr) (x : Str) (k : Nat) (ps : List Str) (sp : Sp) : Prop where
  there : ∃ (g : Addr) (gd : FuncData), Meth K C x g ∧ FnOk P w K mg base CX0 k g gd ps sp ∧ Binds K gd ps []
  cls : Cls K C
section
variable {X : Cx} {c : Ctx} {fr : Bool} {e o : Expr} {pos p apos : Pos} {pa pb : Bool} {we wo : WE c.R} {j k : Nat} {x : Str} {ps : List Str}
theorem lookup_no {f : Str} : ∀ {fs : List (Str × V)}, f ∉ fs.map (·.1) → fs.lookup f = none
  | [], _ => rfl
  | (n, v) :: fs, h => by
    rw [List.map_cons, List.mem_cons, not_or] at h
    rw [List.lookup_cons, beq_eq_false_iff_ne.mpr h.1]
    exact lookup_no h.2
def wMeth {R : Rgn} (C : Addr) (f : Str) (m : WM) (we : WE R) : WE R := fun ρ K => we ρ fun d ρ1 => ∃ ns xs, d = .ins C ns xs ∧ f ∉ ns ∧ m [d] fun z => K z ρ1
theorem fe_meth {C : Addr} {m : WM} {pl : Sem Bool} (M : CalM X.prog X.w X.K X.mg X.base C x k ps (spF c.K m)) (hr : Room j X.A) (he : DE X c pa false o we) (hj : k ≤ j := by decide)
    (ht : eval (.Call (.Attribute o x apos) [] [] pos) X.env = (do
      let ov ← eval o X.env
      standAt apos.atName
      let (f, first) ← holding [ov] (getMethod ov x pl)
      callWith pos f first (backTo pos (starEach [] X.env)) (backToKw pos (keywordEach [] X.env))) := by rfl) : FE X c pa (.Call (.Attribute o x apos) [] [] pos) (wMeth C x m we) := by
  obtain ⟨g, gd, isM, G, hb⟩ := M.there
  refine ⟨(pe_meth0 he.pe M.cls isM G (hr.mono hj) hb .nil pass0 ht).imp fun σ H Q ⟨ρ, F, O, Kk, S, w, k⟩ => ⟨ρ, F, O, _, S, w, fun d ρ1 v F1 H1 ⟨ns, xs, ed, nf, told⟩ S1 fs1 ko1 g1 r1 => ?_⟩, he.kk⟩
  subst ed
  have r1' : Rep c.K F1 v (.ins C ns xs) := r1
  obtain ⟨a, dx, fs, rfl, at_, en, _⟩ := (BV.rep r1' : BV c.K F1 H1 v _).ins S1.sub
  subst en
  exact ⟨a, dx, fs, rfl, at_, lookup_no nf, [_], F1, _, S1.sub, .cons r1' .nil, told, fun d q ob F' H' hd gr hq od =>
    k d ρ1 q ob F' H' hd (S1.grow gr) (fs1.trans gr.fs) (fun b hb => by rw [gr.at (S1.out b hb).2.2]; exact ko1 b hb) (fun t => ⟨(g1 t).1, (g1 t).2.trans gr⟩) hq od⟩
/-- .append(e) to a fresh list that nobody keeps -/
def sAppF {R : Rgn} (wo we : WE R) : WS R := fun Dk ρ => wo ρ fun d ρ1 => we ρ1 fun _ ρ2 => ∃ ds, d = .lst ds ∧ ds.length < 100000 ∧ Dk.nx ρ2
theorem ds_appF (ho : FE X c pa o wo) (he : DE X c pb false e we) (hk : X.K = c.K := by rfl)
    (hbase : attributeBase o "append" X.env (eval o X.env) = eval o X.env := by rfl)
    (hfew : ((backTo p (starEach [e] X.env)).all (fun x => !x.1) && (backToKw p (keywordEach [] X.env)).all (fun x => x.1.isSome) && decide (([e] : List Expr).length + ([] : List Keyword).length + (if ([] : List Keyword).isEmpty then 0 else 1) < 30)) = true := by rfl)
    (hline : (apos.endLine == p.line) = true := by rfl) (hst : starEach [e] X.env = (false, eval e X.env) :: starEach [] X.env := by rfl) (hplain : (backTo p (starEach [] X.env)).any (·.1) = false := by rfl)
    (hs : swapsWith (.Call (.Attribute o "append" apos) [e] [] p) none pos.line X.env = pure false := by rfl)
    (lst : ∀ (ρ : DS c.R) (Kk : D → DS c.R → Prop), wo ρ Kk → wo ρ fun d ρ1 => Kk d ρ1 ∧ ∃ ds, d = .lst ds) : DS1 X c fr (.Expr (.Call (.Attribute o "append" apos) [e] [] p) pos) (sAppF wo we) := by
  refine ⟨(ps_expr (pe_bm PySem.F.plainAttrs_list PySem.F.slot_list_append PySem.F.type_list_append mt_append ho.pe (pa_cons he.pe pa_nil hst) hbase hfew hline hst hplain) hs).imp fun E σ H ⟨ρ, F, Dk, S, w, k1, _⟩ => ?_⟩
  refine ⟨ρ, F, [], _, S, lst _ _ w, fun d ρ1 q ob F1 H1 ⟨w2, ds0, ed⟩ S1 fs1 _ _ free od => ?_⟩
  subst ed
  obtain ⟨vs, rfl, rv⟩ : ∃ vs, ob = .lst vs ∧ Reps c.K F1 vs ds0 := by
    cases ob <;> simp only [ObjD] at od
    exact ⟨_, rfl, od⟩
  refine ⟨.inl ⟨rfl, vs, SqL.of upd_same⟩, ρ1, F1, [q], _, S1.protect free, w2, fun d2 ρ2 v2 F2 H2 ⟨ds, e1, small, nx⟩ S2 fs2 ko2 _ _ => ?_⟩
  cases e1
  have still : H2 q = some (.lst vs) := by rw [ko2 q (by simp)]; exact upd_same
  refine ⟨q, vs, v2, rfl, rfl, still, by rw [rv.length]; exact Nat.lt_of_lt_of_le small big_line, ?_⟩
  have S3 := (S2.release (by simp : q ∉ ([] : List Addr))).protect (p := q) (o := HO.lst (vs ++ [v2])) gone_at
  have same : upd (gone H2 q) q (HO.lst (vs ++ [v2])) = upd H2 q (.lst (vs ++ [v2])) := by
    funext b
    by_cases z : b = q
    · rw [z, upd_same, upd_same]
    · rw [upd_ne z, upd_ne z, gone_ne z]
  rw [same] at S3
  exact k1 ρ2 σ F2 _ nx ⟨S3.len, S3.sub, S3.old, S3.new, S3.keep, S3.live, S3.slots, fun i a h => ⟨(S3.mine i a h).1, (S3.mine i a h).2.1, by simp⟩, S3.inj, (fun a h => by cases h), S3.reg.imp fun Z ⟨r, z1, z2, _, z4⟩ => ⟨r, z1, z2, (fun a h => by cases h), z4⟩⟩ (fs1.trans fs2)
end
end Q

set_option Elab.async false
set_option linter.all false
set_option maxRecDepth 100000
set_option maxHeartbeats 4000000
namespace Q
open PySem PySem.Spec PyProof.Rows L2
/-! no list, no dict in it, at any depth -/
mutual
def noL : D → Bool
  | .tup xs => noLs xs
  | .ins _ _ xs => noLs xs
  | .non => true
  | .bl _ => true
  | .int _ => true
  | .str _ => true
  | _ => false
def noLs : List D → Bool
  | [] => true
  | x :: xs => noL x && noLs xs
end
section
variable {K : PySem.W.Frag} {F : Hp} {q : Addr} {us : List V}
theorem SqT.gone {a : Addr} {vs : List V} (hq : F q = some (.lst us)) (h : SqT K F a vs) : SqT K (gone F q) a vs := by
  rcases h with (h | ⟨o, h⟩) | h
  · exact .inl (.inl (by rw [gone_ne (fun e => by rw [e, hq] at h; cases h)]; exact h))
  · exact .inl (.inr ⟨o, by rw [gone_ne (fun e => by rw [e, hq] at h; cases h)]; exact h⟩)
  · exact .inr h
mutual
theorem Rep.gone (hq : F q = some (.lst us)) : ∀ {v : V} {d : D}, Rep K F v d → noL d = true → Rep K (Q.gone F q) v d
  | _, _, .non, _ => .non
  | _, _, .bl b, _ => .bl b
  | _, _, .int i, _ => .int i
  | _, _, .str x, _ => .str x
  | _, _, .lst _ _, n => by simp [noL] at n
  | _, _, .tup h r, n => .tup (SqT.gone hq h) (Reps.gone hq r (by simpa [noL] using n))
  | _, _, .dK _ _ _, n => by simp [noL] at n
  | _, _, .dT _ _ _, n => by simp [noL] at n
  | _, _, .ins h e r, n => .ins (by rw [gone_ne (fun z => by rw [z, hq] at h; cases h)]; exact h) e (Reps.gone hq r (by simpa [noL] using n))
  | _, _, .raw _, n => by simp [noL] at n
theorem Reps.gone (hq : F q = some (.lst us)) : ∀ {vs : List V} {ds : List D}, Reps K F vs ds → noLs ds = true → Reps K (Q.gone F q) vs ds
  | _, _, .nil, _ => .nil
  | _, _, .cons r rs, n => by
    rw [noLs, Bool.and_eq_true] at n
    exact .cons (Rep.gone hq r n.1) (Reps.gone hq rs n.2)
end
end
section
variable {X : Cx} {c : Ctx} {pos p yp : Pos} {j k : Nat} {x : Str} {ps : List Str}
/-- C(y), y a list of one's own; what is made holds no list -/
def wMakeB {R : Rgn} (i : Nat) (m : WMX) : WE R := fun ρ K => ∃ ds, ρ.sl[i]? = some (some (.own (.lst ds))) ∧ m [.lst ds] (fun d => noL d = true ∧ K d ρ) fun _ _ _ => False
theorem de_makeB {C : Addr} {m : WMX} {i : Nat} {y : Str} (M : CalK X.prog X.w X.K X.mg X.base x C k ps m) (hr : Room j X.A) (hN : X.N[i]? = some y := by rfl) (hv : Vis X.env.scope y := by first | exact .inl rfl | exact .inr (.inl rfl) | exact .inr (.inr rfl))
    (hj : k + 1 ≤ j := by decide) (hk : X.K = c.K := by rfl) (hg : Gl X x := by rfl) (hdb : (x == ("__debug__" : Str)) = false := by decide) (hd : (y == ("__debug__" : Str)) = false := by decide) (hcd : (y == ("__classdict__" : Str)) = false := by decide)
    (he : starEach [.Name y yp] X.env = (false, eval (.Name y yp) X.env) :: starEach [] X.env := by rfl) (hpl : (backTo pos (starEach [] X.env)).any (·.1) = false := by rfl) : DE X c false false (.Call (.Name x p) [.Name y yp] [] pos) (wMakeB i m) := by
  obtain ⟨f, fd, mk, G, hb⟩ := M.ex
  refine ⟨(pe_make mk G (hr.mono hj) hg M.at_ hb .nil passF (pa_cons (pe_var hN hv hd hcd) pa_nil he) hdb he hpl).imp fun σ H Q ⟨ρ, F, O, Kk, S, ⟨ds, hi, told⟩, next⟩ => ?_, hk⟩
  obtain ⟨q, hq, vs, hvs, rv⟩ := own_at S hi
  obtain ⟨q1, q2, q3⟩ := S.mine i q ⟨hq, _, hi⟩
  refine ⟨.ref q, hq, fun a dx freeA freeD neq => ?_⟩
  have qa : q ≠ a := ne_of_none hvs freeA
  have inH : ∀ {b o}, F b = some o → H b = some o := fun {b o} e => S.sub b o e
  have Fa : F a = none := by
    cases z : F a with
    | none => rfl
    | some o => rw [inH z] at freeA; cases freeA
  have up : Same H (upd (upd H dx (.own a)) a (.ins C dx [])) := fun b o e => by
    rw [upd_ne (ne_of_none e freeA), upd_ne (ne_of_none e freeD)]
    exact e
  have sub1 : Same (upd F q (.lst vs)) H := fun b o e => by
    by_cases z : b = q
    · rw [z, upd_same] at e
      rw [z, hvs]
      exact e
    · rw [upd_ne z] at e
      exact inH e
  have F1a : upd F q (.lst vs) a = none := by rw [upd_ne (Ne.symm qa)]; exact Fa
  have FF1 : Same F (upd F q (.lst vs)) := fun b o e => by rw [upd_ne (fun z => by rw [z, q1] at e; cases e)]; exact e
  refine ⟨a, dx, [.ref q], [.lst ds], upd F q (.lst vs), _, _, rfl, upd_same, F1a, sub1.trans up, .cons (.lst upd_same (by rw [hk]; exact rv.same FF1)) .nil, told, fun ns xs fs F' H' ⟨nl, hk'⟩ gr nx en rf => ⟨rfl, ?_⟩, fun _ _ _ _ _ _ bad => bad.elim⟩
  have F'q : F' q = some (.lst vs) := gr.fs _ _ upd_same
  have ga : gone F' q a = none := by rw [gone_ne (Ne.symm qa)]; exact nx
  have g2 : Grow F H (upd (gone F' q) a (.ins C dx fs)) (upd H' a (.ins C dx fs)) := by
    refine ⟨fun b o e => ?_, fun b o e => ?_, fun b o e => ?_, fun b n => ?_⟩
    · have bq : b ≠ q := fun z => by rw [z, q1] at e; cases e
      have ba : b ≠ a := fun z => by rw [z, Fa] at e; cases e
      rw [upd_ne ba, gone_ne bq]
      exact gr.fs _ _ (FF1 _ _ e)
    · by_cases z : b = a
      · rw [z, upd_same] at e ⊢
        exact e
      · rw [upd_ne z] at e ⊢
        have bq : b ≠ q := fun y => by rw [y, gone_at] at e; cases e
        rw [gone_ne bq] at e
        exact gr.sub _ _ e
    · rw [upd_ne (ne_of_none e freeA)]
      exact gr.hs _ _ (up _ _ e)
    · by_cases z : b = a
      · rw [z]; exact .inr freeA
      · rw [upd_ne z] at n
        have bq : b ≠ q := fun y => by rw [y] at n; exact n gone_at
        rw [gone_ne bq] at n
        rcases gr.old b n with h | h
        · rw [upd_ne bq] at h
          exact .inl h
        · refine .inr ?_
          rw [upd_ne z] at h
          by_cases y : b = dx
          · rw [y]; exact freeD
          · rw [upd_ne y] at h; exact h
  have rf' : Reps X.K (gone F' q) (fs.map (·.2)) xs := Reps.gone F'q rf (by simpa [noL] using nl)
  have stay : Same (gone F' q) (upd (gone F' q) a (.ins C dx fs)) := fun b o e => by rw [upd_ne (fun z => by rw [z, ga] at e; cases e)]; exact e
  refine next _ ρ (.ref a) _ _ hk' (S.grow g2) g2.fs (fun b hb => ?_) (fun z => by cases z) (.ins upd_same en ?_)
  · rw [g2.at (S.out b hb).2.2]
  · rw [← hk]; exact rf'.same stay
end
end Q
namespace Q
open PySem PySem.Spec PyProof.Rows L2
section
variable {X : Cx} {c : Ctx} {a b : Expr} {pos : Pos} {pa pb : Bool} {wa wb : WE c.R} {j : Nat}
/-! == and != of a class's own, as tests -/
theorem dt_ownE {C : Addr} {m : WM} {n : Nat} (I : IsC c.K C) (O : OwnEq X C n m) (hr : Room j X.A) (ha : DE X c pa false a wa) (hb : DE X c pb false b wb) (hj : n ≤ j := by decide) (hm : behindInMarks .Eq b = false := by rfl) : DT X c (pa && pb) (.Compare a [.Eq] [b] pos) (wTest (wOwnE C false m wa wb)) := by
  obtain ⟨g, h1, h2, F⟩ := O.ex
  exact ⟨(pt_cmpR (op_ownE h1 h2 F (hr.mono hj)) ha.pe hb.pe hm).imp fun σ H Q h => by rw [ha.kk]; exact ownE_ok I ha hb (test_ok (ba := false) h)⟩
theorem dt_ownN {C : Addr} {m : WM} {n : Nat} (I : IsC c.K C) (O : OwnEq X C n m) (hr : Room j X.A) (ha : DE X c pa false a wa) (hb : DE X c pb false b wb) (hj : n + 1 ≤ j := by decide) (hm : behindInMarks .NotEq b = false := by rfl) : DT X c (pa && pb) (.Compare a [.NotEq] [b] pos) (wTest (wOwnE C true m wa wb)) := by
  obtain ⟨g, h1, h2, F⟩ := O.ex
  exact ⟨(pt_cmpR (op_ownN O.ne h1 h2 (by rw [ha.kk]; exact I.hm) F (hr.mono hj)) ha.pe hb.pe hm).imp fun σ H Q h => by rw [ha.kk]; exact ownE_ok I ha hb (test_ok (ba := false) h)⟩
end
end Q

set_option Elab.async false
set_option linter.all false
set_option maxRecDepth 100000
set_option maxHeartbeats 4000000
/-! sorted over data, by a key or without -/
namespace Q
open PySem PySem.Spec PyProof.Rows L2 PySem.SeqAt PySem.W
theorem vals_each {α : Type} {f : α → V} : ∀ {bs : List α} {us : List Value}, Vals (bs.map f) us → EachIs (fun u b => RelV (f b) u) us bs
  | [], _, h => by cases h; exact .nil
  | b :: bs, _, h => by
    cases h with
    | cons r t => exact .cons r (vals_each t)
theorem each_vals {α : Type} {f : α → V} : ∀ {bs : List α} {us : List Value}, EachIs (fun u b => RelV (f b) u) us bs → Vals (bs.map f) us
  | [], _, h => by cases h; exact .nil
  | b :: bs, _, h => by
    cases h with
    | cons r t => exact .cons r (each_vals t)
def pk (d : D) : PyData := (pyD d).getD .none
theorem pyDs_pk : ∀ {ks : List D}, (∀ k ∈ ks, pyD k = some (pk k)) → pyDs ks = some (ks.map pk)
  | [], _ => rfl
  | k :: ks, h => by
    rw [pyDs, h k List.mem_cons_self, pyDs_pk fun x hx => h x (List.mem_cons_of_mem _ hx)]
    rfl
theorem reps_zip {K : PySem.W.Frag} {F : Hp} : ∀ {vs : List V} {ds : List D}, Reps K F vs ds → ∀ p ∈ vs.zip ds, Rep K F p.1 p.2
  | _, _, .nil, p, h => by cases h
  | _, _, .cons r t, p, h => by
    rw [List.zip_cons_cons] at h
    rcases List.mem_cons.mp h with rfl | h
    · exact r
    · exact reps_zip t p h
theorem reps_of {K : PySem.W.Frag} {F : Hp} : ∀ {ps : List (V × D)}, (∀ p ∈ ps, Rep K F p.1 p.2) → Reps K F (ps.map (·.1)) (ps.map (·.2))
  | [], _ => .nil
  | p :: ps, h => .cons (h p List.mem_cons_self) (reps_of fun q hq => h q (List.mem_cons_of_mem _ hq))
theorem take_put {α : Type} {ds : List α} {i : Nat} {d : α} (h : ds[i]? = some d) : ds.take (i + 1) = ds.take i ++ [d] := by
  rw [List.take_add_one, h]
  rfl
/-- sorted by a key -/
def sortD (kf : D → D) (ds : List D) : List D := ds.mergeSort (dataLe false fun d => pk (kf d))
/-- the sorted list, as values and as data -/
theorem sort_both {K : PySem.W.Frag} {F : Hp} {vs : List V} {ds : List D} (kf : D → D) (r : Reps K F vs ds) :
    ∃ bs : List (V × PyData), bs.map (·.1) = vs ∧ bs.map (·.2) = (ds.map kf).map pk ∧ Reps K F ((bs.mergeSort (dataLe false (·.2))).map (·.1)) (sortD kf ds) := by
  have len := r.length
  let cs := vs.zip ds
  have c1 : cs.map (·.1) = vs := by simp [cs, List.map_fst_zip (Nat.le_of_eq len)]
  have c2 : cs.map (·.2) = ds := by simp [cs, List.map_snd_zip (Nat.le_of_eq len.symm)]
  refine ⟨cs.map fun p => (p.1, pk (kf p.2)), ?_, ?_, ?_⟩
  · rw [List.map_map]
    exact c1
  · rw [List.map_map, List.map_map]
    conv => rhs; rw [← c2, List.map_map]
    rfl
  · have e1 := sort_maps (r := fun a b : V × D => dataLe false (fun d => pk (kf d)) a.2 b.2) (s := dataLe false (fun p : V × PyData => p.2)) (fun p : V × D => (p.1, pk (kf p.2))) (l := cs) (fun a _ b _ => rfl)
    have e2 := sort_maps (r := fun a b : V × D => dataLe false (fun d => pk (kf d)) a.2 b.2) (s := dataLe false (fun d => pk (kf d))) (fun p : V × D => p.2) (l := cs) (fun a _ b _ => rfl)
    rw [← e1, List.map_map]
    have e3 : sortD kf ds = (cs.mergeSort fun a b : V × D => dataLe false (fun d => pk (kf d)) a.2 b.2).map (·.2) := by
      rw [e2]
      unfold sortD
      conv => lhs; rw [← c2]
    rw [e3]
    exact reps_of fun p hp => reps_zip r p ((List.mergeSort_perm _ _).mem_iff.mp hp)
section
variable {X : Cx} {c : Ctx} {x f a : Str} {k j : Nat} {p pos kpos fpos : Pos} {e : Expr} {pa ba : Bool} {we : WE c.R} {m : WM}
/-- sorted(e), without a key -/
def wSort {R : Rgn} (we : WE R) : WE R := fun ρ K => we ρ fun x ρ1 => ∃ ds : List D, seqD x = some ds ∧ (∀ d ∈ ds, pyD d = some (pk d) ∧ (pk d).depth ≤ 40) ∧ AllAlike (ds.map pk) ∧ Sortable (ds.map pk) ∧ K (.lst (sortD id ds)) ρ1
def rSortAny (K : PySem.W.Frag) : List V → Hp → VK → Prop := fun vs H Q => ∃ (a : Addr) (bs : List (V × PyData)), vs = [.ref a] ∧ SqL K H a (bs.map (·.1)) ∧ DpAll K H (bs.map (·.1)) (bs.map (·.2)) ∧ AllAlike (bs.map (·.2)) ∧ Sortable (bs.map (·.2)) ∧ (∀ b ∈ bs, b.2.depth ≤ 40) ∧
  ∀ p, H p = none → Q (.ref p) (upd H p (.lst ((bs.mergeSort (dataLe false (·.2))).map (·.1))))
theorem cr_sortedAny {X : Cx} (hu : X.A.units + 65 < cLine) : CallR X (.builtin "sorted") (rSortAny X.K) := by
  intro pins s σ H vs us Q I r h
  obtain ⟨a, bs, rfl, hs, hd, hal, hk, hdp, q⟩ := h
  obtain ⟨its, rv, hl, hz⟩ := I.list hs
  rw [Vals.ref1 r]
  rw [List.length_map] at hz
  obtain ⟨as, rd⟩ := Dp.readsAll I _ _ _ hd rv
  refine PySem.W.sorted_data (enc := fun b : V × PyData => b.2) (R := fun v (b : V × PyData) => RelV b.1 v) hl.isList (vals_each rv) (readsAll_each (fun b : V × PyData => b.2) rd) hal hk hz (fun b hb => by have := hdp b hb; omega) fun out ho eo => ?_
  obtain ⟨ep, he'⟩ := PyProof.Rows.sortedAll_at s.heap its (List.toArray out)
  have rv' := each_vals (f := fun b : V × PyData => b.1) eo
  exact ⟨.ref _, upd H (s.heap.objs.size + 1) (.lst ((bs.mergeSort (dataLe false (·.2))).map (·.1))), I.laid (t' := s.toks) (fun _ _ => PyProof.Rows.sortedAll_old) (Nat.le_succ _) ⟨by rw [List.length_map, List.length_mergeSort]; exact hz, out, ep, rv', he'⟩, rfl, q _ (I.hok.fresh (Nat.le_succ _))⟩
end
end Q

set_option Elab.async false
set_option linter.all false
set_option maxRecDepth 100000
set_option maxHeartbeats 4000000
/-! calls that may let errors out: classes, methods, own operators; methods with arguments; sorted, .get, [::-1] -/
namespace Q
open PySem PySem.Spec PyProof.Rows L2
section
variable {X : Cx} {c : Ctx} {fr : Bool} {e o a b : Expr} {es : List Expr} {pos p apos : Pos} {pa pb ba bb : Bool} {we wo wb : WE c.R} {wa : WA c.R} {j k n : Nat} {x : Str} {ps : List Str} {E : XK} {Xk : XW}
/-- the heap in which an object was made anew -/
theorem made_grow {F1 H1 : Hp} {a dx C : Addr} (S1 : Same F1 H1) (ha : H1 a = none) (hd : H1 dx = none) : F1 a = none ∧ Grow F1 H1 F1 (upd (upd H1 dx (.own a)) a (.ins C dx [])) := by
  have hs2 : Same H1 (upd (upd H1 dx (.own a)) a (.ins C dx [])) := fun b o q => by
    rw [upd_ne (fun z => by rw [z, ha] at q; cases q), upd_ne (fun z => by rw [z, hd] at q; cases q)]
    exact q
  refine ⟨?_, Same.refl _, S1.trans hs2, hs2, fun b h => .inl h⟩
  cases q : F1 a with
  | none => rfl
  | some o => rw [S1 _ _ q] at ha; cases ha
/-- C(..), its errors leave the def -/
theorem de_makeX {C : Addr} {m : WMX} (M : CalK X.prog X.w X.K X.mg X.base x C k ps m) (hx : Passes (L2.CX X.prog X.w) X E) (fit : XFit c E Xk) (hr : Room j X.A) (ha : DA X c pa (e :: es) wa) (hj : k + 1 ≤ j := by decide) (hk : X.K = c.K := by rfl) (hg : Gl X x := by rfl) (hdb : (x == ("__debug__" : Str)) = false := by decide)
    (he : starEach (e :: es) X.env = (false, eval e X.env) :: starEach es X.env := by rfl) (hpl : (backTo pos (starEach es X.env)).any (·.1) = false := by rfl) : DE X c false false (.Call (.Name x p) (e :: es) [] pos) (wCallX Xk m wa) := by
  obtain ⟨f, fd, mk, G, hb⟩ := M.ex
  refine ⟨(pe_make mk G (hr.mono hj) hg M.at_ hb .nil hx ha.pa hdb he hpl).imp fun σ H Q ⟨ρ, F, O, Kk, S, hw, k1⟩ => ⟨ρ, F, O, _, S, hw, fun ds ρ1 vs F1 H1 hm S1 fs1 ko1 g1 r1 a dx ha hd nd => ?_⟩, hk⟩
  obtain ⟨na, gr0⟩ := made_grow (C := C) S1.sub ha hd
  rw [app_nil]
  refine ⟨a, dx, vs, ds, F1, _, Xk, rfl, upd_same, na, gr0.sub, by rw [hk]; exact r1, hm, fun ns xs fs F' H' hk' gr nx en rf => ⟨rfl, ?_⟩, fun C' ns xs F' H' d hX gr xd => ?_⟩
  · have gr1 := gr0.trans gr
    have at_ : H' a = some (.ins C dx []) := gr.hs _ _ upd_same
    have g2 : Grow F1 H1 (upd F' a (.ins C dx fs)) (upd H' a (.ins C dx fs)) :=
      ⟨fun b o q => by rw [upd_ne (fun z => by rw [z, na] at q; cases q)]; exact gr1.fs _ _ q, Same.upd2 gr1.sub, fun b o q => by rw [upd_ne (fun z => by rw [z, ha] at q; cases q)]; exact gr1.hs _ _ q, fun b n => by
        by_cases z : b = a
        · rw [z]; exact .inr ha
        · rw [upd_ne z] at n; exact gr1.old b n⟩
    have fs2 : Same F' (upd F' a (.ins C dx fs)) := fun b o q => by rw [upd_ne (fun z => by rw [z, nx] at q; cases q)]; exact q
    rw [hk] at rf
    exact k1 _ ρ1 _ _ _ hk' (S1.grow g2) (fs1.trans g2.fs) (fun q hq => by rw [g2.at (S1.out q hq).2.2, ko1 q hq]) (fun z => by cases z) (.ins upd_same en (rf.same fs2))
  · have gr1 := gr0.trans gr
    rw [hk] at xd
    obtain ⟨x0, x1, x2⟩ := xd
    have h1 : H1 d = none := gr0.hs.free x1
    exact fit C' ns xs ρ1.g F' H' d hX (S1.grow gr1).fin ⟨x0, S1.dead h1, x2⟩
/-- a method that may let errors out -/
structure CalMX (P : Program) (w : World) (K : PySem.W.Frag) (mg : Str → Option Value) (base : Heap) (C : Addr) (x : Str) (k : Nat) (ps : List Str) (sp : Sp) : Prop where
  there : ∃ (g : Addr) (gd : FuncData), Meth K C x g ∧ FnOk P w K mg base (L2.CX P w) k g gd ps sp ∧ Binds K gd ps []
  cls : Cls K C
def wMethA {R : Rgn} (C : Addr) (f : Str) (m : WM) (we : WE R) (wa : WA R) : WE R := fun ρ K => we ρ fun d ρ1 => (∃ ns xs, d = .ins C ns xs ∧ f ∉ ns) ∧ wa ρ1 fun ds ρ2 => m (d :: ds) fun z => K z ρ2
def wMethX {R : Rgn} (C : Addr) (f : Str) (m : WMX) (we : WE R) (wa : WA R) : WEX R := fun ρ K Xk => we ρ fun d ρ1 => (∃ ns xs, d = .ins C ns xs ∧ f ∉ ns) ∧ wa ρ1 fun ds ρ2 => m (d :: ds) (fun z => K z ρ2) fun C' ns xs => Xk C' ns xs ρ2
theorem ins_at {F H : Hp} {v : V} {C : Addr} {f : Str} {d : D} (r : Rep c.K F v d) (S : Same F H) (h : ∃ ns xs, d = .ins C ns xs ∧ f ∉ ns) : ∃ a dx fs, v = .ref a ∧ H a = some (.ins C dx fs) ∧ fs.lookup f = none := by
  obtain ⟨ns, xs, rfl, nf⟩ := h
  obtain ⟨a, dx, fs, e1, at_, en, _⟩ := (BV.rep r : BV c.K F H v _).ins S
  subst en
  exact ⟨a, dx, fs, e1, at_, lookup_no nf⟩
theorem fe_methA {C : Addr} {m : WM} {pl : Sem Bool} (M : CalM X.prog X.w X.K X.mg X.base C x k ps (spF c.K m)) (hr : Room j X.A) (ho : DE X c pa false o wo) (ha : DA X c pb (e :: es) wa) (hj : k ≤ j := by decide)
    (hst : starEach (e :: es) X.env = (false, eval e X.env) :: starEach es X.env := by rfl) (hpl : (backTo pos (starEach es X.env)).any (·.1) = false := by rfl)
    (ht : eval (.Call (.Attribute o x apos) (e :: es) [] pos) X.env = (do
      let ov ← eval o X.env
      standAt apos.atName
      let (f, first) ← holding [ov] (getMethod ov x pl)
      callWith pos f first (backTo pos (starEach (e :: es) X.env)) (backToKw pos (keywordEach [] X.env))) := by rfl) : FE X c (pa && pb) (.Call (.Attribute o x apos) (e :: es) [] pos) (wMethA C x m wo wa) := by
  obtain ⟨g, gd, isM, G, hb⟩ := M.there
  refine ⟨(pe_meth ho.pe M.cls isM G (hr.mono hj) hb .nil pass0 ha.pa hst hpl ht).imp fun σ H Q ⟨ρ, F, O, Kk, S, w, kk⟩ => ⟨ρ, F, O, _, S, w, fun d ρ1 v F1 H1 ⟨hi, wa1⟩ S1 fs1 ko1 g1 r1 => ?_⟩, ho.kk⟩
  have r1' : Rep c.K F1 v d := r1
  obtain ⟨z, dx, fs, rfl, at_, nf⟩ := ins_at r1' S1.sub hi
  refine ⟨z, dx, fs, rfl, at_, nf, ρ1, F1, O, _, S1, wa1, fun ds ρ2 vs F2 H2 hm S2 fs2 ko2 g2 r2 => ?_⟩
  refine ⟨d :: ds, F2, _, S2.sub, .cons (r1'.same fs2) (by rw [app_nil]; exact r2), hm, fun y q ob F' H' hd gr hq od => kk y ρ2 q ob F' H' hd (S2.grow gr) (fs1.trans (fs2.trans gr.fs)) (fun b hb => by rw [gr.at (S2.out b hb).2.2, ko2 b hb, ko1 b hb]) (fun t => ?_) hq od⟩
  rw [Bool.and_eq_true] at t
  obtain ⟨e1, q1⟩ := g1 t.1
  obtain ⟨e2, q2⟩ := g2 t.2
  exact ⟨e2.trans e1, q1.trans (q2.trans gr)⟩
theorem dx_meth {C : Addr} {m : WMX} {pl : Sem Bool} (M : CalMX X.prog X.w X.K X.mg X.base C x k ps (spX c.K m)) (hx : Passes (L2.CX X.prog X.w) X E) (hr : Room j X.A) (ho : DE X c pa false o wo) (ha : DA X c pb (e :: es) wa) (hj : k ≤ j := by decide)
    (hst : starEach (e :: es) X.env = (false, eval e X.env) :: starEach es X.env := by rfl) (hpl : (backTo pos (starEach es X.env)).any (·.1) = false := by rfl)
    (ht : eval (.Call (.Attribute o x apos) (e :: es) [] pos) X.env = (do
      let ov ← eval o X.env
      standAt apos.atName
      let (f, first) ← holding [ov] (getMethod ov x pl)
      callWith pos f first (backTo pos (starEach (e :: es) X.env)) (backToKw pos (keywordEach [] X.env))) := by rfl) : DX X c (.Call (.Attribute o x apos) (e :: es) [] pos) (wMethX C x m wo wa) E := by
  obtain ⟨g, gd, isM, G, hb⟩ := M.there
  refine ⟨(pe_meth ho.pe M.cls isM G (hr.mono hj) hb .nil hx ha.pa hst hpl ht).imp fun σ H Q ⟨ρ, F, O, Kk, Xk, S, w, k1, k2⟩ => ⟨ρ, F, O, _, S, w, fun d ρ1 v F1 H1 ⟨hi, wa1⟩ S1 fs1 ko1 g1 r1 => ?_⟩, ho.kk⟩
  have r1' : Rep c.K F1 v d := r1
  obtain ⟨z, dx, fs, rfl, at_, nf⟩ := ins_at r1' S1.sub hi
  refine ⟨z, dx, fs, rfl, at_, nf, ρ1, F1, O, _, S1, wa1, fun ds ρ2 vs F2 H2 hm S2 fs2 ko2 g2 r2 => ?_⟩
  refine ⟨d :: ds, F2, _, _, S2.sub, .cons (r1'.same fs2) (by rw [app_nil]; exact r2), hm, fun y u F' H' hd gr rp => k1 y ρ2 u F' H' hd (S2.grow gr) (fs1.trans (fs2.trans gr.fs)) (fun b hb => by rw [gr.at (S2.out b hb).2.2, ko2 b hb, ko1 b hb]) rp, fun C' ns xs F' H' dx hX gr xd => k2 C' ns xs ρ2 F' H' dx hX (S2.grow gr) (fs1.trans (fs2.trans gr.fs)) (fun b hb => by rw [gr.at (S2.out b hb).2.2, ko2 b hb, ko1 b hb]) xd.l⟩
/-- x op y by an own method of the class of both -/
def rOwnB (C : Addr) (sp : Sp) (E : XK) : R2 := fun x y H Q => ∃ a dx fs b dy gs, x = .ref a ∧ H a = some (.ins C dx fs) ∧ y = .ref b ∧ H b = some (.ins C dy gs) ∧ sp [x, y] H Q E
theorem op_ownB {op : Operator} {C g : Addr} {sp : Sp} (hC : Cls X.K C) (hc : PySem.W.selfFirst X.K C = true) (hs : PySem.W.findIn X.K (.ref C) (PySem.dunder op.info.2) = some (some (.ref g))) (hf : PySem.W.isFn X.K (.ref g) = true)
    {gd : FuncData} (F : FnOk X.prog X.w X.K X.mg X.base (L2.CX X.prog X.w) n g gd ps sp) (hb : Binds X.K gd ps []) (hr : Room n X.A) (hx : Passes (L2.CX X.prog X.w) X E) : OpR X (binaryOp op) (rOwnB C sp E) := by
  intro pn s σ H x y v u Q I rX rY h
  obtain ⟨a, dx, fs, b, dy, gs, rfl, ha, rfl, hb', q⟩ := h
  have rX' := rX
  have rY' := rY
  cases (show v = .ref a from rX)
  cases (show u = .ref b from rY)
  obtain ⟨attrs, J1, _⟩ := ins_get I.hok ha
  obtain ⟨od, J1, _⟩ := J1.look
  obtain ⟨attrs2, J2, _⟩ := ins_get I.hok hb'
  obtain ⟨od2, J2, _⟩ := J2.look
  obtain ⟨m, hF⟩ := I.fr
  have FR : L2.FnR X.prog X.w X.K X.mg X.base (L2.CX X.prog X.w) n g sp := (FnOk.raw F hb .nil).imp fun vs H Q E h => by rw [List.append_nil]; exact h
  refine PySem.W.binop_K (op := op) hF I.ok.mod.kin J1 (J2.type) hc hs hf ?_
  refine wpAny_mono (wpAny_call (run_fnR (us := [.ref a, .ref b]) FR hr hx I (.cons rX' (.cons rY' .nil)) q)) (fun w s' z => ?_) fun _ _ x => x
  obtain ⟨z', H', I', rZ, qz⟩ := z
  exact SlX.cmpback rZ ⟨_, H', I', rZ, qz⟩
/-- a class's own operator -/
structure OwnOp (X : Cx) (C : Addr) (op : Operator) (n : Nat) (m : WMX) : Prop where
  cls : Cls X.K C
  sf : PySem.W.selfFirst X.K C = true
  ex : ∃ (g : Addr) (gd : FuncData) (ps : List Str), PySem.W.findIn X.K (.ref C) (PySem.dunder op.info.2) = some (some (.ref g)) ∧ PySem.W.isFn X.K (.ref g) = true ∧ FnOk X.prog X.w X.K X.mg X.base (L2.CX X.prog X.w) n g gd ps (spX X.K m) ∧ Binds X.K gd ps []
def wOwnB {R : Rgn} (C : Addr) (m : WMX) (wo wb : WE R) : WEX R := fun ρ K Xk => wo ρ fun d ρ1 => wb ρ1 fun d' ρ2 => (∃ ns xs, d = .ins C ns xs) ∧ (∃ ns xs, d' = .ins C ns xs) ∧ m [d, d'] (fun z => K z ρ2) fun C' ns xs => Xk C' ns xs ρ2
theorem dx_op {op : Operator} {C : Addr} {m : WMX} (M : OwnOp X C op n m) (hx : Passes (L2.CX X.prog X.w) X E) (hr : Room j X.A) (ha : DE X c pa false a wo) (hb : DE X c pb false b wb) (hj : n ≤ j := by decide) : DX X c (.BinOp a op b pos) (wOwnB C m wo wb) E := by
  obtain ⟨g, gd, ps, h1, h2, G, hB⟩ := M.ex
  refine ⟨(pe_op (op_ownB M.cls M.sf h1 h2 G hB (hr.mono hj) hx) ha.pe hb.pe).imp fun σ H Q ⟨ρ, F, O, Kk, Xk, S, w, k1, k2⟩ => ⟨ρ, F, O, _, S, w, fun d ρ1 v F1 H1 wb1 S1 fs1 ko1 g1 r1 => ⟨ρ1, F1, O, _, S1, wb1, fun d' ρ2 u F2 H2 ⟨i1, i2, hm⟩ S2 fs2 ko2 g2 r2 => ?_⟩⟩, ha.kk⟩
  have r1' : Rep c.K F1 v d := r1
  have r2' : Rep c.K F2 u d' := r2
  obtain ⟨ns, xs, rfl⟩ := i1
  obtain ⟨ns', xs', rfl⟩ := i2
  obtain ⟨z, dx, fs, rfl, at_, _⟩ := (BV.rep (r1'.same fs2) : BV c.K F2 H2 v _).ins S2.sub
  obtain ⟨z', dx', fs', rfl, at', _⟩ := (BV.rep r2' : BV c.K F2 H2 u _).ins S2.sub
  refine ⟨z, dx, fs, z', dx', fs', rfl, at_, rfl, at', [_, _], F2, _, _, S2.sub, by rw [ha.kk]; exact .cons (r1'.same fs2) (.cons r2' .nil), hm, fun y u F' H' hd gr rp => ?_, fun C' ns xs F' H' dx hX gr xd => ?_⟩
  · rw [ha.kk] at rp
    exact k1 y ρ2 u F' H' hd (S2.grow gr) (fs1.trans (fs2.trans gr.fs)) (fun b hb => by rw [gr.at (S2.out b hb).2.2, ko2 b hb, ko1 b hb]) rp
  · rw [ha.kk] at xd
    exact k2 C' ns xs ρ2 F' H' dx hX (S2.grow gr) (fs1.trans (fs2.trans gr.fs)) (fun b hb => by rw [gr.at (S2.out b hb).2.2, ko2 b hb, ko1 b hb]) xd.l
end
end Q

set_option Elab.async false
set_option linter.all false
set_option maxRecDepth 100000
set_option maxHeartbeats 4000000
/-! try: return (tag, ask()) / except C as e: return (tag, e.f, ..); sorted, .get, [::-1] over data -/
namespace Q
open PySem PySem.Spec PyProof.Rows L2 LamX
def TTold (K : PySem.W.Frag) (n : Nat) (l : List (Value × Nat × Suite)) (tag : Str) : (XK → Hp → VK → Prop) → Hp → VK → Prop := fun tl H Q =>
  tl (fun cls d H' => ∀ τ : L2.St, τ.length = n → wNamed K (fun _ _ _ _ => False) { nx := fun _ H' => Q .non H', rt := Q } l cls d τ H') H fun v H' => ∀ p, H' p = none → Q (.ref p) (upd H' p (.tup [.str tag, v]))
theorem told_gives {X : Cx} {Ng : List Str} {x a q tag : Str} {sg : Scope} {g : Addr} {cdg : Value} {h0 : ExceptHandler} {more : List ExceptHandler} {l : List (Value × Nat × Suite)} {j : Nat} {p1 p2 p3 p4 p5 p6 : Pos} {tk : Nat} {cx : Nat} (nd : Ng.Nodup)
    (clauses : ∀ (s : Shared) (H : Hp), Clauses (cxOf C8.CX0 X.prog X.w X.K X.mg X.base Ng x sg g cdg X.A X.stack s H C8.E0).nox (h0 :: more) l) (s0 : ∀ f : Addr, (L2.start Ng [V.ref f])[0]? = some (some (V.ref f))) :
    GivesTo X Ng x sg g cdg [.Try [.Return (some (.Tuple [.Constant (.str tag) j p5, .Call (.Name a p1) [] [] p2] cx p6)) p3] (h0 :: more) [] [] p4] a q (TTold X.K Ng.length l tag) := by
  intro f c' s H Q tl act hc wish
  refine ⟨_, pss_one (ps_try_named (X := (cxOf C8.CX0 X.prog X.w X.K X.mg X.base Ng x sg g cdg X.A X.stack s H C8.E0).nox) (l := l)
      (tb := fun W D σ H => ∃ Ech : XK, (∀ cls d τ H', τ.length = Ng.length → Ech cls d H' → W cls d τ H') ∧ σ[0]? = some (some (.ref f)) ∧ H c' = some (CodeO c' q) ∧ tl Ech H (fun v H' => ∀ p, H' p = none → D.rt (.ref p) (upd H' p (.tup [.str tag, v]))))
      rfl rfl nd L2.takes0 (fun W pn xe tk _ => ?_) (clauses s H)), ?_⟩
  · refine ⟨fun pins s' σ H' D I ⟨Ech, hW, h1, h2, h3⟩ => ?_⟩
    have called := act (fun cls d τ H' => τ.length = Ng.length → W cls d τ H') pn xe Ech p1 p2 (takes_len tk) fun cls d τ H' e n => hW cls d τ H' n e
    refine (pss_one (ps_ret (pos := p3) (pe_tup (pa_cons pe_str (pa_cons called pa_nil))))).run pins s' σ H' D I ?_
    refine ⟨h1, h2, ?_⟩
    have e : (fun (v : V) (H2 : Hp) => (fun vs H3 => (fun xs H1 => xs.length ≤ sizeLine ∧ ∀ p, H1 p = none → D.rt (.ref p) (upd H1 p (.tup xs))) (V.str tag :: vs) H3) [v] H2) = fun v H2 => ([V.str tag, v].length ≤ sizeLine ∧ ∀ p, H2 p = none → D.rt (.ref p) (upd H2 p (.tup [.str tag, v]))) := rfl
    have sz : ([V.str tag, V.non].length ≤ sizeLine) := Nat.le_trans (by decide : 2 ≤ 100000) big_line
    have two : (fun (v : V) (H2 : Hp) => ([V.str tag, v].length ≤ sizeLine ∧ ∀ p, H2 p = none → D.rt (.ref p) (upd H2 p (.tup [.str tag, v])))) = fun v H2 => ∀ p, H2 p = none → D.rt (.ref p) (upd H2 p (.tup [.str tag, v])) := by
      funext v H2
      exact propext ⟨fun h => h.2, fun h => ⟨sz, h⟩⟩
    show tl Ech H' fun v H2 => ([V.str tag, v].length ≤ sizeLine ∧ ∀ p, H2 p = none → D.rt (.ref p) (upd H2 p (.tup [.str tag, v])))
    rw [two]
    exact h3
  · exact ⟨_, fun cls d τ H' n e => e τ n, s0 f, hc, wish⟩
/-- tried(lambda: e): what is told, or a clause's row -/
def wTold {R : Rgn} (cs : List Cl) (tag : Str) (w : WEX R) : WE R := fun ρ K => w ρ (fun d ρ' => K (.tup [.str tag, d]) ρ') (wClauses K cs)
section
variable {X : Cx} {c : Ctx}
theorem de_told {T : List (Addr × Str)} {cs : List Cl} {n k : Nat} {x a tag : Str} {g co P : Addr} {st : Stmt} {gd : FuncData} {Ng : List Str} {params : Arguments} {body : Expr} {scope : Scope} {w : WEX c.R} {p lpos pos p1 p2 p3 p4 p5 p6 : Pos} {h0 : ExceptHandler} {more : List ExceptHandler} {j : Nat} {cx : Nat}
    (hm : X.mg x = some (.ref g)) (fg : FnP X.K x x st g gd) (hb : L2.Binds X.K gd [a] []) (Sg : FnScope Ng [a] (defScope st)) (hNg : Ng[0]? = some a) (hva : Vis (defScope st) a) (hbd : defBody st = [.Try [.Return (some (.Tuple [.Constant (.str tag) j p5, .Call (.Name a p1) [] [] p2] cx p6)) p3] (h0 :: more) [] [] p4])
    (clauses : ∀ (cdg : Value) (s : Shared) (H : Hp), Clauses (cxOf C8.CX0 X.prog X.w X.K X.mg X.base Ng x (defScope st) g cdg X.A X.stack s H C8.E0).nox (h0 :: more) (cs.map Cl.told)) (s0 : ∀ f : Addr, (L2.start Ng [V.ref f])[0]? = some (some (V.ref f)))
    (slots : ∀ k ∈ cs, k.i < Ng.length) (kinds : ∀ k ∈ cs, ∀ k' ∈ cs, PySem.W.exmOne c.K (.ref k.C) (.ref k'.C) = some (decide (k.C = k'.C)))
    (TB : LamX.TabB X.base X.mg co P) (code : X.env.code = .ref co) (mem : (P, X.env.qual ++ "<lambda>") ∈ T) (uni : ∀ p ∈ T, p.1 = P → p.2 = X.env.qual ++ "<lambda>") (LR : LamR c.R T)
    (hr : Room (k + 2) X.A) (L : LamX.LamS X.env.scope scope) (nodef : defaultsOf params X.env = ([], [])) (hbind : ∀ (q : Str) (cl : List (Str × Addr)) (pm cv ctv : Value), bindArgs (PySem.W.kla_fn "<lambda>" q params body scope cl pm cv ctv) ⟨[], []⟩ = pure [])
    (hbody : ∀ (A : Around) (outer : List Env) (s : Shared) (H : Hp) (E : XK) (f c' : Addr), Room k (A.deeper (LamX.lamEnv X scope s.heap.objs.size f c')) → DX (LamX.lamCx X A outer s H E scope f c') c body w E) (hk : X.K = c.K := by rfl)
    (hg : Gl X x := by rfl) (hdb : (x == ("__debug__" : Str)) = false := by decide) (hd : (a == ("__debug__" : Str)) = false := by decide) (hcd : (a == ("__classdict__" : Str)) = false := by decide) :
    DE X c false false (.Call (.Name x p) [.Lambda params body scope lpos] [] pos) (wTold cs tag w) := by
  refine ⟨(pe_lam1 (T := T) (t := fun E => liftX c w E) hm fg hb Sg hNg hva (fun cdg => by rw [hbd]; exact told_gives (tk := 0) Sg.nd (clauses cdg) s0) TB code mem uni hr L nodef hbind (fun A outer s H E f c' room => (hbody A outer s H E f c' room).pe) hg hdb hd hcd).imp fun σ H Q ⟨ρ, F, O, Kk, S, hw, next⟩ => ?_, hk⟩
  obtain ⟨Z, r, _⟩ := S.reg
  refine ⟨(LR.tabs r).1, fun H1 step => ?_⟩
  obtain ⟨S1, ko1⟩ := S.lam LR step
  refine ⟨ρ, F, O, _, _, S1, hw, fun d ρ' v F' H' hk' S' fs ko rp q hq => ?_, fun C ns xs ρ' F' H' dx hX S' fs ko xd τ len => ?_⟩
  · have gr := (Al.one (F := F') (o := HO.tup [V.str tag, v]) hq).grow S'.sub
    exact next _ ρ' _ _ _ hk' (S'.grow gr) (fs.trans gr.fs) (fun b hb => by rw [gr.at (S'.out b hb).2.2, ko b hb, ko1 b hb]) (fun z => by cases z) (.tup (SqT.of upd_same) (.cons (.str _) (.cons (rp.same gr.fs) .nil)))
  · obtain ⟨k0, m0, e0⟩ := in_clauses hX
    rw [hk]
    exact clauses_run S' xd (fun d v F2 H2 hk2 S2 fs2 ko2 rp => next d ρ' v F2 H2 hk2 S2 (fs.trans fs2) (fun q hq => by rw [ko2 q hq, ko q hq, ko1 q hq]) (fun z => by cases z) rp) rfl cs slots (fun k' m => by rw [e0]; exact kinds k0 m0 k' m) hX τ len
end
section
variable {X : Cx} {c : Ctx} {fr : Bool} {e o a b : Expr} {es : List Expr} {pos p apos : Pos} {pa pb pd ba bb bd : Bool} {we wo wb wk wd : WE c.R} {wa : WA c.R} {j k n : Nat} {x : Str}
/-- sorted(e), e a list -/
def wSortL {R : Rgn} (we : WE R) : WE R := fun ρ K => we ρ fun x ρ1 => ∃ ds : List D, x = .lst ds ∧ (∀ d ∈ ds, pyD d = some (pk d)) ∧ (∀ d ∈ ds, (pk d).depth ≤ 40) ∧ PySem.W.AllAlike (ds.map pk) ∧ PySem.W.Sortable (ds.map pk) ∧ K (.lst (sortD id ds)) ρ1
theorem fe_sort (hm : X.mg "sorted" = none) (hr : Room j X.A) (he : DE X c pa ba e we) (hg : Gl X "sorted" := by rfl) (h1 : starEach [e] X.env = (false, eval e X.env) :: starEach [] X.env := by rfl) (hpl : (backTo pos (starEach [] X.env)).any (·.1) = false := by rfl) :
    FE X c pa (.Call (.Name "sorted" p) [e] [] pos) (wSortL we) :=
  ⟨(pe_callB (cr_sortedAny (by have := hr.units; have := hr.un; omega)) hg hm (by decide +kernel) (pa_cons he.pe pa_nil h1) (by decide) (by decide) h1 hpl).imp fun σ H Q ⟨ρ, F, O, Kk, S, hw, next⟩ => by
    refine ⟨ρ, F, O, _, S, hw, fun y ρ1 v F1 H1 ⟨ds, hy, hk, hd, hal, hs, hK⟩ S1 fs1 ko1 g1 r1 => ?_⟩
    subst hy
    obtain ⟨l, vs, rfl, hl, rp⟩ := (r1.bv S1).lst S1.sub
    obtain ⟨bs, b1, b2, b3⟩ := sort_both id rp
    rw [List.map_id] at b2
    show rSortAny X.K [.ref l] H1 Q
    refine ⟨l, bs, rfl, SqL.of (by rw [b1]; exact hl), ?_, by rw [b2]; exact hal, by rw [b2]; exact hs, fun z hz => ?_, fun q hq => ?_⟩
    · rw [b1, b2, he.kk]
      exact rp.dp S1.sub (pyDs_pk hk)
    · have : z.2 ∈ ds.map pk := by rw [← b2]; exact List.mem_map.mpr ⟨z, hz, rfl⟩
      obtain ⟨d, hd', e⟩ := List.mem_map.mp this
      rw [← e]
      exact hd d hd'
    · exact next _ ρ1 q _ F1 H1 hK S1 fs1 ko1 g1 hq b3, he.kk⟩
/-- x.get(k, z), x a dict with plain keys -/
def wDgetOr {R : Rgn} (we wk wd : WE R) : WE R := fun ρ K => we ρ fun d ρ1 => ∃ (ks : List Key) (vs : List D), d = .dct (ks.map kD) vs ∧ wk ρ1 fun kd ρ2 => wd ρ2 fun z ρ3 => ∃ k : Key, kd = kD k ∧ K ((valD ks vs k).getD z) ρ3
theorem valD_getD {K : PySem.W.Frag} {F : Hp} (k : Key) {u : V} {z : D} (rz : Rep K F u z) : ∀ {kvs : List (Key × V)} {ds : List D}, Reps K F (kvs.map (·.2)) ds → Rep K F ((valV kvs k).getD u) ((valD (kvs.map (·.1)) ds k).getD z)
  | [], _, _ => by simpa [valV, valD] using rz
  | kv :: kvs, _, .cons r t => by
    by_cases h : kv.1 = k
    · simpa [valV, valD, h] using r
    · have := valD_getD k rz t
      simpa [valV, valD, h] using this
theorem de_dgetOr (hr : Room j X.A) (ho : DE X c true bb o we) (hk : DE X c pa false a wk) (hd : DE X c pb false b wd) (hpa : pa = true := by rfl) (hpb : pb = true := by rfl)
    (m : M2 X o "get" apos a b pos := by exact ⟨rfl, rfl, rfl, rfl⟩) : DE X c true false (.Call (.Attribute o "get" apos) [a, b] [] pos) (wDgetOr we wk wd) := by
  subst hpa hpb
  refine ⟨(pe_dget2 (hu_of hr) ho.pe hk.pe hd.pe m).imp fun σ H Q ⟨ρ, F, O, Kk, S, hw, next⟩ => ?_, ho.kk⟩
  refine ⟨ρ, F, O, _, S, hw, fun d ρ1 v F1 H1 ⟨ks, vs, ed, wk1⟩ S1 fs1 ko1 g1 r1 => ?_⟩
  subst ed
  obtain ⟨q, kvs, rfl, h1, hks, rv⟩ := (r1.bv S1).dct S1.sub
  refine ⟨q, rfl, .inl ⟨kvs, .inl h1⟩, ρ1, F1, O, _, S1, wk1, fun kd ρ2 u F2 H2 wd1 S2 fs2 ko2 g2 r2 => ⟨ρ2, F2, O, _, S2, wd1, fun z ρ3 y F3 H3 ⟨kk, ek, hK⟩ S3 fs3 ko3 g3 r3 => ?_⟩⟩
  obtain ⟨e2, q2⟩ := g2 rfl
  obtain ⟨e3, q3⟩ := g3 rfl
  have h3 : H3 q = some (.dK kvs) := q3.hs _ _ (q2.hs _ _ h1)
  subst ek
  have hks : ks = kvs.map (·.1) := kD_map (by rw [hks, List.map_map]; rfl)
  subst hks
  have r2' : u = kV kk := Rep.key r2
  subst r2'
  refine ⟨_, DGet.k h3, ?_⟩
  refine next _ ρ3 _ F3 H3 hK S3 (fs1.trans (fs2.trans fs3)) (fun b hb => by rw [ko3 b hb, ko2 b hb, ko1 b hb]) (fun _ => ?_) ?_
  · obtain ⟨e1, q1⟩ := g1 rfl
    exact ⟨by rw [e3, e2, e1], q1.trans (q2.trans q3)⟩
  · exact valD_getD kk r3 ((rv.same fs2).same fs3)
/-- e[::-1], e a list -/
def revD : D → Option D
  | .lst ds => some (.lst ds.reverse)
  | _ => none
theorem fe_rev {kk : Nat} {p1 p2 p3 : Pos} (he : DE X c pa ba e we) : FE X c pa (.Subscript e (.Slice none none (some (.UnaryOp .USub (.Constant (.int 1) kk p1) p2)) p3) pos) (wUn revD we) :=
  ⟨(pe_revL he.pe).imp fun σ H Q ⟨ρ, F, O, Kk, S, hw, next⟩ => by
    refine ⟨ρ, F, O, _, S, hw, fun y ρ1 v F1 H1 ⟨z, hz, hK⟩ S1 fs1 ko1 g1 r1 => ?_⟩
    cases y <;> simp [revD] at hz
    subst hz
    obtain ⟨l, vs, rfl, hl, rp⟩ := (r1.bv S1).lst S1.sub
    exact ⟨l, vs, rfl, SqL.of hl, fun q hq => next _ ρ1 q _ F1 H1 hK S1 fs1 ko1 g1 hq rp.reverse⟩, he.kk⟩
/-- x, y = a, b: the second one an object of the def's own -/
def sPar2O {R : Rgn} (i k : Nat) (wa wb : WE R) : WS R := fun Dk ρ => wa ρ fun x ρ1 => wb ρ1 fun y ρ2 => Dk.nx ((ρ2.put i (some (.fz x))).put k (some (.own y)))
theorem ds_par2O {i k : Nat} {x y : Str} {px py pt : Pos} {kt k2 pt2} (hN : X.N.Nodup) (hij : i ≠ k) (ha : DE X c pa false a we) (hb : FE X c pb b wb) (hi : X.N[i]? = some x := by rfl) (hj : X.N[k]? = some y := by rfl)
    (hx : X.env.scope.names.lookup x = some .local := by rfl) (hy : X.env.scope.names.lookup y = some .local := by rfl) (hc : X.calm = true := by rfl)
    (hw : swappedStores [.Tuple [.Name x px, .Name y py] kt pt] (.Tuple [a, b] k2 pt2) X.env = pure (some [x, y]) := by rfl)
    (hs : swapsWithSole [.Tuple [.Name x px, .Name y py] kt pt] (.Tuple [a, b] k2 pt2) pos.line X.env = pure false := by rfl)
    (h1 : starEach [a, b] X.env = (false, eval a X.env) :: starEach [b] X.env := by rfl) (h2 : starEach [b] X.env = (false, eval b X.env) :: starEach [] X.env := by rfl) :
    DS1 X c fr (.Assign [.Tuple [.Name x px, .Name y py] kt pt] (.Tuple [a, b] k2 pt2) pos) (sPar2O i k we wb) :=
  ⟨(ps_par hc hN hi hj hij hx hy (pa_cons ha.pe (pa_cons hb.pe pa_nil h2) h1) hw hs).imp fun E σ H ⟨ρ, F, Dk, S, w, k1, k2, k3, k4⟩ => ⟨ρ, F, [], _, S, w, fun d ρ1 v F1 H1 hw2 S1 fs1 _ _ r1 => ⟨ρ1, F1, [], _, S1, hw2, fun d2 ρ2 q o F2 H2 hk S2 fs2 _ _ hq ob => by
    have r1' : Rep c.K F1 v d := r1
    exact ⟨_, _, rfl, k1 _ _ F2 _ hk ((S2.setF (r1'.same fs2) i).setO hq ob k) (fs1.trans fs2)⟩⟩⟩⟩
end
end Q

set_option Elab.async false
set_option linter.all false
set_option maxRecDepth 100000
set_option maxHeartbeats 4000000
namespace L03
open PySem PySem.Spec PyProof.Rows L2 Q
/-! each relation's arity -/
theorem valD_none {k : Key} : ∀ {ks : List Key} {vs : List D}, k ∉ ks → valD ks vs k = none
  | [], vs, _ => by cases vs <;> rfl
  | j :: ks, [], _ => rfl
  | j :: ks, v :: vs, h => by
    have h1 : ¬ j = k := fun e => h (by rw [e]; exact List.mem_cons_self)
    have h2 : k ∉ ks := fun e => h (List.mem_cons_of_mem _ e)
    simp only [valD, h1, if_false]
    exact valD_none h2
theorem valD_zip {k k' : Key} {v : D} : ∀ {ks : List Key} {vs : List D}, vs.length = ks.length → valD ks (List.zipWith (fun j u => if j = k then v else u) ks vs) k' = if k' = k ∧ k ∈ ks then some v else valD ks vs k'
  | [], vs, _ => by cases vs <;> simp [valD]
  | j :: ks, [], h => by cases h
  | j :: ks, u :: vs, h => by
    have ih := valD_zip (k := k) (k' := k') (v := v) (ks := ks) (vs := vs) (by simpa using h)
    rw [List.zipWith_cons_cons]
    simp only [valD]
    by_cases e1 : j = k'
    · subst e1
      by_cases e2 : j = k
      · subst e2; simp
      · have : ¬ (j = k ∧ k ∈ j :: ks) := fun q => e2 q.1
        rw [if_pos rfl, if_neg e2, if_neg this, if_pos rfl]
    · rw [if_neg e1, if_neg e1, ih]
      by_cases e2 : k' = k
      · subst e2
        by_cases e3 : k' ∈ ks
        · rw [if_pos ⟨rfl, e3⟩, if_pos ⟨rfl, List.mem_cons_of_mem _ e3⟩]
        · have : ¬ k' ∈ j :: ks := fun q => by
            rcases List.mem_cons.mp q with q | q
            · exact e1 q.symm
            · exact e3 q
          rw [if_neg (fun q => e3 q.2), if_neg (fun q => this q.2)]
      · rw [if_neg (fun q => e2 q.1), if_neg (fun q => e2 q.1)]
theorem valD_snoc {k k' : Key} {v : D} : ∀ {ks : List Key} {vs : List D}, vs.length = ks.length → k ∉ ks → valD (ks ++ [k]) (vs ++ [v]) k' = if k' = k then some v else valD ks vs k'
  | [], vs, h, _ => by
    cases vs with
    | nil =>
      simp only [List.nil_append, valD]
      by_cases e : k = k'
      · subst e; simp
      · have : ¬ k' = k := fun q => e q.symm
        simp [e, this]
    | cons u us => cases h
  | j :: ks, [], h, _ => by cases h
  | j :: ks, u :: vs, h, n => by
    have h2 : k ∉ ks := fun e => n (List.mem_cons_of_mem _ e)
    have h1 : ¬ j = k := fun e => n (by rw [e]; exact List.mem_cons_self)
    simp only [List.cons_append, valD]
    rw [valD_snoc (by simpa using h) h2]
    by_cases e : j = k'
    · subst e; simp [h1]
    · simp [e]
theorem valD_put {k k' : Key} {v : D} {ks : List Key} {vs : List D} (h : vs.length = ks.length) : valD (putKs ks k) (putVs ks vs k v) k' = if k' = k then some v else valD ks vs k' := by
  unfold putKs putVs
  by_cases m : k ∈ ks
  · rw [if_pos m, if_pos m, valD_zip h]
    by_cases e : k' = k
    · rw [if_pos ⟨e, m⟩, if_pos e]
    · rw [if_neg (fun q => e q.1), if_neg e]
  · rw [if_neg m, if_neg m, valD_snoc h m]
theorem put_len {k : Key} {v : D} {ks : List Key} {vs : List D} (h : vs.length = ks.length) : (putVs ks vs k v).length = (putKs ks k).length ∧ (putKs ks k).length ≤ ks.length + 1 := by
  unfold putKs putVs
  by_cases m : k ∈ ks
  · rw [if_pos m, if_pos m, List.length_zipWith]; omega
  · rw [if_neg m, if_neg m]; simp; omega
def nmA : D → Str
  | .tup (.str z :: _) => z
  | _ => ""
def lnA : D → Nat
  | .tup xs => xs.length
  | _ => 0
abbrev Ar := Str → Option Nat
def seeA (g : Ar) (a : D) : Ar := fun z => if z = nmA a then some (lnA a) else g z
def badA (g : Ar) (a : D) : Bool := match g (nmA a) with
  | some n => !decide (n = lnA a)
  | none => false
def unevA (g : Ar) : List D → Option Str × Ar
  | [] => (none, g)
  | a :: as => if badA g a = true then (some (nmA a), g) else unevA (seeA g a) as
def unevR (g : Ar) (i : Nat) : List (List D) → Option (Nat × Str)
  | [] => none
  | r :: rs => match unevA g r with
    | (some z, _) => some (i, z)
    | (none, g') => unevR g' (i + 1) rs
def g0 : Ar := fun _ => none
def Sees (ks : List Key) (vs : List D) (g : Ar) : Prop := vs.length = ks.length ∧ ∀ z, valD ks vs (.inr z) = (g z).map fun n : Nat => D.int n
theorem Sees.put {ks : List Key} {vs : List D} {g : Ar} (h : Sees ks vs g) (a : D) : Sees (putKs ks (.inr (nmA a))) (putVs ks vs (.inr (nmA a)) (.int (lnA a : Nat))) (seeA g a) := by
  refine ⟨(put_len h.1).1, fun z => ?_⟩
  rw [valD_put h.1, h.2]
  unfold seeA
  by_cases e : z = nmA a
  · subst e; simp
  · rw [if_neg (fun q => e (Sum.inr.inj q)), if_neg e]
def placeD : Option (Nat × Str) → D
  | none => .non
  | some (i, z) => .tup [.int (i : Nat), .str z]
def okRows (rows : List (List D)) : Prop := (∀ r ∈ rows, ∀ a ∈ r, isAt a) ∧ rows.length ≤ 1000 ∧ (rows.map List.length).sum ≤ 50000
def okRows1 : List D → Prop := fun ds => ∃ rows : List (List D), ds = [.lst (rows.map .lst)] ∧ okRows rows
def rowsOf : D → List (List D)
  | .lst xs => xs.map fun x => (sqOf x).getD []
  | _ => []
theorem rowsOf_lst (rows : List (List D)) : rowsOf (.lst (rows.map .lst)) = rows := by
  simp only [rowsOf]
  rw [List.map_map]
  exact List.map_id'' (fun _ => rfl) rows
theorem len_dat (n : Nat) (m : Nat) : eqD true (.int n) (.int m) = some (.bl (!decide (n = m))) := by
  have : deq (.int (n : Int)) (.int (m : Int)) = decide (n = m) := by
    by_cases h : n = m
    · subst h; simp
    · have h' : ¬ (n : Int) = m := by omega
      simp [h, h']
  unfold eqD
  rw [if_pos ⟨by simp, by simp, by simp⟩, this]
  cases decide (n = m) <;> rfl
section
variable {P : Program} {w : World} {K : PySem.W.Frag} {mg : Str → Option Value} {base : Heap} {f : Addr} {fd : FuncData}
-- _uneven_place: slots 0 rows, 1 places, 2 index, 3 atoms, 4 atom
abbrev s_uneven_place : Stmt := (top 37)
abbrev N_sc_uneven_place : List Str := ["rows", "places", "index", "atoms", "atom"]
theorem sc_uneven_place : FnScope N_sc_uneven_place ["rows"] (defScope s_uneven_place) := ⟨rfl, rfl, rfl, by decide +kernel, rfl, by decide +kernel, by decide +kernel⟩
theorem ok_uneven_place (F : FnP K "_uneven_place" "_uneven_place" s_uneven_place f fd) (T : Tx K mg) :
    FnOk P w K mg base CX0 1 f fd ["rows"] (spD K (wF okRows1 fun ds => placeD (unevR g0 0 (rowsOf (ds.headD .non))))) :=
  FnD F sc_uneven_place (fun ds Kk h => by obtain ⟨⟨x, rfl, _⟩, _⟩ := h; rfl) fun cdv A outer s H Fz E hr => ⟨_, 
(ds_cons (ds_new (i := 1) sc_uneven_place.nd fe_d0)
 (ds_cons (ds_for (di_enumA T.b_enumerate (de_v (i := 0))) (dg_tup (n := 2) (dgs_cons (dg_name (i := 2) sc_uneven_place.nd) (dgs_cons (dg_name (i := 3) sc_uneven_place.nd) dgs_nil)))
  (ds_one (ds_for (di_seq (de_v (i := 3))) (dg_name (i := 4) sc_uneven_place.nd)
  (ds_cons (ds_if (dt_cm (c_ne hr) (de_dgetOr hr (de_b (i := 1)) (de_ixA (de_v (i := 4)) de_int) (de_len T.b_len (de_v (i := 4)))) (de_len T.b_len (de_v (i := 4)))) (ds_one (ds_ret (de_tup (da_cons (de_v (i := 2)) (da_cons (de_ixA (de_v (i := 4)) de_int) da_nil))))) ds_nil)
 (ds_one (ds_dput hr (i := 1) (de_len T.b_len (de_v (i := 4))) (de_ixA (de_v (i := 4)) de_int)))))))
 (ds_one (ds_ret de_non))))
  , fun ds Kk h => by
    obtain ⟨⟨rows, rfl, ha, hl, hs⟩, k⟩ := h
    replace k : Kk (placeD (unevR g0 0 (rowsOf (.lst (rows.map .lst))))) := k
    rw [rowsOf_lst] at k
    simp only [sSeq, sSet, sNew, sNext, sPass, sRet, sIf, sApp, sExt, sDrop, sAsg, wIfE, wTest, wTruth, wBand, wBor, wBnot, wOp, wUn, wCall, wCons, wNil, wTup, wLst]
    refine ⟨_, rfl, _, .inl rfl, ?_⟩
    let mk : List Key → List D → Option DV → Option DV → Option DV → DS noR := fun ks vs x2 x3 x4 => ⟨noG, [some (.fz (.lst (rows.map .lst))), some (.own (.dct (ks.map kD) vs)), x2, x3, x4]⟩
    refine forGo_ind (fun rest ρ => ∃ i rs ks vs g x2 x3 x4, ρ = mk ks vs x2 x3 x4 ∧ rest = enumD i (rs.map D.lst) ∧ Sees ks vs g ∧ (∀ r ∈ rs, ∀ a ∈ r, isAt a) ∧ ks.length + (rs.map List.length).sum ≤ 50000 ∧ unevR g i rs = unevR g0 0 rows) ?_ ?_ _ _ ⟨0, rows, [], [], g0, none, none, none, rfl, rfl, ⟨rfl, fun z => rfl⟩, ha, by simpa using hs, rfl⟩
    · rintro d rest N ρ hN ⟨i, rs, ks, vs, g, x2, x3, x4, rfl, hr1, hsee, hat, hlen, hu⟩
      cases rs with
      | nil => cases hr1
      | cons r rs =>
        obtain ⟨rfl, rfl⟩ : d = .tup [.int (i : Nat), .lst r] ∧ rest = enumD (i + 1) (rs.map D.lst) := by
          have h1 : d :: rest = .tup [.int (i : Nat), .lst r] :: enumD (i + 1) (rs.map D.lst) := hr1
          exact ⟨(List.cons.inj h1).1, (List.cons.inj h1).2⟩
        rw [List.map_cons, List.sum_cons] at hlen
        refine ⟨_, rfl, rfl, _, _, rfl, _, _, rfl, rfl, ?_⟩
        refine ⟨_, rfl, r, rfl, ?_⟩
        refine forGo_ind (fun ar ρ => ∃ ks' vs' g' x4', ρ = mk ks' vs' (some (.fz (.int (i : Nat)))) (some (.fz (.lst r))) x4' ∧ Sees ks' vs' g' ∧ ks'.length + ar.length ≤ ks.length + r.length ∧ (∀ a ∈ ar, isAt a) ∧ unevA g' ar = unevA g r) ?_ ?_ r _ ⟨ks, vs, g, x4, rfl, hsee, Nat.le_refl _, hat r List.mem_cons_self, rfl⟩
        · rintro a ar N2 ρ hN2 ⟨ks', vs', g', x4', rfl, hsee', hlen', hat', hu'⟩
          obtain ⟨ys, rfl, z, ts, rfl, h1, h2, h3⟩ := hat' a List.mem_cons_self
          rw [List.length_cons] at hlen'
          have ev : (valD ks' vs' (.inr z)).getD (.int ((ts.length + 1 : Nat) : Int)) = .int (((g' z).getD (ts.length + 1) : Nat) : Int) := by
            rw [hsee'.2]
            cases g' z <;> rfl
          have hb : badA g' (.tup (.str z :: ts)) = !decide ((g' z).getD (ts.length + 1) = ts.length + 1) := by
            show (match g' z with | some n => !decide (n = ts.length + 1) | none => false) = _
            cases g' z with
            | none => simp
            | some n => rfl
          refine .inr ⟨_, rfl, ks', vs', rfl, ?_⟩
          refine ⟨_, rfl, .str z, by simp [ixN], ?_⟩
          refine ⟨_, rfl, .int ((ts.length + 1 : Nat) : Int), rfl, .inr z, rfl, ?_⟩
          refine ⟨_, rfl, .int ((ts.length + 1 : Nat) : Int), rfl, .bl (badA g' (.tup (.str z :: ts))), ?_, badA g' (.tup (.str z :: ts)), rfl, ?_⟩
          · rw [ev, len_dat, hb]
          cases hbad : badA g' (.tup (.str z :: ts)) with
          | true =>
            refine itT ⟨_, rfl, _, rfl, .str z, by simp [ixN], ?_⟩
            rw [← hu] at k
            have : unevR g i (r :: rs) = some (i, z) := by
              unfold unevR
              rw [← hu']
              unfold unevA
              rw [if_pos hbad]
              rfl
            rw [this] at k
            exact ⟨by simp, k⟩
          | false =>
            refine itF ⟨_, rfl, .int ((ts.length + 1 : Nat) : Int), rfl, ⟨_, rfl⟩, ?_⟩
            refine ⟨_, rfl, .str z, by simp [ixN], .inr z, ks', vs', rfl, rfl, ?_, hN2 _ ⟨putKs ks' (.inr z), putVs ks' vs' (.inr z) (.int ((ts.length + 1 : Nat) : Int)), seeA g' (.tup (.str z :: ts)), _, rfl, hsee'.put (.tup (.str z :: ts)), ?_, fun b hb => hat' b (List.mem_cons_of_mem _ hb), ?_⟩⟩
            · omega
            · have := (put_len (k := .inr z) (v := .int ((ts.length + 1 : Nat) : Int)) hsee'.1).2
              omega
            · rw [← hu']
              show _ = unevA g' (.tup (.str z :: ts) :: ar)
              rw [unevA, hbad]
              rfl
        · rintro ρ ⟨ks', vs', g', x4', rfl, hsee', hlen', hat', hu'⟩
          refine hN _ ⟨i + 1, rs, ks', vs', g', _, _, _, rfl, rfl, hsee', fun q hq => hat q (List.mem_cons_of_mem _ hq), by simp at hlen'; omega, ?_⟩
          rw [← hu]
          show _ = unevR g i (r :: rs)
          rw [unevR, ← hu']
          rfl
    · rintro ρ ⟨i, rs, ks, vs, g, x2, x3, x4, rfl, hr1, hsee, hat, hlen, hu⟩
      cases rs with
      | nil =>
        rw [← hu] at k
        exact k
      | cons r rs => cases hr1⟩
def mEven (CE : Addr) : WMX := fun ds Kk Xk => ∃ rows : List (List D), ds = [.lst (rows.map .lst)] ∧ okRows rows ∧ match unevR g0 0 rows with
  | some (i, z) => Xk CE ["relation", "index"] [.str z, .int (i : Nat)]
  | none => Kk .non
-- check_even: slots 0 rows, 1 place
abbrev s_check_even : Stmt := (top 36)
abbrev N_sc_check_even : List Str := ["rows", "place"]
theorem sc_check_even : FnScope N_sc_check_even ["rows"] (defScope s_check_even) := ⟨rfl, rfl, rfl, by decide +kernel, rfl, by decide +kernel, by decide +kernel⟩
theorem ok_check_even {CE : Addr} (F : FnP K "check_even" "check_even" s_check_even f fd) (T : Tx K mg) (C__uneven_place : Cal P w K mg base "_uneven_place" 1 ["rows"] (spD K (wF okRows1 fun ds => placeD (unevR g0 0 (rowsOf (ds.headD .non))))))
    (T_Uneven : ExCl P w K mg base "Uneven" CE 1 ["index", "relation"]) :
    FnOk P w K mg base (L2.CX P w) 3 f fd ["rows"] (spX K (mEven CE)) :=
  FnX F sc_check_even (fun ds Kk Xk h => by obtain ⟨x, rfl, _⟩ := h; rfl) fun cdv A outer s H Fz E Xk hr fit => ⟨_, 
(ds_cons (ds_set (i := 1) sc_check_even.nd (de_call C__uneven_place hr (da_cons (de_v (i := 0)) da_nil)))
 (ds_one (ds_if (dt_cm c_isn (de_v (i := 1)) de_non) (ds_one (ds_raise T_Uneven takes_body fit (hr.mono (by decide)) (da_cons (de_ixA (de_v (i := 1)) de_int) (da_cons (de_ixA (de_v (i := 1)) de_int) da_nil)))) ds_nil)))
  , fun ds Kk h => by
    obtain ⟨rows, rfl, ok, k⟩ := h
    simp only [sSeq, sSet, sNew, sNext, sPass, sRet, sIf, sApp, sExt, sDrop, sAsg, wIfE, wTest, wTruth, wBand, wBor, wBnot, wOp, wUn, wCall, wCons, wNil, wTup, wLst]
    refine ⟨_, rfl, ⟨rows, rfl, ok⟩, ?_⟩
    have es : some (some (DV.fz (placeD (unevR g0 0 (rowsOf (.lst (rows.map .lst))))))) = some (some (DV.fz (placeD (unevR g0 0 rows)))) := by rw [rowsOf_lst]
    cases hu : unevR g0 0 rows with
    | none =>
      rw [hu] at k es
      exact ⟨_, es, .bl false, rfl, false, rfl, itF k⟩
    | some p =>
      obtain ⟨i, z⟩ := p
      rw [hu] at k es
      exact ⟨_, es, .bl true, rfl, true, rfl, itT ⟨_, es, .int (i : Nat), by simp [ixN, placeD], _, es, .str z, by simp [ixN, placeD], rfl, k⟩⟩⟩
end
end L03

set_option Elab.async false
set_option linter.all false
set_option maxRecDepth 100000
set_option maxHeartbeats 4000000
namespace L03
open PySem PySem.Spec PyProof.Rows L2 Q
theorem looseP_len {ps body : List D} (h : ∀ p ∈ ps, okPart p) : (looseP ps body).length ≤ 6 * ps.length := Nat.le_trans (List.length_filter_le _ _) (lettersP_len h)
def mSafe (CU : Addr) : WMX := fun ds Kk Xk => ∃ rs : List D, ds = [.lst rs] ∧ (∀ r ∈ rs, okRule r) ∧ rs.length ≤ 1000 ∧ match rs.findIdx? fun r => !(looseR r).isEmpty with
  | some i => Xk CU ["letter", "index"] [.str ((looseR (rs.getD i .non)).headD ""), .int (i : Nat)]
  | none => Kk .non
def rulesRes (CB CE CU : Addr) (x : D) (Kk : D → Prop) (Xk : XW) : Prop := match sqOf x with
  | none => Xk CB ["index"] [.int 0]
  | some xs => match xs.findIdx? fun t => isNon (asRule t) with
    | some i => Xk CB ["index"] [.int (i : Nat)]
    | none => match unevR g0 0 (xs.map fun t => atomsR (asRule t)) with
      | some (i, z) => Xk CE ["relation", "index"] [.str z, .int (i : Nat)]
      | none => match (xs.map asRule).findIdx? fun r => !(looseR r).isEmpty with
        | some i => Xk CU ["letter", "index"] [.str ((looseR ((xs.map asRule).getD i .non)).headD ""), .int (i : Nat)]
        | none => Kk (.tup (xs.map asRule))
def mRules (CB CE CU : Addr) : WMX := fun ds Kk Xk => ∃ x, ds = [x] ∧ tmB x = true ∧ (∀ xs, sqOf x = some xs → xs.length ≤ 50 ∧ ∀ t ∈ xs, smallR t) ∧ rulesRes CB CE CU x Kk Xk
theorem looseR_len {d : D} (h : okRule d) : (looseR d).length ≤ 6000 := by
  obtain ⟨hd, body, rfl, oh, ob, lb⟩ := h
  have h1 := List.length_filter_le (fun p => !plainP p) body
  have := looseP_len (ps := .tup hd :: body.filter fun p => !plainP p) (body := body) fun p hp => by
    rcases List.mem_cons.mp hp with rfl | hp
    · exact .inl ⟨hd, rfl, oh⟩
    · exact ob p (List.mem_filter.mp hp).1
  rw [List.length_cons] at this
  show (looseP (.tup hd :: body.filter fun p => !plainP p) body).length ≤ 6000
  omega
section
variable {P : Program} {w : World} {K : PySem.W.Frag} {mg : Str → Option Value} {base : Heap} {f : Addr} {fd : FuncData}
-- _check_safe: slots 0 rules, 1 index, 2 rule, 3 loose
abbrev s_check_safe : Stmt := (top 38)
abbrev N_sc_check_safe : List Str := ["rules", "index", "rule", "loose"]
theorem sc_check_safe : FnScope N_sc_check_safe ["rules"] (defScope s_check_safe) := ⟨rfl, rfl, rfl, by decide +kernel, rfl, by decide +kernel, by decide +kernel⟩
theorem ok_check_safe {CU : Addr} (F : FnP K "_check_safe" "_check_safe" s_check_safe f fd) (T : Tx K mg) (C_loose_in_rule : Cal P w K mg base "loose_in_rule" 4 ["rule"] (spF K (wF okr1 fun ds => .lst ((looseR (ds.headD .non)).map .str))))
    (T_Unsafe : ExCl P w K mg base "Unsafe" CU 1 ["index", "letter"]) :
    FnOk P w K mg base (L2.CX P w) 5 f fd ["rules"] (spX K (mSafe CU)) :=
  FnX F sc_check_safe (fun ds Kk Xk h => by obtain ⟨x, rfl, _⟩ := h; rfl) fun cdv A outer s H Fz E Xk hr fit => ⟨_, 
(ds_one (ds_for (hp := own_body) (di_enumA T.b_enumerate (de_v (i := 0))) (dg_tup (n := 2) (dgs_cons (dg_name (i := 1) sc_check_safe.nd) (dgs_cons (dg_name (i := 2) sc_check_safe.nd) dgs_nil)))
  (ds_cons (ds_set (i := 3) sc_check_safe.nd (FE.de (fe_call C_loose_in_rule hr (da_cons (de_v (i := 2)) da_nil))))
 (ds_one (ds_if (dt_cm c_gt (de_len T.b_len (de_v (i := 3))) de_int) (ds_one (ds_raise T_Unsafe takes_body fit (hr.mono (by decide)) (da_cons (de_v (i := 1)) (da_cons (de_ixA (de_v (i := 3)) de_int) da_nil)))) ds_nil)))))
  , fun ds Kk h => by
    obtain ⟨rs, rfl, hok, hl, k⟩ := h
    refine ⟨_, rfl, _, .inl rfl, ?_⟩
    let mk : Option DV → Option DV → Option DV → DS noR := fun x1 x2 x3 => ⟨noG, [some (.fz (.lst rs)), x1, x2, x3]⟩
    refine forGo_ind (fun rest ρ => ∃ j x1 x2 x3, j ≤ rs.length ∧ rest = enumD j (rs.drop j) ∧ (∀ t ∈ rs.take j, (looseR t).isEmpty = true) ∧ ρ = mk x1 x2 x3) ?_ ?_ _ _ ⟨0, none, none, none, Nat.zero_le _, rfl, (fun t h => nomatch h), rfl⟩
    · rintro d rest N ρ hN ⟨j, x1, x2, x3, hj, hr, hd, rfl⟩
      by_cases hlt : j < rs.length
      · rw [List.drop_eq_getElem_cons hlt] at hr
        obtain ⟨rfl, rfl⟩ : d = .tup [.int (j : Nat), rs[j]] ∧ rest = enumD (j + 1) (rs.drop (j + 1)) := by
          have h1 : d :: rest = .tup [.int (j : Nat), rs[j]] :: enumD (j + 1) (rs.drop (j + 1)) := hr
          exact ⟨(List.cons.inj h1).1, (List.cons.inj h1).2⟩
        have hm : rs[j] ∈ rs := List.getElem_mem hlt
        refine ⟨_, rfl, rfl, _, _, rfl, _, _, rfl, rfl, ?_⟩
        refine ⟨_, rfl, ⟨_, rfl, hok _ hm⟩, ?_⟩
        have ln : ((looseR rs[j]).map D.str).length = (looseR rs[j]).length := List.length_map ..
        cases he : looseR rs[j] with
        | nil =>
          have e0 : some (some (DV.fz (.lst ((looseR rs[j]).map D.str)))) = some (some (DV.fz (.lst []))) := by rw [he]; rfl
          refine ⟨_, e0, .int ((0 : Nat) : Int), rfl, .bl false, rfl, false, rfl, itF (hN _ ⟨j + 1, _, _, _, hlt, rfl, fun t ht => ?_, rfl⟩)⟩
          rw [List.take_succ_eq_append_getElem hlt] at ht
          rcases List.mem_append.mp ht with q | q
          · exact hd t q
          · rw [List.mem_singleton.mp q, he]; rfl
        | cons z zs =>
          have e0 : some (some (DV.fz (.lst ((looseR rs[j]).map D.str)))) = some (some (DV.fz (.lst ((z :: zs).map D.str)))) := by rw [he]
          refine ⟨_, e0, .int (((zs.length + 1 : Nat)) : Int), by simp [lenD], .bl true, ?_, true, rfl, itT ⟨_, rfl, .lst ((z :: zs).map .str), e0, .str z, by simp [ixN], rfl, ?_⟩⟩
          · simp [cmpD]
          have hf2 : (rs.findIdx? fun t => !(looseR t).isEmpty) = some j := by
            rw [List.findIdx?_eq_some_iff_getElem]
            refine ⟨hlt, by rw [he]; rfl, fun i hi => ?_⟩
            have := hd rs[i] (by rw [List.mem_take_iff_getElem]; exact ⟨i, by omega, rfl⟩)
            rw [this]
            decide
          rw [hf2] at k
          have eg : rs.getD j .non = rs[j] := by rw [List.getD_eq_getElem?_getD, List.getElem?_eq_getElem hlt]; rfl
          simp only [eg, he] at k
          exact k
      · rw [List.drop_eq_nil_of_le (by omega)] at hr
        cases hr
    · rintro ρ ⟨j, x1, x2, x3, hj, hr, hd, rfl⟩
      have hj2 : ¬ j < rs.length := fun hlt => by
        rw [List.drop_eq_getElem_cons hlt] at hr
        cases hr
      have ej : rs.take j = rs := List.take_of_length_le (by omega)
      rw [ej] at hd
      have hf2 : (rs.findIdx? fun t => !(looseR t).isEmpty) = none := by
        rw [List.findIdx?_eq_none_iff]
        intro t ht
        rw [hd t ht]
        rfl
      rw [hf2] at k
      exact k⟩
-- checked_rules: slots 0 rules, 1 kept, 2 index, 3 thing, 4 rule
abbrev s_checked_rules : Stmt := (top 39)
abbrev N_sc_checked_rules : List Str := ["rules", "kept", "index", "thing", "rule"]
theorem sc_checked_rules : FnScope N_sc_checked_rules ["rules"] (defScope s_checked_rules) := ⟨rfl, rfl, rfl, by decide +kernel, rfl, by decide +kernel, by decide +kernel⟩
theorem ok_checked_rules {CB CE CU : Addr} (F : FnP K "checked_rules" "checked_rules" s_checked_rules f fd) (T : Tx K mg) (C_as_rule : Cal P w K mg base "as_rule" 8 ["thing"] (spD K (wF tmd1 fun ds => asRule (ds.headD .non))))
    (C_atoms_of : Cal P w K mg base "atoms_of" 2 ["rule"] (spF K (wF okr1 fun ds => .lst (atomsR (ds.headD .non)))))
    (C_check_even : CalX P w K mg base "check_even" 3 ["rows"] (spX K (mEven CE))) (C__check_safe : CalX P w K mg base "_check_safe" 5 ["rules"] (spX K (mSafe CU)))
    (T_BadRule : ExCl P w K mg base "BadRule" CB 1 ["index"]) :
    FnOk P w K mg base (L2.CX P w) 9 f fd ["rules"] (spX K (mRules CB CE CU)) :=
  FnX F sc_checked_rules (fun ds Kk Xk h => by obtain ⟨x, rfl, _⟩ := h; rfl) fun cdv A outer s H Fz E Xk hr fit => ⟨_, 
(ds_cons (ds_if (dt_not (dt_truth (de_isN T.b_isinstance (tns_cons (TyN.mk (t := .list) (by rfl) T.b_list (by decide +kernel) (by decide) (by decide)) (tns_cons (TyN.mk (t := .tuple) (by rfl) T.b_tuple (by decide +kernel) (by decide) (by decide)) tns_nil)) (de_v (i := 0))))) (ds_one (ds_raise T_BadRule takes_body fit (hr.mono (by decide)) (da_cons de_int da_nil))) ds_nil)
 (ds_cons (ds_new (i := 1) sc_checked_rules.nd (fe_lst da_nil))
 (ds_cons (ds_for (hp := own_body) (di_enumA T.b_enumerate (de_v (i := 0))) (dg_tup (n := 2) (dgs_cons (dg_name (i := 2) sc_checked_rules.nd) (dgs_cons (dg_name (i := 3) sc_checked_rules.nd) dgs_nil)))
  (ds_cons (ds_set (i := 4) sc_checked_rules.nd (de_call C_as_rule hr (da_cons (de_v (i := 3)) da_nil)))
 (ds_cons (ds_if (dt_cm c_is (de_v (i := 4)) de_non) (ds_one (ds_raise T_BadRule takes_body fit (hr.mono (by decide)) (da_cons (de_v (i := 2)) da_nil))) ds_nil)
 (ds_one (ds_app (i := 1) (de_v (i := 4)))))))
 (ds_cons (ds_expr (de_callX C_check_even pass_body fit hr (da_cons (FE.de (fe_lc (own := [("rule", 4)]) sc_checked_rules.nd (di_seq (de_o (i := 1))) (blkOk_by (own := [("rule", 4)]) (N := N_sc_checked_rules) (sc := defScope s_checked_rules) (by decide +kernel)) (fun _ _ _ _ _ => (dg_name (i := 4) sc_checked_rules.nd)) (fun _ _ _ _ _ => dts_nil) (fun _ _ _ _ _ => (FE.de (fe_call C_atoms_of hr (da_cons (de_v (i := 4)) da_nil)))))) da_nil)))
 (ds_cons (ds_expr (de_callX C__check_safe pass_body fit hr (da_cons (de_o (i := 1)) da_nil)))
 (ds_one (ds_ret (de_tuple T.b_tuple (de_b (i := 1))))))))))
  , fun ds Kk h => by
    obtain ⟨x, rfl, hx, hsm, k⟩ := h
    unfold rulesRes at k
    cases hs : sqOf x with
    | none =>
      rw [hs] at k
      have hi : isaD [.list, .tuple] x = some (.bl false) := by cases x <;> simp at hs hx <;> simp [isaD]
      exact ⟨_, rfl, _, hi, false, rfl, itT ⟨rfl, k⟩⟩
    | some xs =>
      simp only [hs] at k
      obtain ⟨hz, hsm⟩ := hsm xs hs
      have hx' := tmBs_iff.mp (sq_tms hs hx)
      have hi : isaD [.list, .tuple] x = some (.bl true) := by rcases sq_cases hs with rfl | rfl <;> simp [isaD]
      refine ⟨_, rfl, _, hi, true, rfl, itF ?_⟩
      refine ⟨by simp, ?_⟩
      let mk : List D → Option DV → Option DV → Option DV → DS noR := fun ks x2 x3 x4 => ⟨noG, [some (.fz x), some (.own (.lst ks)), x2, x3, x4]⟩
      refine ⟨x, rfl, xs, by rcases sq_cases hs with h | h <;> simp [h], ?_⟩
      refine forGo_ind (fun rest ρ => ∃ j x2 x3 x4, j ≤ xs.length ∧ rest = enumD j (xs.drop j) ∧ (∀ t ∈ xs.take j, isNon (asRule t) = false) ∧ (∀ d, x4 ≠ some (.own d)) ∧ ρ = mk ((xs.take j).map asRule) x2 x3 x4) ?_ ?_ _ _ ⟨0, none, none, none, Nat.zero_le _, rfl, (fun t h => nomatch h), (fun _ h => by cases h), rfl⟩
      · rintro d rest N ρ hN ⟨j, x2, x3, x4, hj, hr, hd, hx4, rfl⟩
        by_cases hlt : j < xs.length
        · rw [List.drop_eq_getElem_cons hlt] at hr
          obtain ⟨rfl, rfl⟩ : d = .tup [.int (j : Nat), xs[j]] ∧ rest = enumD (j + 1) (xs.drop (j + 1)) := by
            have h1 : d :: rest = .tup [.int (j : Nat), xs[j]] :: enumD (j + 1) (xs.drop (j + 1)) := hr
            exact ⟨(List.cons.inj h1).1, (List.cons.inj h1).2⟩
          have hm : xs[j] ∈ xs := List.getElem_mem hlt
          refine ⟨_, rfl, rfl, _, _, rfl, _, _, rfl, rfl, ?_⟩
          refine ⟨_, rfl, ⟨_, rfl, hx' _ hm⟩, ?_⟩
          rcases asRule_cases xs[j] (hsm _ hm) with h | h
          · refine ⟨asRule xs[j], rfl, .bl true, by rw [h]; rfl, true, rfl, itT ⟨_, rfl, rfl, ?_⟩⟩
            have hf : (xs.findIdx? fun t => isNon (asRule t)) = some j := by
              rw [List.findIdx?_eq_some_iff_getElem]
              refine ⟨hlt, by rw [h]; rfl, fun i hi => ?_⟩
              have := hd xs[i] (by rw [List.mem_take_iff_getElem]; exact ⟨i, by omega, rfl⟩)
              rw [this]
              decide
            simp only [hf] at k
            exact k
          · have hnn : isNonD (asRule xs[j]) = some false := by
              obtain ⟨w0, hd0, e, _⟩ := h
              rw [e]; rfl
            refine ⟨asRule xs[j], rfl, .bl false, by simp [hnn, xr], false, rfl, itF ?_⟩
            refine ⟨⟨_, rfl⟩, asRule xs[j], rfl, _, rfl, by rw [List.length_map, List.length_take]; omega, hN _ ⟨j + 1, some (.fz (.int (j : Nat))), some (.fz xs[j]), some (.fz (asRule xs[j])), hlt, rfl, fun t ht => ?_, (fun _ h => by cases h), ?_⟩⟩
            · rw [List.take_succ_eq_append_getElem hlt] at ht
              rcases List.mem_append.mp ht with q | q
              · exact hd t q
              · rw [List.mem_singleton.mp q]
                obtain ⟨w0, hd0, e, _⟩ := h
                rw [e]; rfl
            · rw [List.take_succ_eq_append_getElem hlt, List.map_append]
              rfl
        · rw [List.drop_eq_nil_of_le (by omega)] at hr
          cases hr
      · rintro ρ ⟨j, x2, x3, x4, hj, hr, hd, hx4, rfl⟩
        have hj2 : ¬ j < xs.length := fun hlt => by
          rw [List.drop_eq_getElem_cons hlt] at hr
          cases hr
        have ej : xs.take j = xs := List.take_of_length_le (by omega)
        rw [ej] at hd ⊢
        have hf : (xs.findIdx? fun t => isNon (asRule t)) = none := by
          rw [List.findIdx?_eq_none_iff]
          exact hd
        simp only [hf] at k
        have hok : ∀ r ∈ xs.map asRule, okRule r := fun r hr => by
          obtain ⟨t, ht, rfl⟩ := List.mem_map.mp hr
          rcases asRule_cases t (hsm t ht) with h | h
          · have := hd t ht
            rw [h] at this
            cases this
          · exact h
        have hrows : okRows (xs.map fun t => atomsR (asRule t)) := by
          refine ⟨fun r hr a ha => ?_, by rw [List.length_map]; omega, ?_⟩
          · obtain ⟨t, ht, rfl⟩ := List.mem_map.mp hr
            exact (atomsR_ok (hok _ (List.mem_map_of_mem ht))).1 a ha
          · have go : ∀ ys : List D, (∀ y ∈ ys, okRule (asRule y)) → ((ys.map fun t => atomsR (asRule t)).map List.length).sum ≤ 901 * ys.length := by
              intro ys
              induction ys with
              | nil => intro _; simp
              | cons y ys ih =>
                intro h
                have h1 := (atomsR_ok (h y List.mem_cons_self)).2
                have h2 := ih fun q hq => h q (List.mem_cons_of_mem _ hq)
                rw [List.map_cons, List.map_cons, List.sum_cons, List.length_cons]
                omega
            have := go xs fun y hy => hok _ (List.mem_map_of_mem hy)
            omega
        let mk2 : Option DV → Option DV → Option DV → DS noR := fun x2 x3 x4 => ⟨noG, [some (.fz x), some (.fz (.lst (xs.map asRule))), x2, x3, x4]⟩
        let K1 : DEnds noR := { nx := fun x => Kk D.non, rt := fun d x => Kk d }
        show wLc (wSq (wO 1)) (gNm 4) wYes (wCall (wF okr1 fun ds => D.lst (atomsR (ds.headD D.non))) (wCons (wV 4) wNil)) [4] (mk (xs.map asRule) x2 x3 x4)
          (fun d ρ1 => mEven CE [d] (fun _ => sSeq (sDrop (wCallX Xk (mSafe CU) (wCons (wO 1) wNil))) (sRet (wUn tupleD (wB 1))) K1 ρ1) Xk)
        refine wLc_via (ρ' := mk2 x2 x3 x4) (ds := xs.map asRule) (fun K' k' => .inr ⟨_, rfl, _, rfl, k'⟩) _ ?_
        refine wLc_map (ds := xs.map asRule) (f := fun r => .lst (atomsR r)) (x := x4) (fun K k => k) (by rw [List.length_map]; omega) rfl hx4 (fun r hr K k => ⟨_, rfl, ⟨r, rfl, hok r hr⟩, k⟩) _ ?_
        rw [List.map_map]
        refine ⟨xs.map fun t => atomsR (asRule t), by rw [List.map_map]; rfl, hrows, ?_⟩
        cases hu : unevR g0 0 (xs.map fun t => atomsR (asRule t)) with
        | some p =>
          obtain ⟨i, z⟩ := p
          rw [hu] at k
          exact k
        | none =>
          rw [hu] at k
          simp only at k
          refine .inl ⟨_, rfl, xs.map asRule, rfl, hok, by rw [List.length_map]; omega, ?_⟩
          cases hfi : (xs.map asRule).findIdx? fun r => !(looseR r).isEmpty with
          | some i =>
            rw [hfi] at k
            exact k
          | none =>
            rw [hfi] at k
            exact .inl ⟨_, rfl, _, rfl, k⟩⟩
end
end L03

set_option Elab.async false
set_option linter.all false
set_option maxRecDepth 100000
set_option maxHeartbeats 4000000
/-! set(xs) of a list of texts, and sorted of it -/
namespace Q
open PySem PySem.Spec PyProof.Rows L2
theorem isTx {P : Program} {w : World} (k : Str) (u : Tok) : (strKind P w).is k (.str k u) = true := by
  show Value.isStrOf k (.str k u) = true
  simp [Value.isStrOf]
def txOf (e : Int × Value) : Str := match e.2 with
  | .str k _ => k
  | _ => Str.empty
def GoodT (w : World) (e : Int × Value) : Prop := ∃ k u, e.2 = Value.str k u ∧ e.1 = hashStr w k
/-- the set at a holds the texts l, each once -/
def SetT (w : World) (h : Heap) (a : Addr) (l : List Str) : Prop := ∃ (ob : Obj) (els : Array (Int × Value)) (num : Nat) (tb : SetTable), h.get? a = some ob ∧ ob.ExactSet ∧ ob.data = .set els num tb ∧
  (∀ e ∈ els.toList, GoodT w e) ∧ (els.toList.map txOf).Perm l ∧ l.Nodup ∧ els.size < scanBound ∧ tb.fits els.size = true ∧ Ris tb.place.toList ∧ (w.params.followText "set-order" = true ∨ tb.led = true)
section
variable {P : Program} {w : World} {A : Around} {E : Value → Shared → Prop} {s : Shared} {a : Addr} {l : List Str}
theorem tx_is {e : Int × Value} (g : GoodT w e) (k : Str) : (strKind P w).is k e.2 = true ↔ txOf e = k := by
  obtain ⟨k', u, e2, _⟩ := g
  have h1 : (strKind P w).is k' (.str k' u) = true := isTx k' u
  unfold txOf
  rw [e2]
  constructor
  · intro q
    exact (strKind P w).inj (.str k' u) k' k h1 q
  · intro q
    have q : k' = k := q
    rw [← q]
    exact h1
theorem tx_elems {els : List (Int × Value)} (g : ∀ e ∈ els, GoodT w e) : ElemsOf (strKind P w) els := fun e he => by
  obtain ⟨k, u, e2, e1⟩ := g e he
  exact ⟨⟨k, by rw [e2]; exact isTx k u, e1⟩, by rw [e2]; rfl⟩
theorem tx_stay {h' : Heap} (S : SetT w s.heap a l) (k : ∀ o, s.heap.get? a = some o → h'.get? a = some o) : SetT w h' a l := by
  obtain ⟨ob, els, num, tb, at_, r⟩ := S
  exact ⟨ob, els, num, tb, k ob at_, r⟩
/-- what is stored behind an add -/
theorem tx_store {ob : Obj} {els es' : Array (Int × Value)} {num : Nat} {tb tb' : SetTable} {dm : Bool} {l' : List Str} {go : Bool → Sem Unit} {Z : Option Bool → Shared → Prop} (quiet : ∀ (b : Bool) (s1 : Shared) (Z' : Unit → Shared → Prop), Z' () s1 → wpAny (model P w) A (go b) Z' E s1)
    (at_ : s.heap.get? a = some ob) (ex : ob.ExactSet) (da : ob.data = .set els num tb) (good : ∀ e ∈ es'.toList, GoodT w e) (pm : (es'.toList.map txOf).Perm l') (nd : l'.Nodup) (small : es'.size < scanBound) (fit : tb'.fits es'.size = true) (ris : Ris tb'.place.toList) (led : w.params.followText "set-order" = true ∨ tb'.led = true)
    (next : ∀ h', Heap.SameBut a s.heap h' → SetT w h' a l' → Z (some true) { s with heap := h' }) :
    wpAny (model P w) A (do
        storeSet a es' tb'
        if (!dm && tb'.tooFull) = true then do
            go (relayAll tb' es' (SetTable.grown es'.size)).2.2
            storeSet a (relayAll tb' es' (SetTable.grown es'.size)).1 (relayAll tb' es' (SetTable.grown es'.size)).2.1
            pure (some true)
          else pure (some true)) Z E s := by
  have b1 := Heap.SameBut.update s.heap a (Obj.putSet es' tb')
  have at1 := store_at (es' := es') (t' := tb') at_ da
  refine wpAny_bind (wpAny_storeSet_of at_ da ?_ (fits_of_scanBound small))
  by_cases full : (!dm && tb'.tooFull) = true
  · rw [if_pos full]
    have q1 := relayAll_perm tb' es' (SetTable.grown es'.size)
    have q2 := relayAll_fits tb' es' (SetTable.grown es'.size)
    have q3 := relayAll_ris tb' es' (SetTable.grown es'.size)
    have q4 := relayAll_led tb' es' (SetTable.grown es'.size)
    generalize relayAll tb' es' (SetTable.grown es'.size) = W at q1 q2 q3 q4 ⊢
    obtain ⟨e2, t2, g2⟩ := W
    have len : e2.size = es'.size := by
      have := q1.length_eq
      simpa using this
    refine wpAny_bind (quiet _ _ _ ?_)
    refine wpAny_bind (wpAny_storeSet_of at1 rfl ?_ (fits_of_scanBound (by show e2.size < _; omega)))
    exact wpAny_pure (next _ (b1.trans (Heap.SameBut.update _ a _)) ⟨_, e2, _, t2, store_at (es' := e2) (t' := t2) at1 rfl, ex, rfl, fun e he => good e (q1.mem_iff.mp he), (q1.map txOf).trans pm, nd, by omega, q2, q3, led.imp id fun z => q4.trans z⟩)
  · rw [if_neg full]
    exact wpAny_pure (next _ b1 ⟨_, es', _, tb', at1, ex, rfl, good, pm, nd, small, fit, ris, led⟩)
def addT (l : List Str) (k : Str) : List Str := if k ∈ l then l else k :: l
theorem addT_nodup {l : List Str} {k : Str} (h : l.Nodup) : (addT l k).Nodup := by
  unfold addT
  split
  · exact h
  · rename_i n
    exact List.nodup_cons.mpr ⟨n, h⟩
theorem addT_len (l : List Str) (k : Str) : (addT l k).length ≤ l.length + 1 := by unfold addT; split <;> simp
theorem tx_add {k : Str} {u : Tok} {Z : Bool → Shared → Prop} (S : SetT w s.heap a l) (room : l.length + 1 < scanBound) (next : ∀ b h', Heap.SameBut a s.heap h' → SetT w h' a (addT l k) → Z b { s with heap := h' }) :
    wpAny (model P w) A (setAddHashed a (.str k u) ((strKind P w).hash k)) Z E s := by
  obtain ⟨ob, els, num, tb, at_, ex, da, good, pm, nd, small, fit, ris, led⟩ := S
  have isK : (strKind P w).is k (.str k u) = true := isTx k u
  have scan : (Value.str k u).scannable = true := rfl
  have elems : ElemsOf (strKind P w) els.toList := tx_elems good
  have len : els.size = l.length := by
    have := pm.length_eq
    simpa using this
  unfold setAddHashed setAddHashedIn
  refine wpAny_holding (wpAny_bind (wpAny_setState_of at_ da fit ?_))
  dsimp only
  rw [byScan_of scan small elems]
  simp only [↓reduceIte]
  unfold setAddByScan
  refine wpAny_bind ?_
  refine wpAny_bind (wpAny_rule ?_)
  refine wpAny_bind (wpAny_setScan_of isK at_ da fit elems ?_)
  cases find : List.findIdx? (fun e => (strKind P w).is k e.2) els.toList with
  | some j =>
    dsimp only
    obtain ⟨hj, pj, _⟩ := List.findIdx?_eq_some_iff_getElem.mp find
    have mem : k ∈ l := pm.mem_iff.mp (List.mem_map.mpr ⟨els.toList[j], List.getElem_mem hj, (tx_is (good _ (List.getElem_mem hj)) k).mp pj⟩)
    refine wpAny_pure (wpAny_pure (next false s.heap (Heap.SameBut.refl a s.heap) ?_))
    unfold addT
    rw [if_pos mem]
    exact ⟨ob, els, num, tb, at_, ex, da, good, pm, nd, small, fit, ris, led⟩
  | none =>
    dsimp only
    have new : k ∉ l := fun z => by
      obtain ⟨e, he, q⟩ := List.mem_map.mp (pm.mem_iff.mpr z)
      have := List.findIdx?_eq_none_iff.mp find e he
      rw [(tx_is (good e he) k).mpr q] at this
      cases this
    have nd2 : (addT l k).Nodup := addT_nodup nd
    have still : ∀ (b : Bool) {s1 : Shared} {Z' : Unit → Shared → Prop}, Z' () s1 → wpAny (model P w) A (match b with | true => rule "set.scan.the-table-gave-way" | false => pure ()) Z' E s1 := fun b s1 Z' q => by
      cases b
      · exact wpAny_pure q
      · exact wpAny_rule q
    have p1 := layNew_perm tb els ((strKind P w).hash k) (.str k u)
    have p2 := layNew_fits tb els ((strKind P w).hash k) (.str k u)
    have p3 := layNew_ris tb els ((strKind P w).hash k) (.str k u) ris
    have p4 := layNew_led tb els ((strKind P w).hash k) (.str k u)
    generalize layNew tb els ((strKind P w).hash k) (.str k u) = W at p1 p2 p3 p4 ⊢
    obtain ⟨es1, tb1, dm, gave⟩ := W
    dsimp only at p1 p2 p3 p4 ⊢
    rw [Array.toList_push] at p1
    have pc : es1.toList.Perm (((strKind P w).hash k, Value.str k u) :: els.toList) := p1.trans (List.perm_append_singleton _ _)
    have good1 : ∀ e ∈ es1.toList, GoodT w e := fun e he => by
      rcases List.mem_cons.mp (pc.mem_iff.mp he) with z | z
      · exact ⟨k, u, by rw [z], by rw [z]; rfl⟩
      · exact good e z
    have pm1 : (es1.toList.map txOf).Perm (addT l k) := by
      unfold addT
      rw [if_neg new]
      exact (pc.map txOf).trans (List.Perm.cons k pm)
    have small1 : es1.size < scanBound := by
      have := pc.length_eq
      simp at this
      omega
    have led1 : w.params.followText "set-order" = true ∨ tb1.led = true := led.imp id fun z => p4.trans z
    refine wpAny_bind (still _ ?_)
    split
    · refine wpAny_bind ?_
      rw [hashByValue_scannable 8 scan]
      refine wpAny_pure ?_
      refine tx_store ?_ at_ ex da good1 pm1 nd2 small1 ?_ ?_ ?_ ?_
      · intro b s1 Z' q; cases b <;> first | exact wpAny_pure q | exact wpAny_rule q
      · first | (split <;> first | exact p2 | exact SetTable.fits_plain_off p2) | exact p2
      · first | (split <;> exact p3) | exact p3
      · first | (split <;> exact led1) | exact led1
      · intro h' sb r; dsimp only; exact wpAny_pure (next true h' sb r)
    · refine wpAny_bind (wpAny_pure ?_)
      simp only [↓reduceIte]
      refine tx_store ?_ at_ ex da good1 pm1 nd2 small1 p2 p3 led1 ?_
      · intro b s1 Z' q; cases b <;> first | exact wpAny_pure q | exact wpAny_rule q
      · intro h' sb r; dsimp only; exact wpAny_pure (next true h' sb r)
end
end Q

set_option Elab.async false
set_option linter.all false
set_option maxRecDepth 100000
set_option maxHeartbeats 4000000
namespace Q
open PySem PySem.Spec PyProof.Rows L2
section
variable {prog : Program} {w : World} {A : Around} {R : Result → Shared → Prop} {I : Addr} {fp wr : List Addr} {G : Array GenState → Array GenState → Prop} {n : Nat} {P : Nat → Value → Prop} {St : Nat → Shared → Prop}
theorem fold_len : ∀ (xs l : List Str), (xs.foldl addT l).length ≤ l.length + xs.length
  | [], l => by simp
  | x :: xs, l => by
    have h1 := fold_len xs (addT l x)
    have h2 := addT_len l x
    simp only [List.foldl_cons, List.length_cons]
    omega
theorem texts_at {vs : List Value} {xs : List Str} (h : StrsAre vs xs) : ∀ {i : Nat} {v : Value}, vs[i]? = some v → ∃ x t, xs[i]? = some x ∧ v = .str x t := by
  induction h with
  | nil => intro i v e; simp at e
  | cons y t r ih =>
    intro i v e
    cases i with
    | zero => simp at e; exact ⟨y, t, rfl, e.symm⟩
    | succ i => simpa using ih (i := i) (v := v) (by simpa using e)
theorem set_loop (walk : WalksS prog w A.in1 I fp wr G n P St) (S : Addr) (away : S ∉ fp) (xs : List Str) (len : xs.length = n) (small : n < 4000) (vals : ∀ i v, P i v → ∃ x t, xs[i]? = some x ∧ v = .str x t) :
    ∀ (k i : Nat) (s : Shared), n - i = k → i ≤ n → St i s → SetT w s.heap S ((xs.take i).foldl addT []) → (∀ s', Moved (S :: wr) G s s' → SetT w s'.heap S (xs.foldl addT []) → R (.ok (.ret .none)) s') →
      codeAny (model prog w) A (.builtin "set.update.loop" ⟨[.ref S, .ref I], []⟩) R s := by
  have notW : S ∉ wr := fun z => away (walk.sub _ z)
  have more : ∀ b ∈ wr, b ∈ S :: wr := fun b hb => List.mem_cons_of_mem _ hb
  intro k
  induction k with
  | zero =>
    intro i s hk hi st set fin
    have : i = n := by omega
    subst this
    rw [← len, List.take_length] at set
    refine codeAny_builtin PyProof.Rows.F.entry_set_update_loop ?_
    rw [Around.under_plainId PyProof.Rows.F.plain_set_update_loop _]
    show wpAny _ A.in1 (pyNext (.ref I) >>= _) _ _ s
    refine wpAny_bind (walk.done s _ _ st fun s' mv => ?_)
    show wpAny _ A.in1 (ret Value.none) _ _ s'
    exact wpAny_pure (fin s' (mv.mono more) (tx_stay set fun o e => mv.heap S _ notW e))
  | succ k ih =>
    intro i s hk hi st set fin
    have lt : i < n := by omega
    refine codeAny_builtin PyProof.Rows.F.entry_set_update_loop ?_
    rw [Around.under_plainId PyProof.Rows.F.plain_set_update_loop _]
    show wpAny _ A.in1 (pyNext (.ref I) >>= _) _ _ s
    refine wpAny_bind (walk.item i s _ _ lt st fun v s' hp st' mv => ?_)
    obtain ⟨x, t, hx, rfl⟩ := vals i v hp
    have set1 : SetT w s'.heap S ((xs.take i).foldl addT []) := tx_stay set fun o e => mv.heap S _ notW e
    have step : (xs.take (i + 1)).foldl addT [] = addT ((xs.take i).foldl addT []) x := by rw [take_put hx, List.foldl_append]; rfl
    have room := fold_len (xs.take i) []
    show wpAny _ A.in1 (holding [Value.str x t] (setAdd S (.str x t)) >>= _) _ _ s'
    refine wpAny_bind (wpAny_holding ?_)
    unfold setAdd
    refine wpAny_holding ?_
    refine wpAny_bind ((PySem.strKind prog w).pyHash (k := x) (isTx _ _) ?_)
    refine tx_add (P := prog) (s := { s' with toks := s'.toks + 1 }) set1 (by unfold scanBound; simp at room; omega) fun b h' sb set2 => ?_
    rw [← step] at set2
    refine wpAny_pure ⟨plainId_quiet PyProof.Rows.F.plain_set_update_loop _, ih (i + 1) _ (by omega) lt (walk.frame _ s' _ _ st' (Nat.le_succ _) fun b hb o e => ?_) set2 fun s'' mv2 set3 => ?_⟩
    · rw [sb.2 b (fun z : b = S => away (by rw [← z]; exact hb))]; exact e
    · refine fin s'' (Moved.trans walk.gtrans ((mv.mono more).then_heap (Nat.le_succ _) fun b o hb e => ?_) mv2) set3
      rw [sb.2 b (fun z : b = S => hb (by rw [z]; exact List.mem_cons_self))]; exact e
end
section
variable {prog : Program} {w : World} {A : Around} {E : Value → Shared → Prop} {s : Shared}
set_option maxHeartbeats 6400000 in
theorem call_setT {l : Addr} {items : Array Value} {xs : List Str} {Z : Value → Shared → Prop} (calm : A.handled = none) (at_ : s.heap.IsList l items) (are : StrsAre items.toList xs) (small : xs.length < 4000)
    (next : ∀ (h' : Heap) (tk : Nat), SetT w h' s.heap.objs.size (xs.foldl addT []) → (∀ b o, b < s.heap.objs.size → s.heap.get? b = some o → h'.get? b = some o) → Z (.ref s.heap.objs.size) { s with heap := h', toks := tk }) :
    wpAny (model prog w) A (call (.type "set") [.ref l]) Z E s := by
  obtain ⟨c, tl, hmro⟩ := PySem.F.called_set.mro
  have hmade := PySem.F.called_set.made
  have hsub := PySem.F.called_set.sub
  refine wpAny_call (codeAny_of_tree ?_)
  show wpAny _ _ (callAny (.type "set") _) _ _ _
  refine wpAny_pure ⟨Code.quiet_builtin _ (by decide +kernel), codeAny_builtin PySem.F.entry_type_call ?_⟩
  rw [Around.under_plain (weight_type_call_type "set" [.ref l] []) rfl]
  have k1 := PySem.F.called_set.notType
  have k2 := PySem.F.called_set.canCreate
  have k3 := PySem.F.typeCall_set_1 (.ref l)
  repeat (any_goals (first | assumption | wp_step))
  refine codeAny_mono (code_set_led1 (.ref l) (E := E) (w := w) (Q₁ := fun obj s₁ => obj = .ref s.heap.objs.size ∧ s₁ = { s with heap := s.heap.push { cls := .type "set", dict := none, data := .set #[] 0 (.fresh 0 0 (!w.params.followText "set-order")) } }) ⟨rfl, rfl⟩) fun r s₁ hr => ?_
  cases r with
  | error e => exact hr
  | ok fl =>
    cases fl with
    | ret obj =>
      obtain ⟨rfl, rfl⟩ := hr
      generalize hled : (!w.params.followText "set-order") = ledger
      have at_s : (s.heap.push { cls := .type "set", dict := none, data := .set #[] 0 (.fresh 0 0 ledger) }).get? s.heap.objs.size = some { cls := .type "set", dict := none, data := .set #[] 0 (.fresh 0 0 ledger) } := Heap.get?_push_size _ rfl
      have ty_s : Shared.TypeIs { s with heap := s.heap.push { cls := .type "set", dict := none, data := .set #[] 0 (.fresh 0 0 ledger) } } (.ref s.heap.objs.size) "set" := ⟨_, at_s, rfl⟩
      have k4 := PySem.F.called_set.init.lookup
      have k5 := PySem.F.called_set.init.bind (.ref s.heap.objs.size)
      have led0 : w.params.followText "set-order" = true ∨ ledger = true := by
        rw [← hled]
        cases w.params.followText "set-order"
        · exact .inr rfl
        · exact .inl rfl
      repeat (any_goals (first | assumption | wp_step))
      refine codeAny_mono (codeAny_call_builtin (R := wants (fun r s₂ => r = .none ∧ ∃ h' tk, s₂ = { s with heap := h', toks := tk } ∧ SetT w h' s.heap.objs.size (xs.foldl addT []) ∧
          (∀ b o, b < s.heap.objs.size → s.heap.get? b = some o → h'.get? b = some o)) E) PySem.F.called_set.init.plain PySem.F.entry_set_init (check_set_init_1 ty_s ?_)) fun r₂ s₂ hr₂ => ?_
      · obtain ⟨ol, hol, hcl, nl, hdl⟩ := at_
        obtain ⟨ocls, odict, odata, oslots⟩ := ol
        simp only at hcl hdl
        subst hcl hdl
        have at_l := Heap.get?_push_of_some { cls := .type "set", dict := none, data := .set #[] 0 (.fresh 0 0 ledger) } hol
        have sub1 := PySem.F.sub_list_set
        have sub2 := PySem.F.sub_list_frozenset
        have notDict : (Value.type "list" == Value.type "dict") = false := by decide
        have list1 : (s.heap.push { cls := .type "set", dict := none, data := .set #[] 0 (.fresh 0 0 ledger) }).IsList l items := ⟨_, at_l, rfl, nl, rfl⟩
        unfold Builtin.«set.__init__» noKeywords Builtin.Frozenset.updateFrom
        generalize it : pyIter = PI
        wp_walk
        subst it
        refine wpAny_pyIter_list list1 ?_
        refine wpAny_bind (wpAny_runValue ?_)
        have below := Heap.lt_size hol
        have calm3 : A.in1.in1.in1.handled = none := by simp [calm]
        have apart : l ≠ (s.heap.push { cls := .type "set", dict := none, data := .set #[] 0 (.fresh 0 0 ledger) }).objs.size := by
          rw [Heap.size_push]; exact Nat.ne_of_lt (Nat.lt_succ_of_lt below)
        have out : s.heap.objs.size ∉ [(s.heap.push { cls := .type "set", dict := none, data := .set #[] 0 (.fresh 0 0 ledger) }).objs.size, l] := by
          rw [Heap.size_push]; simp only [List.mem_cons, List.mem_singleton, List.not_mem_nil, or_false, not_or]
          exact ⟨Nat.ne_of_lt (Nat.lt_succ_self _), Nat.ne_of_gt below⟩
        have len : xs.length = items.size := by rw [← StrsAre.len_eq are, Array.length_toList]
        refine set_loop ((Walks.list calm3 _ l apart items).toS) s.heap.objs.size out xs len (by rw [← len]; exact small) (fun i v hv => texts_at are (by rw [Array.getElem?_toList]; exact hv)) (items.size - 0) 0 _ (by omega) (Nat.zero_le _)
          ⟨⟨_, Heap.get?_push_size _ rfl, rfl, rfl⟩, (list1.push _)⟩ ?first ?last
        case first =>
          exact ⟨_, #[], 0, _, Heap.get?_push_of_some _ at_s, ⟨rfl, rfl, rfl⟩, rfl, (fun e he => by simp at he), (by simp), List.nodup_nil, (by unfold scanBound; simp), (by rfl), List.Pairwise.nil, led0⟩
        case last =>
          intro s' mv set'
          obtain ⟨h', g', d', tk', os'⟩ := s'
          have eg : g' = s.gens := mv.gens
          have ed : d' = s.drawn := mv.drawn
          have eo : os' = s.os := mv.os
          subst eg ed eo
          show wpAny _ _ _ _ _ _
          refine wpAny_pure ?_
          show wpAny _ _ (ret Value.none) _ _ _
          refine wpAny_pure ⟨rfl, h', tk', rfl, set', fun b o hb e => ?_⟩
          have n1 : b ≠ s.heap.objs.size := Nat.ne_of_lt hb
          have n2 : b ≠ (s.heap.push { cls := .type "set", dict := none, data := .set #[] 0 (.fresh 0 0 ledger) }).objs.size := by
            rw [Heap.size_push]; exact Nat.ne_of_lt (Nat.lt_succ_of_lt hb)
          exact mv.heap b o (by simp only [List.mem_cons, List.mem_singleton, List.not_mem_nil, or_false, not_or]; exact ⟨n1, n2⟩) (Heap.get?_push_of_some _ (Heap.get?_push_of_some _ e))
      · cases r₂ with
        | error e => exact hr₂
        | ok fl₂ =>
          cases fl₂ with
          | ret r =>
            obtain ⟨rfl, h', tk, rfl, set', old⟩ := hr₂
            repeat (any_goals (first | assumption | wp_step))
            exact next _ _ set' old
          | _ => exact hr₂.elim
    | _ => exact hr.elim
end
end Q

set_option Elab.async false
set_option linter.all false
set_option maxRecDepth 100000
set_option maxHeartbeats 4000000
/-! sorted(set(xs)), xs a list of texts -/
namespace Q
open PySem PySem.Spec PyProof.Rows L2 PySem.W
def IsTx (v : Value) (z : Str) : Prop := ∃ t, v = .str z t
def txVal : Value → Str
  | .str k _ => k
  | _ => Str.empty
theorem each_tx : ∀ {vs : List Value}, (∀ v ∈ vs, ∃ k t, v = Value.str k t) → EachIs IsTx vs (vs.map txVal)
  | [], _ => .nil
  | v :: vs, h => by
    obtain ⟨k, t, rfl⟩ := h v List.mem_cons_self
    exact .cons ⟨t, rfl⟩ (each_tx fun u hu => h u (List.mem_cons_of_mem _ hu))
theorem tx_alike (zs : List Str) : AllAlike (zs.map PyData.str) := fun d hd d' hd' => by
  obtain ⟨z, _, rfl⟩ := List.mem_map.mp hd
  obtain ⟨z', _, rfl⟩ := List.mem_map.mp hd'
  simp [alike]
theorem tx_sortable (zs : List Str) : Sortable (zs.map PyData.str) := .inr fun d hd => by
  obtain ⟨z, _, rfl⟩ := List.mem_map.mp hd
  exact ⟨(fun h => nomatch h), (fun _ h => nomatch h)⟩
section
variable {P : Program} {w : World} {A : Around} {E : Value → Shared → Prop} {s : Shared} {a : Addr}
theorem tx_reads {h : Heap} : ∀ {vs : List Value} {zs : List Str}, EachIs IsTx vs zs → EachIs (fun v b => ∃ as, Reads h v (PyData.str b) as) vs zs
  | _, _, .nil => .nil
  | _, _, .cons ⟨t, e⟩ r => by
    subst e
    exact .cons ⟨[], .str _ _⟩ (tx_reads r)
theorem sorted_setT {l : List Str} {Q : Value → Shared → Prop} (R : SetT w s.heap a l) (hh : A.handled = none) (hu : A.units + 10 < cLine) (small : l.length ≤ sizeLine)
    (next : ∀ s' p (out : List Value) (c : Nat) (zs : List Str), (∀ b o, s.heap.get? b = some o → s'.heap.get? b = some o) → s'.gens = s.gens → s'.os = s.os → s.heap.objs.size ≤ p →
      s'.heap.get? p = some (seqObj "list" out.toArray c) → EachIs IsTx out (zs.mergeSort (dataLe false PyData.str)) → zs.Perm l → Q (.ref p) s') :
    wpAny (model P w) A (call (.builtin "sorted") [.ref a]) Q E s := by
  obtain ⟨ob, els, num, tb, at_, ex, da, good, pm, nd, sm, fit, ris, led⟩ := R
  refine Calls.call_function_entry kind_sorted plain_sorted entry_sorted (args_sorted1 _) ?_
  unfold Builtin.«sorted»
  refine wpAny_bind (m := checkCount "sorted" 1 1 _) (wpAny_pure ?_)
  refine wpAny_bind (collect_set (A := A.in1) hh ⟨ob, at_, ex.1, da⟩ fit sm ris led fun s1 vs k1 hz g1 o1 pv => ?_)
  have tx : ∀ v ∈ vs, ∃ k t, v = Value.str k t := fun v hv => by
    obtain ⟨e, he, q⟩ := List.mem_map.mp (pv.mem_iff.mp hv)
    obtain ⟨k, t, h1, _⟩ := good e he
    exact ⟨k, t, by rw [← q]; exact h1⟩
  have he := each_tx tx
  have pz : (vs.map txVal).Perm l := by
    have q := pv.map txVal
    rw [List.map_map] at q
    exact q.trans pm
  have len : vs.length ≤ sizeLine := by
    have := pz.length_eq
    rw [List.length_map] at this
    omega
  refine wpAny_bind (wpAny_newList ?_ len)
  have hoL : (s1.heap.push (seqObj "list" vs.toArray 0)).get? s1.heap.objs.size = some (seqObj "list" vs.toArray 0) := Heap.get?_push_size _ rfl
  let H1 : Heap := s1.heap.push (seqObj "list" vs.toArray 0)
  have bound : ∀ b ∈ vs.map txVal, A.in1.in1.units + (PyData.str b).depth < cLine := fun b _ => by
    have : A.in1.in1.units ≤ A.units + 2 := by first | exact Nat.le_refl _ | (simp [Around.in1]; done)
    have hd : (PyData.str b).depth = 0 := by simp [PyData.depth]
    omega
  refine wpAny_bind (wpAny_holding (wpAny_call_entry slot_list_sort ⟨_, hoL, rfl⟩ entry_list_sort (list_sort_vals (κ := dataKind (sortingHeap H1 s1.heap.objs.size vs) ((vs.map txVal).map PyData.str)) hoL
    (SortsAt.data (s := { s1 with heap := sortingHeap H1 s1.heap.objs.size vs }) (each_map (R := fun v d => ∃ as, Reads (sortingHeap H1 s1.heap.objs.size vs) v d as) PyData.str (tx_reads he)) (tx_alike _) (tx_sortable _) (bound_map bound)) len ⟨.none, rfl, ?_⟩) (args_list_sort _)))
  obtain ⟨c, hc⟩ := sortedHeap_at (vs := vs) (out := List.toArray (PySem.W.sortVals (dataKind (sortingHeap H1 s1.heap.objs.size vs) ((vs.map txVal).map PyData.str)) false vs vs)) hoL
  refine wpAny_pure ⟨_, rfl, next _ s1.heap.objs.size _ c (vs.map txVal) (fun b u e => ?_) g1 o1 hz hc (sortVals_data false he (tx_reads he) (tx_alike _)) pz⟩
  have q := k1 b u e
  have hlt := Heap.lt_size q
  show (sortedHeap H1 s1.heap.objs.size vs _).get? b = some u
  rw [sortedHeap_old (Nat.ne_of_lt hlt) (by rw [size_push']; exact Nat.lt_succ_of_lt hlt)]
  exact Heap.get?_push_of_some _ q
end
end Q

set_option Elab.async false
set_option linter.all false
set_option maxRecDepth 100000
set_option maxHeartbeats 4000000
namespace Q
open PySem PySem.Spec PyProof.Rows L2 PySem.W
def sortT (zs : List Str) : List Str := zs.mergeSort (dataLe false PyData.str)
theorem sle_trans {α : Type} {O : KeyOrd} {k : α → O.α} {a b c : α} (h1 : sortLe O false k a b = true) (h2 : sortLe O false k b c = true) : sortLe O false k a c = true := by
  simp only [sortLe, cond_false, Bool.not_eq_true'] at h1 h2 ⊢
  cases h : O.blt (k c) (k a) with
  | false => rfl
  | true =>
    rcases O.negTrans _ (k b) _ h with q | q
    · rw [h2] at q; cases q
    · rw [h1] at q; cases q
theorem sle_total {α : Type} {O : KeyOrd} {k : α → O.α} (a b : α) : (sortLe O false k a b || sortLe O false k b a) = true := by
  simp only [sortLe, cond_false]
  cases h1 : O.blt (k b) (k a) with
  | false => rfl
  | true =>
    cases h2 : O.blt (k a) (k b) with
    | false => rfl
    | true =>
      have := O.trans _ _ _ h1 h2
      rw [O.irrefl] at this
      cases this
theorem sle_anti {α : Type} {O : KeyOrd} {k : α → O.α} {a b : α} (h1 : sortLe O false k a b = true) (h2 : sortLe O false k b a = true) : k a = k b := by
  simp only [sortLe, cond_false, Bool.not_eq_true'] at h1 h2
  exact O.total _ _ h2 h1
theorem str_le_trans (a b c : Str) (h1 : dataLe false PyData.str a b = true) (h2 : dataLe false PyData.str b c = true) : dataLe false PyData.str a c = true := sle_trans h1 h2
theorem str_le_total (a b : Str) : (dataLe false PyData.str a b || dataLe false PyData.str b a) = true := sle_total a b
theorem str_toks {a b : Str} (h : keyToks (PyData.str a) = keyToks (PyData.str b)) : a = b := by
  simp only [keyToks] at h
  have h2 : a.cps.toList = b.cps.toList := by simpa using h
  obtain ⟨⟨x⟩⟩ := a
  obtain ⟨⟨y⟩⟩ := b
  have h3 : x = y := h2
  rw [h3]
theorem str_le_anti (a b : Str) (h1 : dataLe false PyData.str a b = true) (h2 : dataLe false PyData.str b a = true) : a = b := str_toks (sle_anti h1 h2)
theorem sortT_perm {xs ys : List Str} (h : xs.Perm ys) : sortT xs = sortT ys :=
  List.Perm.eq_of_pairwise (le := fun a b => dataLe false PyData.str a b = true) (fun a b _ _ => str_le_anti a b) (List.pairwise_mergeSort str_le_trans str_le_total _) (List.pairwise_mergeSort str_le_trans str_le_total _)
    ((List.mergeSort_perm _ _).trans (h.trans (List.mergeSort_perm _ _).symm))
theorem addT_mem (zs : List Str) (y : Str) : ∀ acc : List Str, y ∈ zs.foldl addT acc ↔ y ∈ acc ∨ y ∈ zs := by
  induction zs with
  | nil => simp
  | cons z zs ih =>
    intro acc
    rw [List.foldl_cons, ih]
    unfold addT
    by_cases h : z ∈ acc
    · rw [if_pos h]
      constructor
      · rintro (q | q)
        · exact .inl q
        · exact .inr (List.mem_cons_of_mem _ q)
      · rintro (q | q)
        · exact .inl q
        · rcases List.mem_cons.mp q with rfl | q
          · exact .inl h
          · exact .inr q
    · rw [if_neg h]
      simp [or_assoc, or_left_comm]
theorem addS_mem (zs : List Str) (y : Str) : ∀ acc : List Str, y ∈ zs.foldl addS acc ↔ y ∈ acc ∨ y ∈ zs := by
  induction zs with
  | nil => simp
  | cons z zs ih =>
    intro acc
    rw [List.foldl_cons, ih]
    unfold addS
    by_cases h : z ∈ acc
    · rw [if_pos h]
      constructor
      · rintro (q | q)
        · exact .inl q
        · exact .inr (List.mem_cons_of_mem _ q)
      · rintro (q | q)
        · exact .inl q
        · rcases List.mem_cons.mp q with rfl | q
          · exact .inl h
          · exact .inr q
    · rw [if_neg h]
      simp [or_assoc]
theorem addS_nd : ∀ (zs acc : List Str), acc.Nodup → (zs.foldl addS acc).Nodup
  | [], acc, h => h
  | z :: zs, acc, h => by
    refine addS_nd zs (addS acc z) ?_
    unfold addS
    split
    · exact h
    · rename_i n
      rw [List.nodup_append]
      refine ⟨h, by simp, fun a ha b hb => ?_⟩
      rw [List.mem_singleton.mp hb]
      rintro rfl
      exact n ha
theorem addT_nd : ∀ (zs acc : List Str), acc.Nodup → (zs.foldl addT acc).Nodup
  | [], acc, h => h
  | z :: zs, acc, h => addT_nd zs (addT acc z) (addT_nodup h)
theorem set_once (zs : List Str) : (zs.foldl addT []).Perm (onceS zs) :=
  (List.perm_ext_iff_of_nodup (addT_nd zs [] .nil) (addS_nd zs [] .nil)).mpr fun y => by rw [addT_mem]; exact (addS_mem zs y []).symm
theorem addT_lens : ∀ (zs acc : List Str), (zs.foldl addT acc).length ≤ acc.length + zs.length
  | [], acc => by simp
  | z :: zs, acc => by
    have h1 := addT_lens zs (addT acc z)
    have h2 : (addT acc z).length ≤ acc.length + 1 := addT_len acc z
    rw [List.foldl_cons, List.length_cons]
    omega
end Q

set_option Elab.async false
set_option linter.all false
set_option maxRecDepth 100000
set_option maxHeartbeats 4000000
namespace Q
open PySem PySem.Spec PyProof.Rows L2 PySem.W
/-- the set of texts at a -/
def TxO (w : World) (a : Addr) (l : List Str) : HO := .ext fun h => SetT w h a l
section
variable {X : Cx}
theorem txO_new {w : World} {P : Program} {H : Hp} {h : Heap} {a : Addr} {l : List Str} (R : SetT w h a l) : ObjOk P w H h a (TxO w a l) := by
  have ⟨ob, _, _, _, at_, _⟩ := R
  refine ⟨R, ⟨ob, at_⟩, fun h1 h2 p k => ?_⟩
  obtain ⟨ob', els, num, tb, at', r⟩ := p
  exact ⟨ob', els, num, tb, k ob' at', r⟩
theorem txO_get {pins : List (Addr × Obj)} {σ : L2.St} {H : Hp} {s : Shared} {a : Addr} {l : List Str} (I : Inv X pins σ H s) (ha : H a = some (TxO X.w a l)) : SetT X.w s.heap a l := (I.hok a _ ha).1
def rSetT (w : World) (K : PySem.W.Frag) : List V → Hp → VK → Prop := fun xs H Q => ∃ (q : Addr) (zs : List Str), xs = [.ref q] ∧ SqL K H q (zs.map V.str) ∧ zs.length < 4000 ∧ ∀ p, H p = none → Q (.ref p) (upd H p (TxO w p (zs.foldl addT [])))
theorem cr_setT (hc : X.calm = true) : CallR X (.type "set") (rSetT X.w X.K) := by
  intro pins s σ H vs us Q I r h
  obtain ⟨q, zs, rfl, hs, hz, next⟩ := h
  rw [Vals.ref1 r]
  obtain ⟨its, rv, pl, _⟩ := I.list hs
  refine call_setT (I.ok.hd hc) pl.isList (by simpa using strsAre_of rv) hz fun h' tk R kept => ?_
  exact ⟨.ref _, upd H s.heap.objs.size (TxO X.w s.heap.objs.size (zs.foldl addT [])), I.laid (t' := tk) (fun b u e => kept b u (Heap.lt_size e) e) (Nat.le_refl _) (txO_new R), rfl, next _ (I.hok.fresh (Nat.le_refl _))⟩
def rSortT (w : World) : List V → Hp → VK → Prop := fun vs H Q => ∃ (a : Addr) (l : List Str), vs = [V.ref a] ∧ H a = some (TxO w a l) ∧ l.length ≤ 5000 ∧ ∀ (zs : List Str) (p : Addr), zs.Perm l → H p = none → Q (.ref p) (upd H p (.lst ((sortT zs).map V.str)))
theorem vals_tx : ∀ {out : List Value} {zs : List Str}, EachIs IsTx out zs → Vals (zs.map V.str) out
  | _, _, .nil => .nil
  | _, _, .cons ⟨t, e⟩ r => by
    subst e
    exact .cons ⟨t, rfl⟩ (vals_tx r)
theorem cr_sortT (hc : X.calm = true) (hu : X.A.units + 65 < cLine) : CallR X (.builtin "sorted") (rSortT X.w) := by
  intro pins s σ H vs us Q I r h
  obtain ⟨a, l, rfl, ha, hl, next⟩ := h
  rw [Vals.ref1 r]
  have big := big_line
  refine sorted_setT (txO_get I ha) (I.ok.hd hc) (by omega) (by omega) fun s' p out c zs k g o hp hg hi pm => ?_
  have hlen : ((sortT zs).map V.str).length ≤ sizeLine := by
    have := pm.length_eq
    rw [List.length_map]
    unfold sortT
    rw [List.length_mergeSort]
    omega
  have hn : H p = none := I.hok.fresh hp
  have J : Inv X pins σ (upd H p (.lst ((sortT zs).map V.str))) { s with heap := s'.heap, gens := s'.gens, drawn := s'.drawn, toks := s'.toks } :=
    I.call (ch := []) (Un.laid k hp hn) (I.hok.laid k hp ⟨hlen, out, c, vals_tx hi, hg⟩) (by rw [g]; exact I.bare) (fun _ z => nomatch z)
  have e : s' = { s with heap := s'.heap, gens := s'.gens, drawn := s'.drawn, toks := s'.toks } := by
    cases s'
    cases s
    cases o
    rfl
  rw [e]
  exact ⟨.ref p, _, J, rfl, next zs p pm hn⟩
end
section
variable {X : Cx} {c : Ctx} {e : Expr} {pos p p2 q2 : Pos} {pa ba : Bool} {we : WE c.R} {j : Nat}
/-- sorted(set(e)), e a list of texts -/
def wSortSet {R : Rgn} (we : WE R) : WE R := fun ρ K => we ρ fun x ρ1 => ∃ zs : List Str, x = .lst (zs.map .str) ∧ zs.length < 4000 ∧ K (.lst ((sortT (onceS zs)).map .str)) ρ1
theorem vals_strs {K : PySem.W.Frag} {F : Hp} : ∀ {zs : List Str} {vs : List V}, Reps K F vs (zs.map D.str) → vs = zs.map V.str
  | [], _, h => by cases h; rfl
  | z :: zs, _, h => by
    cases h with
    | cons r t =>
      cases r
      rw [vals_strs t]
      rfl
theorem reps_strs {K : PySem.W.Frag} {F : Hp} : ∀ zs : List Str, Reps K F (zs.map V.str) (zs.map D.str)
  | [] => .nil
  | z :: zs => .cons (.str z) (reps_strs zs)
theorem fe_sortSet (hm : X.mg "sorted" = none) (hm2 : X.mg "set" = none) (hr : Room j X.A) (he : DE X c pa ba e we) (hc : X.calm = true := by rfl) (hg : Gl X "sorted" := by rfl) (hg2 : Gl X "set" := by rfl)
    (h1 : starEach [e] X.env = (false, eval e X.env) :: starEach [] X.env := by rfl) (hpl : (backTo q2 (starEach [] X.env)).any (·.1) = false := by rfl)
    (h3 : starEach [.Call (.Name "set" p2) [e] [] q2] X.env = (false, eval (.Call (.Name "set" p2) [e] [] q2) X.env) :: starEach [] X.env := by rfl) (hpl3 : (backTo pos (starEach [] X.env)).any (·.1) = false := by rfl) :
    FE X c pa (.Call (.Name "sorted" p) [.Call (.Name "set" p2) [e] [] q2] [] pos) (wSortSet we) :=
  ⟨(pe_callB (cr_sortT hc (by have := hr.units; have := hr.un; omega)) hg hm (by decide +kernel) (pa_cons (pe_callTy (cr_setT hc) hg2 hm2 (by decide +kernel) (pa_cons he.pe pa_nil h1) (by decide) (by decide) h1 hpl) pa_nil h3) (by decide) (by decide) h3 hpl3).imp fun σ H Q ⟨ρ, F, O, Kk, S, hw, next⟩ => by
    refine ⟨ρ, F, O, _, S, hw, fun y ρ1 v F1 H1 ⟨zs, hy, hz, hK⟩ S1 fs1 ko1 g1 r1 => ?_⟩
    subst hy
    obtain ⟨l, vs, rfl, hl, rp⟩ := (r1.bv S1).lst S1.sub
    have ev := vals_strs rp
    subst ev
    show rSetT X.w X.K [.ref l] H1 (fun x H2 => rSortT X.w [x] H2 Q)
    refine ⟨l, zs, rfl, SqL.of hl, hz, fun q hq => ?_⟩
    have hlen : (zs.foldl addT []).length ≤ zs.length := by simpa using addT_lens zs []
    show rSortT X.w [.ref q] (upd H1 q _) Q
    refine ⟨q, _, rfl, upd_same, by omega, fun ys p' pm hp => ?_⟩
    have es : sortT ys = sortT (onceS zs) := sortT_perm (pm.trans (set_once zs))
    have gr : Grow F1 H1 F1 (upd H1 q (TxO X.w q (zs.foldl addT []))) := ⟨Same.refl _, fun b u e => by rw [upd_ne (ne_of_none (S1.sub _ _ e) hq)]; exact S1.sub _ _ e, fun b u e => by rw [upd_ne (ne_of_none e hq)]; exact e, fun b h => .inl h⟩
    rw [es]
    exact next _ ρ1 p' (.lst ((sortT (onceS zs)).map V.str)) F1 _ hK (S1.grow gr) fs1 (fun z hz => by rw [gr.at (S1.out z hz).2.2]; exact ko1 z hz) (fun z => ⟨(g1 z).1, (g1 z).2.trans gr⟩) hp (reps_strs _), he.kk⟩
end
end Q

set_option Elab.async false
set_option linter.all false
set_option maxRecDepth 100000
set_option maxHeartbeats 4000000
namespace Q
open PySem PySem.Spec PyProof.Rows L2
/-- y = {k: v for ..} -/
theorem ps_setDcQ {X : Cx} {i : Nat} {y : Str} {py : Pos} {kx vx tg iter : Expr} {ifs : List Expr} {scope : Scope} {own : List (Str × Nat)} {pos spos : Pos} {wi : TI} {g : TG} {tt : TT} {tk tv : TE} (hc : X.calm = true) (hN : X.N.Nodup) (hy : X.N[i]? = some y)
    (hyl : X.env.scope.names.lookup y = some .local) (hsw : swapsWith (.DictComp kx vx [⟨tg, iter, ifs, 0⟩] scope pos) (some (.Name y py)) spos.line X.env = pure true) (hi : PI X tg iter wi) (ok : BlkOk X.N X.env.scope scope own)
    (hg : ∀ (s : Shared) (H : Hp) (C : Addr) (cl : List (Str × Addr)) (fp : List Addr), PG (X.blk s H scope (compEnvC scope cl C X.env) fp) tg g)
    (ht : ∀ (s : Shared) (H : Hp) (C : Addr) (cl : List (Str × Addr)) (fp : List Addr), PTs (X.blk s H scope (compEnvC scope cl C X.env) fp) ifs tt)
    (hk : ∀ (s : Shared) (H : Hp) (C : Addr) (cl : List (Str × Addr)) (fp : List Addr), PE (X.blk s H scope (compEnvC scope cl C X.env) fp) kx tk)
    (he : ∀ (s : Shared) (H : Hp) (C : Addr) (cl : List (Str × Addr)) (fp : List Addr), PE (X.blk s H scope (compEnvC scope cl C X.env) fp) vx tv) (hs : ∀ x, foldedSetIterable iter X.env x = pure x := by intro _; rfl) :
    PS X (.Assign [.Name y py] (.DictComp kx vx [⟨tg, iter, ifs, 0⟩] scope pos) spos) (tAsg (tDc wi g tt tk tv (own.map (·.2))) (gName i)) := by
  constructor
  intro pins s σ H D I h
  rw [exec_Assign_Name_used _ _ _ _ hsw]
  refine wpAny_bind (wpAny_standAt (wpAny_bind ?_))
  show wpAny _ X.A (do let _ ← comprehension (.DictComp kx vx [⟨tg, iter, ifs, 0⟩] scope pos) scope X.env (firstIterPos [⟨tg, iter, ifs, 0⟩] pos) newDict false (eval iter X.env) (some (assign (.Name y py) X.env))) _ _ s
  have h2 : tDc wi g tt tk tv (own.map (·.2)) σ H (fun x H1 => gName i x σ H1 D.nx) := h
  refine wpAny_bind (thn (dc_core (Qf := fun _ s' => SP X pins D .next s') hc hN I hi ok hg ht hk he hs h2 fun L C s' m H' I' q hn f => ?_) fun _ s' hq => wpAny_pure (wpAny_pure hq))
  show wpAny _ _ (assign (.Name y py) X.env (.ref L)) _ _ _
  refine wpAny_assign_Name (store_ok2 (v := V.ref L) I' hN hy (.inl hyl) rfl (fun s2 I2 ⟨a, sb, ha⟩ => ?_) (.inr hyl))
  obtain ⟨f0, f1, f2, f3, f4, f5⟩ := f
  have nC : C ≠ a := ha.elim (fun z => by rw [z]; exact f1) fun z e => f4 y a z e.symm
  exact ⟨m, hn.sameBut sb nC, fun h3 sb3 => ⟨_, H', I2.turned (t' := s2.toks) (fun b o hb e => (sb3.2 b hb).trans e) f0 f1 f3 f4 f5, q⟩⟩
theorem sw_trueE {kx vx : Expr} {gs : List Comprehension} {scope : Scope} {pos py : Pos} {y : Str} {l : Nat} {env : Env} (hk : env.scope.kind = .function) (hy : env.scope.names.lookup y = some .local) (hl : (py.line == pos.line) = true)
    (ha : (scope.names.any fun (n, k) => n == y && (k == .local || k == .cell)) = false) : swapsWith (.DictComp kx vx gs scope pos) (some (.Name y py)) l env = pure true := by
  have k1 : env.kindOf y = some .local := hy
  have k2 : env.blockKind = .function := by
    unfold Env.blockKind
    rw [hk]
    rfl
  unfold swapsWith
  simp only [k2, k1, ha, Expr.pos, hl]
  rfl
section
variable {X : Cx} {c : Ctx} {tg iter kx vx : Expr} {ifs : List Expr} {pos : Pos} {pa pb : Bool} {ts : List Nat} {wi : WI c.R} {g : WG c.R} {wt : WB c.R} {wk wv : WE c.R} {j : Nat}
theorem ps_dc {scope : Scope} {own : List (Str × Nat)} {spos py : Pos} {i : Nat} {y : Str} (hr : Room j X.A) (hN : X.N.Nodup) (hi : DI X c tg iter wi) (ok : BlkOk X.N X.env.scope scope own)
    (hg : ∀ (s : Shared) (H : Hp) (C : Addr) (cl : List (Str × Addr)) (fp : List Addr), DG (X.blk s H scope (compEnvC scope cl C X.env) fp) c tg ts g) (ht : ∀ (s : Shared) (H : Hp) (C : Addr) (cl : List (Str × Addr)) (fp : List Addr), DTs (X.blk s H scope (compEnvC scope cl C X.env) fp) c ifs wt)
    (he : ∀ (s : Shared) (H : Hp) (C : Addr) (cl : List (Str × Addr)) (fp : List Addr), DE (X.blk s H scope (compEnvC scope cl C X.env) fp) c pa false kx wk) (he2 : ∀ (s : Shared) (H : Hp) (C : Addr) (cl : List (Str × Addr)) (fp : List Addr), DE (X.blk s H scope (compEnvC scope cl C X.env) fp) c pb false vx wv)
    (hsw : swapsWith (.DictComp kx vx [⟨tg, iter, ifs, 0⟩] scope pos) (some (.Name y py)) spos.line X.env = pure true)
    (hy : X.N[i]? = some y := by rfl) (hyl : X.env.scope.names.lookup y = some .local := by rfl) (hv : ∀ i ∈ ts, i ∈ own.map (·.2) := by decide) (hk : X.K = c.K := by rfl) (hc : X.calm = true := by rfl)
    (hs : ∀ x, foldedSetIterable iter X.env x = pure x := by intro _; rfl) : PS X (.Assign [.Name y py] (.DictComp kx vx [⟨tg, iter, ifs, 0⟩] scope pos) spos) (tAsg (liftF c false (wDc wi g wt wk wv (own.map (·.2)))) (gName i)) :=
  (ps_setDcQ hc hN hy hyl hsw hi.pi ok (fun s H C cl fp => (hg s H C cl fp).pg) (fun s H C cl fp => (ht s H C cl fp).pts) (fun s H C cl fp => (he s H C cl fp).pe) (fun s H C cl fp => (he2 s H C cl fp).pe) hs).imp fun E σ H h => dc_ok h hv
end
end Q

set_option Elab.async false
set_option linter.all false
set_option maxRecDepth 100000
set_option maxHeartbeats 4000000
namespace L03
open PySem PySem.Spec PyProof.Rows L2 Q
/-! the class of the rules -/
section
variable {R : Rgn} {g : WG R} {wt : WB R} {wk wv : WE R} {us : List Nat} {K : List Key → List D → DS R → Prop}
theorem dcGo_ind (I : List D → List Key → List D → DS R → Prop) (st : ∀ (d : D) (rest : List D) (ks : List Key) (vs : List D) (N : List Key → List D → DS R → Prop) (ρ : DS R), (∀ ks' vs' ρ', I rest ks' vs' ρ' → N ks' vs' ρ') → I (d :: rest) ks vs ρ →
      g d ρ fun ρ2 => wt ρ2 fun b ρ3 => if b = true then wk ρ3 fun y ρ4 => wv ρ4 fun z ρ5 => ∃ k, y = kD k ∧ N (putKs ks k) (putVs ks vs k z) ⟨ρ5.g, wipeL ρ5.sl us⟩ else N ks vs ⟨ρ3.g, wipeL ρ3.sl us⟩)
    (e : ∀ ks vs ρ, I [] ks vs ρ → K ks vs ρ) : ∀ (ds : List D) (ks : List Key) (vs : List D) (ρ : DS R), I ds ks vs ρ → dcGo g wt wk wv us K ds ks vs ρ
  | [], ks, vs, ρ, h => by
    unfold dcGo
    exact e ks vs ρ h
  | d :: ds, ks, vs, ρ, h => by
    unfold dcGo
    exact st d ds ks vs (fun ks' vs' ρ' => dcGo g wt wk wv us K ds ks' vs' ρ') ρ (fun ks' vs' ρ' h' => dcGo_ind I st e ds ks' vs' ρ' h') h
end
def oRules (C : Addr) (xs : List D) : D := .ins C [("_rules" : Str), "memory"] [.tup xs, .dct [] []]
def mInit (CB CE CU C : Addr) : WMX := fun ds Kk Xk => mRules CB CE CU ds (fun d => Kk (.ins C ["_rules", "memory"] [d, .dct [] []])) Xk
def okRs (rs : List D) : Prop := (∀ r ∈ rs, okRule r) ∧ rs.length ≤ 50
def mOwnR (C : Addr) (g : List D → D) : WM := fun ds Kk => ∃ rs, ds = [oRules C rs] ∧ okRs rs ∧ Kk (g rs)
def headN : D → Str
  | .tup (h :: _) => nmA h
  | _ => ""
def madeN (rs : List D) : List Str := sortT (onceS (rs.map headN))
def givenN (rs : List D) : List Str := sortT (onceS (((rs.flatMap atomsR).map nmA).filter fun z => !decide (z ∈ rs.map headN)))
def aboutF (x : D) : Nat → List Str → List D
  | _, [] => []
  | i, z :: zs => if deq (.str z) x = true then .int (i : Nat) :: aboutF x (i + 1) zs else aboutF x (i + 1) zs
theorem aboutF_len (x : D) : ∀ (zs : List Str) (i : Nat), (aboutF x i zs).length ≤ zs.length
  | [], _ => by simp [aboutF]
  | z :: zs, i => by
    have := aboutF_len x zs (i + 1)
    unfold aboutF
    split
    · rw [List.length_cons, List.length_cons]; omega
    · rw [List.length_cons]; omega
theorem okRule.head {d : D} (h : okRule d) : ∃ z ts body, d = .tup [.tup (.str z :: ts), .tup body] ∧ headN d = z ∧ strNm z = true := by
  obtain ⟨hd, body, rfl, ⟨z, ts, rfl, h1, h2, h3⟩, ob, lb⟩ := h
  exact ⟨z, ts, body, rfl, rfl, h1⟩
theorem sortD_strs (zs : List Str) : sortD id (zs.map D.str) = (sortT zs).map D.str := by
  unfold sortD sortT
  exact (PySem.W.sort_maps (r := PySem.W.dataLe false PyData.str) (s := PySem.W.dataLe false fun d => pk (id d)) D.str (l := zs) (fun a _ b _ => rfl)).symm
theorem pk_strs (zs : List Str) : (zs.map D.str).map pk = zs.map PyData.str := by
  rw [List.map_map]
  rfl
/-- sorted of texts -/
theorem wSortL_strs {R : Rgn} {we : WE R} {ρ ρ1 : DS R} {K : D → DS R → Prop} (zs : List Str) (h : ∀ K', K' (.lst (zs.map D.str)) ρ1 → we ρ K') (k : K (.lst ((sortT zs).map .str)) ρ1) : wSortL we ρ K := by
  refine h _ ⟨zs.map D.str, rfl, fun d hd => ?_, fun d hd => ?_, ?_, ?_, ?_⟩
  · obtain ⟨z, _, rfl⟩ := List.mem_map.mp hd
    rfl
  · obtain ⟨z, _, rfl⟩ := List.mem_map.mp hd
    show (PyData.str z).depth ≤ 40
    simp [PyData.depth]
  · rw [pk_strs]; exact tx_alike zs
  · rw [pk_strs]; exact tx_sortable zs
  · rw [sortD_strs]; exact k
theorem keys_strs (acc : List Str) (vs : List D) : keysD (.dct ((acc.map Sum.inr : List Key).map kD) vs) = some (.lst (acc.map D.str)) := by
  show some (D.lst ((acc.map Sum.inr : List Key).map kD)) = _
  rw [List.map_map]
  rfl
section
variable {P : Program} {w : World} {K : PySem.W.Frag} {mg : Str → Option Value} {base : Heap} {f : Addr} {fd : FuncData} {C CB CE CU CN : Addr}
-- Rules.__init__: slots 0 self, 1 rules
abbrev s_Rules___init__ : Stmt := (inClass (top 40) 0)
abbrev N_sc_Rules___init__ : List Str := ["self", "rules"]
theorem sc_Rules___init__ : FnScope N_sc_Rules___init__ ["self", "rules"] (defScope s_Rules___init__) := ⟨rfl, rfl, rfl, by decide +kernel, rfl, by decide +kernel, by decide +kernel⟩
theorem ok_Rules_init (F : FnP K "__init__" "Rules.__init__" s_Rules___init__ f fd) (hC : Cls K C) (no : NoAttr K C "_rules") (nom : NoAttr K C "memory") (C_checked_rules : CalX P w K mg base "checked_rules" 9 ["rules"] (spX K (mRules CB CE CU))) :
    FnOk P w K mg base (L2.CX P w) 10 f fd ["self", "rules"] (spI K C (mInit CB CE CU C)) := by
  obtain ⟨g, gd, hm, hkp, G, hb⟩ := C_checked_rules.ex
  refine F.ok sc_Rules___init__ (fun vs H Q E h => ?_) (fun cdv A outer s H vs Q E hr h => ?_)
  · obtain ⟨x, dx, us, ds, F0, Kk, Xk, rfl, hx, fx, sub, r, ⟨y, rfl, hy, hs, hres⟩, k, kx⟩ := h
    rw [List.length_cons, r.length]
    rfl
  · obtain ⟨x, dx, us, ds, F0, Kk, Xk, rfl, hx, fx, sub, r, ⟨y, rfl, hy, hs, hres⟩, k, kx⟩ := h
    cases r with
    | cons r1 r2 =>
      cases r2
      refine ⟨_, pss_cons (ps_fld (pv 0) (pe_call G hr (by rfl) hm hkp hb .nil pass_body (pa_cons (pv 1) pa_nil)) rfl) (pss_one (ps_fld (pv 0) pe_dnewK rfl)), ?_⟩
      refine ⟨_, rfl, [y], F0, fun d => Kk (.ins C ["_rules", "memory"] [d, .dct [] []]), Xk, sub, .cons r1 .nil, ⟨y, rfl, hy, hs, hres⟩, fun d v F' H' hd gr rp => ?_, fun C' ns xs F' H' d hX gr xd => kx C' ns xs F' H' d hX gr xd⟩
      have fx' : F' x = none := by
        cases q : F' x with
        | none => rfl
        | some o =>
          rcases gr.old x (by rw [q]; exact fun e => by cases e) with h | h
          · exact absurd fx h
          · rw [hx] at h; cases h
      refine ⟨_, rfl, x, C, dx, [], rfl, gr.hs _ _ hx, hC, no, by decide, fun M hM => ?_⟩
      have nx : M ≠ x := fun e => by
        rw [e, upd_same] at hM
        cases hM
      have hM2 : H' M = none := by rw [upd_ne nx] at hM; exact hM
      refine ⟨_, rfl, x, C, dx, [("_rules", v)], rfl, by rw [upd_ne nx.symm, upd_same]; rfl, hC, nom, by simp, ?_⟩
      have e3 : upd (upd (upd H' x (.ins C dx [("_rules", v)])) M (.dK [])) x (.ins C dx [("_rules", v), ("memory", .ref M)]) = upd (upd H' M (.dK [])) x (.ins C dx [("_rules", v), ("memory", .ref M)]) := by
        funext b
        by_cases z : b = x
        · rw [z, upd_same, upd_same]
        · rw [upd_ne z, upd_ne z]
          by_cases y : b = M
          · rw [y, upd_same, upd_same]
          · rw [upd_ne y, upd_ne y, upd_ne z]
      have al : Al F' H' (upd F' M (.dK [])) (upd H' M (.dK [])) := Al.one hM2
      have gr2 := gr.trans (al.grow gr.sub)
      have fxM : upd F' M (.dK []) x = none := by rw [upd_ne nx.symm]; exact fx'
      have := k ["_rules", "memory"] [d, .dct [] []] [("_rules", v), ("memory", .ref M)] _ _ hd gr2 fxM rfl (.cons (rp.same (al.fs gr.sub)) (.cons (.dK (kvs := []) upd_same rfl .nil) .nil))
      rw [← e3] at this
      exact this
-- Rules.listed: slots 0 self
abbrev s_Rules_listed : Stmt := (inClass (top 40) 1)
abbrev N_sc_Rules_listed : List Str := ["self"]
theorem sc_Rules_listed : FnScope N_sc_Rules_listed ["self"] (defScope s_Rules_listed) := ⟨rfl, rfl, rfl, by decide +kernel, rfl, by decide +kernel, by decide +kernel⟩
theorem ok_Rules_listed (F : FnP K "listed" "Rules.listed" s_Rules_listed f fd) (T : Tx K mg) (I : IsC K C) (no : NoAttr K C "_rules") : FnOk P w K mg base CX0 1 f fd ["self"] (spF K (mOwnR C .lst)) :=
  FnF F sc_Rules_listed (fun ds Kk h => by obtain ⟨_, rfl, _⟩ := h; rfl) fun cdv A outer s H Fz E hr => ⟨_, 
(ds_one (ds_retF (fe_list T.b_list (de_fld (C := C) I.cls no (de_v (i := 0))))))
  , fun ds Kk h => by
    obtain ⟨rs, rfl, ok, k⟩ := h
    exact ⟨_, rfl, _, _, _, rfl, rfl, _, rfl, k⟩⟩
-- Rules.__len__: slots 0 self
abbrev s_Rules___len__ : Stmt := (inClass (top 40) 6)
abbrev N_sc_Rules___len__ : List Str := ["self"]
theorem sc_Rules___len__ : FnScope N_sc_Rules___len__ ["self"] (defScope s_Rules___len__) := ⟨rfl, rfl, rfl, by decide +kernel, rfl, by decide +kernel, by decide +kernel⟩
theorem ok_Rules_len (F : FnP K "__len__" "Rules.__len__" s_Rules___len__ f fd) (T : Tx K mg) (I : IsC K C) (no : NoAttr K C "_rules") : FnOk P w K mg base CX0 1 f fd ["self"] (spD K (mOwnR C fun xs => .int (xs.length : Nat))) :=
  FnD F sc_Rules___len__ (fun ds Kk h => by obtain ⟨_, rfl, _⟩ := h; rfl) fun cdv A outer s H Fz E hr => ⟨_, 
(ds_one (ds_ret (de_len T.b_len (de_fld (C := C) I.cls no (de_v (i := 0))))))
  , fun ds Kk h => by
    obtain ⟨rs, rfl, ok, k⟩ := h
    exact ⟨_, rfl, _, _, _, rfl, rfl, _, rfl, k⟩⟩
-- Rules.made: slots 0 self, 1 found, 2 head, 3 body
abbrev s_Rules_made : Stmt := (inClass (top 40) 2)
abbrev N_sc_Rules_made : List Str := ["self", "found", "head", "body"]
theorem sc_Rules_made : FnScope N_sc_Rules_made ["self"] (defScope s_Rules_made) := ⟨rfl, rfl, rfl, by decide +kernel, rfl, by decide +kernel, by decide +kernel⟩
theorem ok_Rules_made (F : FnP K "made" "Rules.made" s_Rules_made f fd) (T : Tx K mg) (I : IsC K C) (no : NoAttr K C "_rules") : FnOk P w K mg base CX0 1 f fd ["self"] (spF K (mOwnR C fun rs => .lst ((madeN rs).map .str))) :=
  FnF F sc_Rules_made (fun ds Kk h => by obtain ⟨_, rfl, _⟩ := h; rfl) fun cdv A outer s H Fz E hr => ⟨_, 
(ds_cons (ds_setP (i := 1) (ps_dc (own := [("head", 2), ("body", 3)]) hr sc_Rules_made.nd (di_seq (de_fld (C := C) I.cls no (de_v (i := 0)))) (blkOk_by (own := [("head", 2), ("body", 3)]) (N := N_sc_Rules_made) (sc := defScope s_Rules_made) (by decide +kernel)) (fun _ _ _ _ _ => (dg_tup (n := 2) (dgs_cons (dg_name (i := 2) sc_Rules_made.nd) (dgs_cons (dg_name (i := 3) sc_Rules_made.nd) dgs_nil)))) (fun _ _ _ _ _ => dts_nil) (fun _ _ _ _ _ => (de_ixA (de_v (i := 2)) de_int)) (fun _ _ _ _ _ => de_bl) (sw_trueE rfl rfl rfl (by decide +kernel))))
 (ds_one (ds_retF (fe_sort T.b_sorted hr (FE.de (fe_listK T.b_list (de_v (i := 1))))))))
  , fun ds Kk h => by
    obtain ⟨rs, rfl, ok, k⟩ := h
    let mk : Option DV → DS noR := fun x1 => ⟨noG, [some (.fz (oRules C rs)), x1, none, none]⟩
    refine ⟨_, rfl, _, _, .tup rs, rfl, rfl, rs, rfl, by have := ok.2; omega, fun i m d' q => ?_, ?_⟩
    · have e : i = 2 ∨ i = 3 := by simpa using m
      rcases e with rfl | rfl <;> cases q
    refine dcGo_ind (fun rest ks vs ρ => ∃ acc zs, rest.map headN = zs ∧ (∀ r ∈ rest, okRule r) ∧ ks = acc.map Sum.inr ∧ zs.foldl addS acc = onceS (rs.map headN) ∧ ρ = mk none) ?_ ?_ _ _ _ _ ⟨[], _, rfl, ok.1, rfl, rfl, rfl⟩
    · rintro d rest ks vs N ρ hN ⟨acc, zs, hr1, hok, rfl, hf, rfl⟩
      obtain ⟨z, ts, body, rfl, hz, _⟩ := (hok d List.mem_cons_self).head
      subst hr1
      rw [List.map_cons, hz, List.foldl_cons] at hf
      refine ⟨_, rfl, rfl, _, _, rfl, _, _, rfl, rfl, ?_⟩
      refine ⟨_, rfl, .str z, by simp [ixN], .inr z, rfl, hN _ _ _ ⟨addS acc z, _, rfl, fun r hr => hok r (List.mem_cons_of_mem _ hr), putKs_str acc z, hf, rfl⟩⟩
    · rintro ks vs ρ ⟨acc, zs, hr1, hok, rfl, hf, rfl⟩
      have e : acc = onceS (rs.map headN) := by rw [← hr1] at hf; exact hf
      subst e
      let ρ9 : DS noR := mk (some (.fz (.dct (((onceS (rs.map headN)).map Sum.inr : List Key).map kD) vs)))
      show wSortL (wUn keysD (wV 1)) ρ9 (fun d _ => Kk d)
      exact wSortL_strs (onceS (rs.map headN)) (ρ1 := ρ9) (fun K' k' => ⟨_, rfl, _, keys_strs _ _, k'⟩) k⟩
-- Rules.given: slots 0 self, 1 made, 2 found, 3 rule, 4 atom, 5 head, 6 body
abbrev s_Rules_given : Stmt := (inClass (top 40) 3)
abbrev N_sc_Rules_given : List Str := ["self", "made", "found", "rule", "atom", "head", "body"]
theorem sc_Rules_given : FnScope N_sc_Rules_given ["self"] (defScope s_Rules_given) := ⟨rfl, rfl, rfl, by decide +kernel, rfl, by decide +kernel, by decide +kernel⟩
theorem ok_Rules_given (F : FnP K "given" "Rules.given" s_Rules_given f fd) (T : Tx K mg) (I : IsC K C) (no : NoAttr K C "_rules") (C_atoms_of : Cal P w K mg base "atoms_of" 2 ["rule"] (spF K (wF okr1 fun ds => .lst (atomsR (ds.headD .non))))) :
    FnOk P w K mg base CX0 3 f fd ["self"] (spF K (mOwnR C fun rs => .lst ((givenN rs).map .str))) :=
  FnF F sc_Rules_given (fun ds Kk h => by obtain ⟨_, rfl, _⟩ := h; rfl) fun cdv A outer s H Fz E hr => ⟨_, 
(ds_cons (ds_setP (i := 1) (ps_dc (own := [("head", 5), ("body", 6)]) hr sc_Rules_given.nd (di_seq (de_fld (C := C) I.cls no (de_v (i := 0)))) (blkOk_by (own := [("head", 5), ("body", 6)]) (N := N_sc_Rules_given) (sc := defScope s_Rules_given) (by decide +kernel)) (fun _ _ _ _ _ => (dg_tup (n := 2) (dgs_cons (dg_name (i := 5) sc_Rules_given.nd) (dgs_cons (dg_name (i := 6) sc_Rules_given.nd) dgs_nil)))) (fun _ _ _ _ _ => dts_nil) (fun _ _ _ _ _ => (de_ixA (de_v (i := 5)) de_int)) (fun _ _ _ _ _ => de_bl) (sw_trueE rfl rfl rfl (by decide +kernel))))
 (ds_cons (ds_new (i := 2) sc_Rules_given.nd fe_d0)
 (ds_cons (ds_for (di_seq (de_fld (C := C) I.cls no (de_v (i := 0)))) (dg_name (i := 3) sc_Rules_given.nd)
  (ds_one (ds_for (di_seq (FE.de (fe_call C_atoms_of hr (da_cons (de_v (i := 3)) da_nil)))) (dg_name (i := 4) sc_Rules_given.nd)
  (ds_one (ds_if (dt_dni hr (de_ixA (de_v (i := 4)) de_int) (de_v (i := 1))) (ds_one (ds_dput hr (i := 2) de_bl (de_ixA (de_v (i := 4)) de_int))) ds_nil)))))
 (ds_one (ds_retF (fe_sort T.b_sorted hr (FE.de (fe_listK T.b_list (de_b (i := 2))))))))))
  , fun ds Kk h => by
    obtain ⟨rs, rfl, ok, k⟩ := h
    let md (vs : List D) : D := .dct (((onceS (rs.map headN)).map Sum.inr : List Key).map kD) vs
    refine ⟨_, rfl, _, _, .tup rs, rfl, rfl, rs, rfl, by have := ok.2; omega, fun i m d' q => ?_, ?_⟩
    · have e : i = 5 ∨ i = 6 := by simpa using m
      rcases e with rfl | rfl <;> cases q
    let mk0 : DS noR := ⟨noG, [some (.fz (oRules C rs)), none, none, none, none, none, none]⟩
    refine dcGo_ind (fun rest ks vs ρ => ∃ acc zs, rest.map headN = zs ∧ (∀ r ∈ rest, okRule r) ∧ ks = acc.map Sum.inr ∧ zs.foldl addS acc = onceS (rs.map headN) ∧ ρ = mk0) ?_ ?_ _ _ _ _ ⟨[], _, rfl, ok.1, rfl, rfl, rfl⟩
    · rintro d rest ks vs N ρ hN ⟨acc, zs, hr1, hok, rfl, hf, rfl⟩
      obtain ⟨z, ts, body, rfl, hz, _⟩ := (hok d List.mem_cons_self).head
      subst hr1
      rw [List.map_cons, hz, List.foldl_cons] at hf
      refine ⟨_, rfl, rfl, _, _, rfl, _, _, rfl, rfl, ?_⟩
      refine ⟨_, rfl, .str z, by simp [ixN], .inr z, rfl, hN _ _ _ ⟨addS acc z, _, rfl, fun r hr => hok r (List.mem_cons_of_mem _ hr), putKs_str acc z, hf, rfl⟩⟩
    · rintro ks vs ρ ⟨acc, zs, hr1, hok, rfl, hf, rfl⟩
      have e : acc = onceS (rs.map headN) := by rw [← hr1] at hf; exact hf
      subst e
      let hs := rs.map headN
      let inN : D → Bool := fun a => !decide (nmA a ∈ hs)
      let mk : List Str → List D → Option DV → Option DV → DS noR := fun acc vs2 x3 x4 => ⟨noG, [some (.fz (oRules C rs)), some (.fz (md vs)), some (.own (.dct ((acc.map Sum.inr : List Key).map kD) vs2)), x3, x4, none, none]⟩
      have hmem : ∀ z, ((.inr z : Key) ∈ ((onceS (rs.map headN)).map Sum.inr : List Key)) ↔ z ∈ hs := fun z => by
        rw [List.mem_map]
        constructor
        · rintro ⟨y, hy, e⟩
          obtain rfl : y = z := Sum.inr.inj e
          exact (addS_mem hs y []).mp hy |>.resolve_left (fun h => nomatch h)
        · exact fun h => ⟨z, (addS_mem hs z []).mpr (.inr h), rfl⟩
      have hok50 := ok.2
      refine ⟨_, rfl, _, _, .tup rs, rfl, rfl, rs, rfl, ?_⟩
      refine forGo_ind (fun rest ρ => ∃ acc vs2 x3 x4, ρ = mk acc vs2 x3 x4 ∧ (((rest.flatMap atomsR).filter inN).map nmA).foldl addS acc = onceS (((rs.flatMap atomsR).filter inN).map nmA) ∧ acc.length + 901 * rest.length ≤ 50000 ∧ ∀ r ∈ rest, okRule r) ?_ ?_ _ _ ⟨[], [], none, none, rfl, rfl, by simp; omega, ok.1⟩
      · rintro r rest N ρ hN ⟨acc, vs2, x3, x4, rfl, hf, hlen, hok⟩
        obtain ⟨ha1, ha2⟩ := atomsR_ok (hok r List.mem_cons_self)
        rw [List.length_cons] at hlen
        refine ⟨r, rfl, ⟨r, rfl, hok r List.mem_cons_self⟩, atomsR r, rfl, ?_⟩
        rw [List.flatMap_cons, List.filter_append, List.map_append, List.foldl_append] at hf
        refine forGo_ind (fun ar ρ => ∃ acc' vs' x4', ρ = mk acc' vs' (some (.fz r)) x4' ∧ ((ar.filter inN).map nmA).foldl addS acc' = (((atomsR r).filter inN).map nmA).foldl addS acc ∧ acc'.length + ar.length ≤ acc.length + (atomsR r).length ∧ ∀ a ∈ ar, isAt a) ?_ ?_ _ _ ⟨acc, vs2, x4, rfl, rfl, Nat.le_refl _, ha1⟩
        · rintro a ar N2 ρ hN2 ⟨acc', vs', x4', rfl, hf', hlen', hat⟩
          obtain ⟨ys, rfl, z, ts, rfl, h1, h2, h3⟩ := hat a List.mem_cons_self
          rw [List.length_cons] at hlen'
          refine ⟨_, rfl, .str z, by simp [ixN], ?_⟩
          refine ⟨md vs, rfl, .inr z, ((onceS (rs.map headN)).map Sum.inr : List Key), vs, rfl, rfl, ?_⟩
          by_cases hm : z ∈ hs
          · have e1 : xr true (decide ((.inr z : Key) ∈ ((onceS (rs.map headN)).map Sum.inr : List Key))) = false := by rw [decide_eq_true ((hmem z).mpr hm)]; rfl
            refine ⟨_, rfl, ?_⟩
            rw [e1]
            refine itF (hN2 _ ⟨acc', vs', _, rfl, ?_, by omega, fun b hb => hat b (List.mem_cons_of_mem _ hb)⟩)
            rw [← hf', List.filter_cons_of_neg (by simp [inN, nmA, hm])]
          · have e1 : xr true (decide ((.inr z : Key) ∈ ((onceS (rs.map headN)).map Sum.inr : List Key))) = true := by rw [decide_eq_false (fun q => hm ((hmem z).mp q))]; rfl
            refine ⟨_, rfl, ?_⟩
            rw [e1]
            refine itT ?_
            have hl2 : (addS acc' z).length ≤ acc'.length + 1 := by unfold addS; split <;> simp
            refine ⟨⟨_, rfl⟩, _, rfl, .str z, by simp [ixN], .inr z, acc'.map Sum.inr, vs', rfl, rfl, by rw [List.length_map]; omega, hN2 _ ⟨addS acc' z, putVs (acc'.map Sum.inr) vs' (.inr z) (.bl true), some (.fz (.tup (.str z :: ts))), ?_, ?_, by omega, fun b hb => hat b (List.mem_cons_of_mem _ hb)⟩⟩
            · rw [putKs_str]
              rfl
            · rw [← hf', List.filter_cons_of_pos (by simp [inN, nmA, hm]), List.map_cons, List.foldl_cons]
              rfl
        · rintro ρ ⟨acc', vs', x4', rfl, hf', hlen', hat⟩
          refine hN _ ⟨acc', vs', _, _, rfl, ?_, by simp at hlen'; omega, fun q hq => hok q (List.mem_cons_of_mem _ hq)⟩
          have hf' : acc' = (((atomsR r).filter inN).map nmA).foldl addS acc := hf'
          rw [hf']
          exact hf
      · rintro ρ ⟨acc, vs2, x3, x4, rfl, hf, hlen, hok⟩
        have hf : acc = onceS (((rs.flatMap atomsR).filter inN).map nmA) := hf
        have e2 : ((rs.flatMap atomsR).filter inN).map nmA = ((rs.flatMap atomsR).map nmA).filter fun z => !decide (z ∈ rs.map headN) := by
          rw [List.filter_map]
          rfl
        rw [e2] at hf
        subst hf
        let gv := onceS (((rs.flatMap atomsR).map nmA).filter fun z => !decide (z ∈ rs.map headN))
        show wSortL (wUn keysD (wB 2)) (mk gv vs2 x3 x4) (fun d _ => Kk d)
        exact wSortL_strs gv (ρ1 := mk gv vs2 x3 x4) (fun K' k' => .inr ⟨_, rfl, _, keys_strs _ _, k'⟩) k⟩
end
end L03

set_option Elab.async false
set_option linter.all false
set_option maxRecDepth 100000
set_option maxHeartbeats 4000000
namespace L03
open PySem PySem.Spec PyProof.Rows L2 Q
/-- is it the number of one of so many rows -/
def isNum (x : D) (n : Nat) : Bool := match x with
  | .int i => decide (0 ≤ i) && decide (i < (n : Int))
  | _ => false
def okNum : List D → Prop := fun ds => ∃ x rs, ds = [x, .tup rs] ∧ tame x ∧ rs.length ≤ 100000
theorem okPart.norm {p : D} (h : okPart p) : asPart p = p := by
  rcases h with ⟨xs, rfl, o⟩ | ⟨xs, rfl, o⟩ | ⟨a, b, rfl, h1, h2⟩
  · have e := asAtom_ok (d := .tup xs) rfl o
    obtain ⟨z, ts, rfl, h1, h2, h3⟩ := o
    obtain ⟨n1, n2⟩ := nm_not h1
    have : asPart (.tup (.str z :: ts)) = asAtom (.tup (.str z :: ts)) := by
      simp [asPart, n1, n2]
    rw [this, e]
  · have e := asAtom_ok (d := .tup xs) rfl o
    simp [asPart, asNot, e]
  · simp [asPart, asUnl, h1, h2, ne_un]
theorem okRule.norm {r : D} (h : okRule r) : asRule r = r := by
  obtain ⟨hd, body, rfl, o, ob, lb⟩ := h
  have e1 := asAtom_ok (d := .tup hd) rfl o
  have e2 : asBody (.tup body) = .tup body := by
    have e3 : body.map asPart = body := (List.map_congr_left (g := fun p => p) fun p hp => (ob p hp).norm).trans (List.map_id' body)
    have e4 : (body.any fun x => isNon (asPart x)) = false := by
      rw [List.any_eq_false]
      intro p hp
      rw [(ob p hp).norm]
      rcases ob p hp with ⟨xs, rfl, o⟩ | ⟨xs, rfl, o⟩ | ⟨a, b, rfl, h1, h2⟩ <;> exact (fun h => nomatch h)
    simp [asBody, e4, e3]
  simp [asRule, e1, e2, isNon]
theorem cut_take (xs : List D) (i : Nat) (h : i ≤ xs.length) : Q.cutD xs none (some (i : Nat)) = xs.take i := by
  simp [Q.cutD, HT.sIx]
  have h1 : ¬ (i : Int) < 0 := by omega
  rw [if_neg h1]
  omega
theorem cut_drop (xs : List D) (i : Nat) (h : i ≤ xs.length) : Q.cutD xs (some (i : Nat)) none = xs.drop i := by
  simp [Q.cutD, HT.sIx]
  have h1 : ¬ (i : Int) < 0 := by omega
  rw [if_neg h1, Nat.min_eq_left h]
  exact List.take_of_length_le (by rw [List.length_drop]; omega)
theorem aboutF_cons (x : D) (i : Nat) (z : Str) (zs : List Str) : aboutF x i (z :: zs) = if deq (.str z) x = true then .int (i : Nat) :: aboutF x (i + 1) zs else aboutF x (i + 1) zs := rfl
def mAbout (C : Addr) : WM := fun ds Kk => ∃ rs x, ds = [oRules C rs, x] ∧ okRs rs ∧ isDat x = true ∧ dep x ≤ 50 ∧ Kk (.lst (aboutF x 0 (rs.map headN)))
def mWithout (CB CE CU CN C : Addr) : WMX := fun ds Kk Xk => ∃ rs x, ds = [oRules C rs, x] ∧ okRs rs ∧ tame x ∧ if isNum x rs.length = true then ∃ i : Nat, x = .int (i : Nat) ∧ mInit CB CE CU C [.tup (rs.take i ++ rs.drop (i + 1))] Kk Xk else Xk CN ["number"] [x]
def mOr (CB CE CU C : Addr) : WMX := fun ds Kk Xk => ∃ rs ss, ds = [oRules C rs, oRules C ss] ∧ okRs rs ∧ okRs ss ∧ mInit CB CE CU C [.tup (rs ++ ss)] Kk Xk
def eqRu (C : Addr) (xs : List D) (y : D) (b : Bool) : Prop := (∃ ys, y = oRules C ys ∧ isDats ys = true ∧ b = deqs xs ys) ∨ ((∃ t, kD2 y = some t) ∧ b = false)
def mEqR (C : Addr) : WM := fun ds Kk => ∃ xs y b, ds = [oRules C xs, y] ∧ isDats xs = true ∧ deps xs ≤ 50 ∧ eqRu C xs y b ∧ Kk (.bl b)
section
variable {P : Program} {w : World} {K : PySem.W.Frag} {mg : Str → Option Value} {base : Heap} {f : Addr} {fd : FuncData} {C CB CE CU CN : Addr}
-- is_number_of: slots 0 thing, 1 rows
abbrev s_is_number_of : Stmt := (top 41)
abbrev N_sc_is_number_of : List Str := ["thing", "rows"]
theorem sc_is_number_of : FnScope N_sc_is_number_of ["thing", "rows"] (defScope s_is_number_of) := ⟨rfl, rfl, rfl, by decide +kernel, rfl, by decide +kernel, by decide +kernel⟩
theorem ok_is_number_of (F : FnP K "is_number_of" "is_number_of" s_is_number_of f fd) (T : Tx K mg) (C_is_integer : Cal P w K mg base "is_integer" 1 ["thing"] (spD K (wF tame1 fun ds => .bl (isInt (ds.headD .non))))) :
    FnOk P w K mg base CX0 2 f fd ["thing", "rows"] (spD K (wF okNum fun ds => .bl (isNum (ds.headD .non) ((sqOf (ds.getD 1 .non)).getD []).length))) :=
  FnD F sc_is_number_of (fun ds Kk h => by obtain ⟨⟨_, _, rfl, _⟩, _⟩ := h; rfl) fun cdv A outer s H Fz E hr => ⟨_, 
(ds_one (ds_ret (de_and (de_call C_is_integer hr (da_cons (de_v (i := 0)) da_nil)) (de_one (de_chain c_le c_lt de_int (de_v (i := 0)) (de_len T.b_len (de_v (i := 1))))))))
  , fun ds Kk h => by
    obtain ⟨⟨x, rs, rfl, hx, hl⟩, k⟩ := h
    replace k : Kk (.bl (isNum x rs.length)) := k
    cases x with
    | int i =>
      simp [sRet, wAndV, wOrV, wNotV, wUn, wOp, wV, wB, wO, wC, wIfE, wTest, wTruth, wBand, wBor, wBnot, wChain, wSl, wPart, wTup, wLst, wCons, wNil, wCall, sIf, sSeq, sSet, sNew, sNext, sPass, sApp, sExt, sDrop, sAsg, gNm, gTp, gCs, gNl, startD, DS.put, wF, isaD, eqD, inSq, isInt, isNum] at k ⊢
      by_cases h0 : i < 0
      · have h1 : ¬ 0 ≤ i := by omega
        simp [h1] at k
        exact .inl ⟨h0, k⟩
      · have h1 : 0 ≤ i := by omega
        simp [h1] at k
        exact .inr ⟨h1, k⟩
    | str z =>
      simp [sRet, wAndV, wOrV, wNotV, wUn, wOp, wV, wB, wO, wC, wIfE, wTest, wTruth, wBand, wBor, wBnot, wChain, wSl, wPart, wTup, wLst, wCons, wNil, wCall, sIf, sSeq, sSet, sNew, sNext, sPass, sApp, sExt, sDrop, sAsg, gNm, gTp, gCs, gNl, startD, DS.put, wF, isaD, eqD, inSq, isInt, isNum] at k ⊢
      exact ⟨hx, k⟩
    | ins _ _ _ => exact hx.elim
    | raw _ => exact hx.elim
    | _ => simp [sRet, wAndV, wOrV, wNotV, wUn, wOp, wV, wB, wO, wC, wIfE, wTest, wTruth, wBand, wBor, wBnot, wChain, wSl, wPart, wTup, wLst, wCons, wNil, wCall, sIf, sSeq, sSet, sNew, sNext, sPass, sApp, sExt, sDrop, sAsg, gNm, gTp, gCs, gNl, startD, DS.put, wF, isaD, eqD, inSq, isInt, isNum] at k ⊢; exact k⟩
-- Rules.about: slots 0 self, 1 relation, 2 number, 3 rule
abbrev s_Rules_about : Stmt := (inClass (top 40) 4)
abbrev N_sc_Rules_about : List Str := ["self", "relation", "number", "rule"]
theorem sc_Rules_about : FnScope N_sc_Rules_about ["self", "relation"] (defScope s_Rules_about) := ⟨rfl, rfl, rfl, by decide +kernel, rfl, by decide +kernel, by decide +kernel⟩
theorem ok_Rules_about (F : FnP K "about" "Rules.about" s_Rules_about f fd) (T : Tx K mg) (I : IsC K C) (no : NoAttr K C "_rules") : FnOk P w K mg base CX0 1 f fd ["self", "relation"] (spF K (mAbout C)) :=
  FnF F sc_Rules_about (fun ds Kk h => by obtain ⟨_, _, rfl, _⟩ := h; rfl) fun cdv A outer s H Fz E hr => ⟨_, 
(ds_one (ds_retF (fe_lc (own := [("number", 2), ("rule", 3)]) sc_Rules_about.nd (di_enumA T.b_enumerate (de_fld (C := C) I.cls no (de_v (i := 0)))) (blkOk_by (own := [("number", 2), ("rule", 3)]) (N := N_sc_Rules_about) (sc := defScope s_Rules_about) (by decide +kernel)) (fun _ _ _ _ _ => (dg_tup (n := 2) (dgs_cons (dg_name (i := 2) sc_Rules_about.nd) (dgs_cons (dg_name (i := 3) sc_Rules_about.nd) dgs_nil)))) (fun _ _ _ _ _ => (dts_one (dt_cm (c_eq hr) (de_ixA (de_ixA (de_v (i := 3)) de_int) de_int) (de_v (i := 1))))) (fun _ _ _ _ _ => (de_v (i := 2))))))
  , fun ds Kk h => by
    obtain ⟨rs, x, rfl, ok, hd, hdp, k⟩ := h
    have hok := ok.2
    let mk : DS noR := ⟨noG, [some (.fz (oRules C rs)), some (.fz x), none, none]⟩
    refine ⟨_, rfl, _, _, .tup rs, rfl, rfl, rs, .inr rfl, by rw [enumD_length]; omega, fun i m d' q => ?_, ?_⟩
    · have e : i = 2 ∨ i = 3 := by simpa using m
      rcases e with rfl | rfl <;> cases q
    refine lcGo_ind (fun rest acc ρ => ∃ i ss, rest = enumD i ss ∧ (∀ r ∈ ss, okRule r) ∧ acc ++ aboutF x i (ss.map headN) = aboutF x 0 (rs.map headN) ∧ ρ = mk) ?_ ?_ _ _ _ ⟨0, rs, rfl, ok.1, rfl, rfl⟩
    · rintro d rest acc N ρ hN ⟨i, ss, hr1, hok', hf, rfl⟩
      cases ss with
      | nil => cases hr1
      | cons r ss =>
        obtain ⟨rfl, rfl⟩ : d = .tup [.int (i : Nat), r] ∧ rest = enumD (i + 1) ss := by
          have h1 : d :: rest = .tup [.int (i : Nat), r] :: enumD (i + 1) ss := hr1
          exact ⟨(List.cons.inj h1).1, (List.cons.inj h1).2⟩
        obtain ⟨z, ts, body, rfl, hz, _⟩ := (hok' r List.mem_cons_self).head
        rw [List.map_cons, hz] at hf
        have eq1 : eqD false (.str z) x = some (.bl (deq (.str z) x)) := by
          unfold eqD
          rw [if_pos ⟨by simp, hd, by simp⟩]
          cases deq (.str z) x <;> rfl
        refine ⟨_, rfl, rfl, _, _, rfl, _, _, rfl, rfl, ?_⟩
        refine ⟨_, rfl, .tup (.str z :: ts), by simp [ixN], .str z, by simp [ixN], x, rfl, _, eq1, _, rfl, ?_⟩
        rw [aboutF_cons] at hf
        cases hb : deq (.str z) x with
        | true =>
          rw [hb, if_pos rfl] at hf
          refine itT ⟨_, rfl, hN _ _ ⟨i + 1, ss, rfl, fun q hq => hok' q (List.mem_cons_of_mem _ hq), ?_, rfl⟩⟩
          rw [List.append_assoc]
          exact hf
        | false =>
          rw [hb, if_neg (by decide)] at hf
          exact itF (hN _ _ ⟨i + 1, ss, rfl, fun q hq => hok' q (List.mem_cons_of_mem _ hq), hf, rfl⟩)
    · rintro acc ρ ⟨i, ss, hr1, hok', hf, rfl⟩
      have e0 : ss = [] := by cases ss with
        | nil => rfl
        | cons r ss => cases hr1
      subst e0
      have e1 : acc = aboutF x 0 (rs.map headN) := by rw [← hf]; exact (List.append_nil _).symm
      subst e1
      exact k⟩
-- Rules.without: slots 0 self, 1 number
abbrev s_Rules_without : Stmt := (inClass (top 40) 5)
abbrev N_sc_Rules_without : List Str := ["self", "number"]
theorem sc_Rules_without : FnScope N_sc_Rules_without ["self", "number"] (defScope s_Rules_without) := ⟨rfl, rfl, rfl, by decide +kernel, rfl, by decide +kernel, by decide +kernel⟩
theorem ok_Rules_without (F : FnP K "without" "Rules.without" s_Rules_without f fd) (T : Tx K mg) (I : IsC K C) (no : NoAttr K C "_rules") (C_is_number_of : Cal P w K mg base "is_number_of" 2 ["thing", "rows"] (spD K (wF okNum fun ds => .bl (isNum (ds.headD .non) ((sqOf (ds.getD 1 .non)).getD []).length))))
    (C_Rules : CalK P w K mg base "Rules" C 10 ["self", "rules"] (mInit CB CE CU C)) (T_NoRule : ExCl P w K mg base "NoRule" CN 1 ["number"]) :
    FnOk P w K mg base (L2.CX P w) 12 f fd ["self", "number"] (spX K (mWithout CB CE CU CN C)) :=
  FnX F sc_Rules_without (fun ds Kk Xk h => by obtain ⟨_, _, rfl, _⟩ := h; rfl) fun cdv A outer s H Fz E Xk hr fit => ⟨_, 
(ds_cons (ds_if (dt_not (dt_truth (de_call C_is_number_of hr (da_cons (de_v (i := 1)) (da_cons (de_fld (C := C) I.cls no (de_v (i := 0))) da_nil))))) (ds_one (ds_raise T_NoRule takes_body fit (hr.mono (by decide)) (da_cons (de_v (i := 1)) da_nil))) ds_nil)
 (ds_one (ds_ret (de_makeX C_Rules pass_body fit hr (da_cons (de_add (de_sl (de_fld (C := C) I.cls no (de_v (i := 0))) dp_no (dp_at (de_v (i := 1)))) (de_sl (de_fld (C := C) I.cls no (de_v (i := 0))) (dp_at (de_add (de_v (i := 1)) de_int)) dp_no)) da_nil)))))
  , fun ds Kk h => by
    obtain ⟨rs, x, rfl, ok, hx, k⟩ := h
    have hok := ok.2
    refine ⟨_, rfl, _, rfl, _, _, .tup rs, rfl, rfl, ⟨x, rs, rfl, hx, by omega⟩, isNum x rs.length, rfl, ?_⟩
    cases hn : isNum x rs.length with
    | false =>
      rw [hn, if_neg (by decide)] at k
      exact itT ⟨_, rfl, rfl, k⟩
    | true =>
      rw [hn, if_pos rfl] at k
      obtain ⟨i, rfl, k⟩ := k
      have hi : i < rs.length := by
        have h2 : ((i : Int) < (rs.length : Int)) := by simpa [isNum] using hn
        omega
      refine itF ?_
      refine ⟨_, rfl, _, _, .tup rs, rfl, rfl, _, rfl, _, rfl, rfl, .tup (rs.take i), by rw [← cut_take rs i (by omega)]; rfl, ?_⟩
      refine ⟨_, rfl, _, _, .tup rs, rfl, rfl, _, rfl, .int ((i + 1 : Nat) : Int), by simp [addD], _, rfl, rfl, .tup (rs.drop (i + 1)), by rw [← cut_drop rs (i + 1) (by omega)]; rfl, ?_⟩
      refine ⟨.tup (rs.take i ++ rs.drop (i + 1)), ?_, k⟩
      rw [addD, if_pos (by rw [List.length_take, List.length_drop]; omega)]⟩
-- Rules.__or__: slots 0 self, 1 other
abbrev s_Rules___or__ : Stmt := (inClass (top 40) 7)
abbrev N_sc_Rules___or__ : List Str := ["self", "other"]
theorem sc_Rules___or__ : FnScope N_sc_Rules___or__ ["self", "other"] (defScope s_Rules___or__) := ⟨rfl, rfl, rfl, by decide +kernel, rfl, by decide +kernel, by decide +kernel⟩
theorem ok_Rules_or (F : FnP K "__or__" "Rules.__or__" s_Rules___or__ f fd) (T : Tx K mg) (I : IsC K C) (no : NoAttr K C "_rules") (hm : mg "Rules" = some (.ref C)) (C_Rules : CalK P w K mg base "Rules" C 10 ["self", "rules"] (mInit CB CE CU C)) :
    FnOk P w K mg base (L2.CX P w) 12 f fd ["self", "other"] (spX K (mOr CB CE CU C)) :=
  FnX F sc_Rules___or__ (fun ds Kk Xk h => by obtain ⟨_, _, rfl, _⟩ := h; rfl) fun cdv A outer s H Fz E Xk hr fit => ⟨_, 
(ds_cons (ds_if (dt_not (dt_truth (de_isC T.b_isinstance hm I (de_v (i := 1))))) (ds_one (ds_ret (de_nev (pa := false)))) ds_nil)
 (ds_one (ds_ret (de_makeX C_Rules pass_body fit hr (da_cons (de_add (de_fld (C := C) I.cls no (de_v (i := 0))) (de_fld (C := C) I.cls no (de_v (i := 1)))) da_nil)))))
  , fun ds Kk h => by
    obtain ⟨rs, ss, rfl, o1, o2, k⟩ := h
    have l1 := o1.2
    have l2 := o2.2
    have hi : isCD C (oRules C ss) = some (.bl true) := by simp [isCD, oRules]
    refine ⟨_, rfl, _, hi, true, rfl, itF ?_⟩
    refine ⟨_, rfl, _, _, .tup rs, rfl, rfl, _, rfl, _, _, .tup ss, rfl, rfl, .tup (rs ++ ss), ?_, k⟩
    rw [addD, if_pos (by omega)]⟩
-- Rules.__eq__: slots 0 self, 1 other
abbrev s_Rules___eq__ : Stmt := (inClass (top 40) 8)
abbrev N_sc_Rules___eq__ : List Str := ["self", "other"]
theorem sc_Rules___eq__ : FnScope N_sc_Rules___eq__ ["self", "other"] (defScope s_Rules___eq__) := ⟨rfl, rfl, rfl, by decide +kernel, rfl, by decide +kernel, by decide +kernel⟩
theorem ok_Rules_eq (F : FnP K "__eq__" "Rules.__eq__" s_Rules___eq__ f fd) (T : Tx K mg) (I : IsC K C) (no : NoAttr K C "_rules") (hm : mg "Rules" = some (.ref C)) : FnOk P w K mg base CX0 1 f fd ["self", "other"] (spD K (mEqR C)) :=
  FnD F sc_Rules___eq__ (fun ds Kk h => by obtain ⟨_, _, _, rfl, _⟩ := h; rfl) fun cdv A outer s H Fz E hr => ⟨_, 
(ds_one (ds_ret (de_and (de_isC T.b_isinstance hm I (de_v (i := 1))) (de_one (de_cm (c_eq hr) (de_fld (C := C) I.cls no (de_v (i := 0))) (de_fld (C := C) I.cls no (de_v (i := 1))))))))
  , fun ds Kk h => by
    obtain ⟨xs, y, b, rfl, hx, hdx, he, k⟩ := h
    rcases he with ⟨ys, rfl, hy, rfl⟩ | ⟨⟨t, ht⟩, rfl⟩
    · have hi : isCD C (oRules C ys) = some (.bl true) := by simp [isCD, oRules]
      refine ⟨_, rfl, _, hi, true, rfl, itT ⟨_, rfl, _, _, .tup xs, rfl, rfl, _, rfl, _, _, .tup ys, rfl, rfl, .bl (deqs xs ys), ?_, k⟩⟩
      unfold eqD
      rw [if_pos ⟨by simpa [isDat] using hx, by simpa [isDat] using hy, by simp only [dep]; omega⟩, eq_tup_tup]
      rfl
    · have hi : isCD C y = some (.bl false) := by cases y <;> simp [kD2] at ht <;> simp [isCD, kD2]
      exact ⟨_, rfl, _, hi, false, rfl, itF k⟩⟩
end
end L03

set_option Elab.async false
set_option linter.all false
set_option maxRecDepth 100000
set_option maxHeartbeats 4000000
namespace L03
open PySem PySem.Spec PyProof.Rows L2 Q
/-! ### operators of either kind -/
section
variable {X : Cx}
theorem op_eqX (hu : X.A.units + 64 < cLine) : OpR X (compareOp .Eq) (fun x y H Q => rEq x y H Q ∨ rEqD X.K x y H Q) := op_eq.or (op_eqD hu)
theorem op_neX (hu : X.A.units + 64 < cLine) : OpR X (compareOp .NotEq) (fun x y H Q => rNe x y H Q ∨ rNeD X.K x y H Q) := op_ne.or (op_neD hu)
def rAddI : R2 := rI0 fun i j => .int (i + j)
def rAddX : R2 := fun x y H Q => rAddI x y H Q ∨ rCat x y H Q
theorem op_addX : OpR X (binaryOp .Add) rAddX := op_add.or op_cat
end
section
variable {P : Program} {w : World} {K : PySem.W.Frag} {mg : Str → Option Value} {base : Heap} {f : Addr} {fd : FuncData}
-- _law_start: slots 0 _law_script
abbrev s_L_start : Stmt := (top 43)
abbrev N_sc_L_start : List Str := ["_law_script"]
theorem sc_L_start : FnScope N_sc_L_start ["_law_script"] (defScope s_L_start) := ⟨rfl, rfl, rfl, by decide +kernel, rfl, by decide +kernel, by decide +kernel⟩
theorem ok_start (F : FnP K "_law_start" "_law_start" s_L_start f fd) (T : Tx K mg) : FnOk P w K mg base CX0 1 f fd ["_law_script"] (spStart K) := by
  refine F.ok sc_L_start (fun vs H Q E h => ?_) (fun cdv A outer s H vs Q E hr h => ?_)
  · obtain ⟨a, ns, rfl, _⟩ := h
    rfl
  · obtain ⟨a, ns, rfl, hS, hl, k⟩ := h
    refine ⟨_, PSs.nox (pss_one (ps_ret (pe_lst (pa_cons (pe_callTy call_list_of (by rfl) T.b_list (by decide +kernel) (pa_cons (pv 0) pa_nil)) (pa_cons pe_int (pa_cons pe_int (pa_cons pe_int pa_nil))))))), ?_⟩
    refine ⟨_, rfl, a, _, rfl, .inl hS, fun L hL => ?_⟩
    refine ⟨(by show 4 ≤ sizeLine; decide), fun st hst => ?_⟩
    have ne : st ≠ L := fun e => by rw [e, upd_same] at hst; cases hst
    have hst0 : H st = none := by rw [upd_ne ne] at hst; exact hst
    have hL0 : H L = none := hL
    refine k _ st L (fun b o e => ?_) ⟨ne, 0, 0, 11, ns, upd_same, ?_, hl, by decide, by decide, by decide, by decide, by decide⟩ hst0 hL0
    · have n1 := ne_of_none e hst0
      have n2 := ne_of_none e hL
      exact dat_of (by rw [upd_ne n1, upd_ne n2]; exact e) n1 n2
    · rw [upd_ne ne.symm, upd_same]
end
theorem ixL {K : PySem.W.Frag} {H : Hp} {p : Addr} {xs : List V} {i : Int} {v : V} {Q : VK} (h : SqL K H p xs) (ha : atI xs i = some v) (q : Q v H) : rIx K (.ref p) (.int i) H Q :=
  .inl ⟨p, xs, i, v, rfl, rfl, h, ha, q⟩
theorem ixLH {K : PySem.W.Frag} {H : Hp} {p : Addr} {xs : List V} {i : Int} {v : V} {Q : VK} (h : H p = some (.lst xs)) (ha : atI xs i = some v) (q : Q v H) : rIx K (.ref p) (.int i) H Q := ixL (SqL.of h) ha q
theorem addI {i j : Int} {H : Hp} {Q : VK} (q : Q (.int (i + j)) H) : rAddX (.int i) (.int j) H Q := .inl ⟨i, j, rfl, rfl, q⟩
theorem setLH {H : Hp} {p : Addr} {xs : List V} {k : Int} {j : Nat} {v : V} {Q : Hp → Prop} (ys : List V) (h : H p = some (.lst xs)) (hj : ixN xs.length k = some j) (hy : xs.set j v = ys) (q : Q (upd H p (.lst ys))) : rSetL (.ref p) (.int k) v H Q :=
  ⟨p, xs, k, j, rfl, rfl, h, hj, by rw [hy]; exact q⟩
theorem eqS {K : PySem.W.Frag} {x y : V} {H : Hp} {Q : VK} (h : scal x y = true) (q : Q (.bl (decide (x = y))) H) : rEq x y H Q ∨ rEqD K x y H Q := .inl ⟨h, q⟩
/-- all of the stream's heap but the stream -/
theorem dat_same {st L : Addr} {H H' : Hp} (h : ∀ b, b ≠ st → b ≠ L → H b ≠ none → H' b = H b) : Same (dat st L H) (dat st L H') := fun b o e => by
  obtain ⟨e1, n1, n2⟩ := dat_sub e
  exact dat_of (by rw [h b n1 n2 (by rw [e1]; exact fun z => by cases z)]; exact e1) n1 n2
theorem dat_upd_st {st L : Addr} {H : Hp} {o : HO} : Same (dat st L H) (dat st L (upd H st o)) := dat_same fun b n1 _ _ => upd_ne n1
theorem dat_upd_L {st L : Addr} {H : Hp} {o : HO} : Same (dat st L H) (dat st L (upd H L o)) := dat_same fun b _ n2 _ => upd_ne n2
theorem dat_upd_new {st L p : Addr} {H : Hp} {o : HO} (h : H p = none) : Same (dat st L H) (dat st L (upd H p o)) := dat_same fun b _ _ n => upd_ne fun e => n (by rw [e]; exact h)
theorem dpAll_ints {K : PySem.W.Frag} {H : Hp} : ∀ cs : List Int, DpAll K H (cs.map V.int) (cs.map PyData.int)
  | [] => .nil
  | c :: cs => .cons (.int c) (dpAll_ints cs)
theorem canLay_ints : ∀ cs : List Int, PyData.canLayAll0 (cs.map PyData.int) = true
  | [] => rfl
  | c :: cs => by
    show (PyData.canLay0 (.int c) && PyData.canLayAll0 (cs.map PyData.int)) = true
    rw [canLay_ints cs]
    simp [PyData.canLay0]
theorem depth_ints : ∀ cs : List Int, PyData.depthAll (cs.map PyData.int) = 0
  | [] => rfl
  | c :: cs => by
    show max (PyData.depth (.int c)) (PyData.depthAll (cs.map PyData.int)) = 0
    rw [depth_ints cs]
    simp [PyData.depth]
theorem shaped_of {d : PyData} (h : d.canLay0 = true) (h2 : d.depth ≤ 64) : SeqAt.shaped d = true := by
  unfold SeqAt.shaped
  rw [h, decide_eq_true h2]
  rfl
theorem shaped_ints (cs : List Int) : SeqAt.shaped (.list (cs.map PyData.int)) = true :=
  shaped_of (by simp only [PyData.canLay0]; exact canLay_ints cs) (by simp only [PyData.depth]; rw [depth_ints]; decide)
theorem eqv_nil_ints (cs : List Int) : PyData.eqv (.list (cs.map PyData.int)) (.list []) = cs.isEmpty := by
  cases cs <;> rfl
/-- xs != [], ints -/
theorem neNil {K : PySem.W.Frag} {a b : Addr} {cs : List Int} {H : Hp} {Q : VK} (ha : SqL K H a (cs.map V.int)) (hb : SqL K H b []) (q : Q (.bl (!cs.isEmpty)) H) : rNe (.ref a) (.ref b) H Q ∨ rNeD K (.ref a) (.ref b) H Q :=
  .inr ⟨.list (cs.map PyData.int), .list [], .lst ha (dpAll_ints cs), .lst hb .nil, shaped_ints cs, rfl, by rw [eqv_nil_ints]; exact q⟩
section
variable {P : Program} {w : World} {K : PySem.W.Frag} {mg : Str → Option Value} {base : Heap} {f : Addr} {fd : FuncData}
-- _law_draw: slots 0 _law_stream, 1 _law_many, 2 _law_mixed_here, 3 _law_cell, 4 _law_digit
abbrev s_L_draw : Stmt := (top 44)
abbrev N_sc_L_draw : List Str := ["_law_stream", "_law_many", "_law_mixed_here", "_law_cell", "_law_digit"]
theorem sc_L_draw : FnScope N_sc_L_draw ["_law_stream", "_law_many"] (defScope s_L_draw) := ⟨rfl, rfl, rfl, by decide +kernel, rfl, by decide +kernel, by decide +kernel⟩
/-- the stream with its numbers told -/
structure Sm1 (st L : Addr) (cell n seed : Int) (cs : List Int) (H : Hp) : Prop where
  a : H st = some (.lst [.ref L, .int cell, .int n, .int seed])
  b : H L = some (.lst (cs.map V.int))
theorem Sm1.put {st L : Addr} {cell n seed cell' n' seed' : Int} {cs : List Int} {H : Hp} (h : Sm1 st L cell n seed cs H) (ne : st ≠ L) : Sm1 st L cell' n' seed' cs (upd H st (.lst [.ref L, .int cell', .int n', .int seed'])) :=
  ⟨upd_same, by rw [upd_ne ne.symm]; exact h.b⟩
theorem pw {x : Int} {j : Int} (hj : 0 ≤ j ∧ j ≤ 1000000) (h0 : 0 ≤ x) (h1 : x < 1000000000000000000) : CPow x j :=
  ⟨hj.1, hj.2, by
    have h2 : x.natAbs < 1000000000000000000 := by omega
    exact Nat.lt_trans h2 (by decide)⟩
theorem at4_0 {a b c d : V} : atI [a, b, c, d] 0 = some a := rfl
theorem at4_1 {a b c d : V} : atI [a, b, c, d] 1 = some b := rfl
theorem at4_2 {a b c d : V} : atI [a, b, c, d] 2 = some c := rfl
theorem at4_3 {a b c d : V} : atI [a, b, c, d] 3 = some d := rfl
theorem ok_draw (F : FnP K "_law_draw" "_law_draw" s_L_draw f fd) (T : Tx K mg) : FnOk P w K mg base CX0 1 f fd ["_law_stream", "_law_many"] spDraw := by
  refine F.ok sc_L_draw (fun vs H Q E h => ?_) (fun cdv A outer s H vs Q E hr h => ?_)
  · obtain ⟨st, L, c, m, rfl, _⟩ := h
    rfl
  · obtain ⟨st, L, c, m, rfl, ⟨ne, cell, n, seed, cs, hst, hL, h63, hc0, hn0, hnc, hs0, hs1⟩, hc, hm0, hm1, k⟩ := h
    refine ⟨_, PSs.nox (pss_cons (ps_asg (pe_op op_addX (pe_ix ix_seq (pv 0) pe_int (fun _ _ => rfl)) pe_int) (pg_sub (pv 0) pe_int set_list))
 (C8.pss_cut (ps_if (PW.pt (pw_and (pt_cmpR (op_eqX hr.units) (pe_ix ix_seq (pv 0) pe_int (fun _ _ => rfl)) pe_int (nomark _)) (pw_and1 (pt_cmpR (op_neX hr.units) (pe_ix ix_seq (pv 0) pe_int (fun _ _ => rfl)) (pe_lst pa_nil) (nomark _))))) (pss_cons (ps_set (i := 3) sc_L_draw.nd rfl (by first | exact Or.inl rfl | exact Or.inr rfl) (pe_bm PySem.F.plainAttrs_list PySem.F.slot_list_pop PySem.F.type_list_pop mt_popAt (pe_ix ix_seq (pv 0) pe_int (fun _ _ => rfl)) (pa_cons pe_int pa_nil)))
 (pss_cons (ps_asg (pe_op op_mod (pe_callTy call_int1 (by rfl) T.b_int (by decide +kernel) (pa_cons (pe_op op_addX (pe_op op_addX (pe_op op_mul (pe_ix ix_seq (pv 0) pe_int (fun _ _ => rfl)) pe_int) (pv 3)) pe_int) pa_nil)) pe_int) (pg_sub (pv 0) pe_int set_list))
 (pss_one (ps_asg (pe_ifExp (pt_cmpR op_ge (pv 3) (pe_op op_pow pe_int pe_int) (nomark _)) (pv 3) pe_int) (pg_sub (pv 0) pe_int set_list))))) pss_nil)
 (pss_cons (ps_if (pt_cmpR op_gt (pe_ix ix_seq (pv 0) pe_int (fun _ _ => rfl)) pe_int (nomark _)) (pss_cons (ps_set (i := 4) sc_L_draw.nd rfl (by first | exact Or.inl rfl | exact Or.inr rfl) (pe_op op_mod (pe_callTy call_int1 (by rfl) T.b_int (by decide +kernel) (pa_cons (pe_ix ix_seq (pv 0) pe_int (fun _ _ => rfl)) pa_nil)) (pv 1)))
 (pss_cons (ps_asg (pe_op op_fdiv (pe_ix ix_seq (pv 0) pe_int (fun _ _ => rfl)) (pv 1)) (pg_sub (pv 0) pe_int set_list))
 (pss_one (ps_ret (pv 4))))) pss_nil)
 (pss_cons (ps_set (i := 2) sc_L_draw.nd rfl (by first | exact Or.inl rfl | exact Or.inr rfl) (pe_op op_mod (pe_callTy call_int1 (by rfl) T.b_int (by decide +kernel) (pa_cons (pe_op op_pow (pe_op op_addX (pe_op op_addX (pe_ix ix_seq (pv 0) pe_int (fun _ _ => rfl)) (pe_op op_mul pe_int (pe_ix ix_seq (pv 0) pe_int (fun _ _ => rfl)))) pe_int) pe_int) pa_nil)) pe_int))
 (pss_one (ps_ret (pe_op op_mod (pe_op op_mod (pe_callTy call_int1 (by rfl) T.b_int (by decide +kernel) (pa_cons (pe_op op_pow (pe_op op_addX (pe_op op_addX (pe_op op_mul (pv 2) pe_int) (pe_op op_mul pe_int (pe_ix ix_seq (pv 0) pe_int (fun _ _ => rfl)))) pe_int) pe_int) pa_nil)) pe_int) (pv 1)))))))), ?_⟩
    refine ⟨_, rfl, ixLH hst at4_2 (addI ⟨_, rfl, setLH [.ref L, .int cell, .int (n + 1), .int seed] hst rfl rfl ?_⟩)⟩
    have s1 : Sm1 st L cell (n + 1) seed cs (upd H st (.lst [.ref L, .int cell, .int (n + 1), .int seed])) := Sm1.put ⟨hst, hL⟩ ne
    have d1 : Same (dat st L H) (dat st L (upd H st (.lst [.ref L, .int cell, .int (n + 1), .int seed]))) := dat_upd_st
    generalize upd H st (.lst [.ref L, .int cell, .int (n + 1), .int seed]) = H1 at s1 d1 ⊢
    refine ⟨fun σ' H' => ∃ (cell1 seed1 : Int) (cs1 : List Int) (x3 : Option V), σ' = [some (.ref st), some (.int m), none, x3, none] ∧ Same (dat st L H) (dat st L H') ∧ Sm1 st L cell1 (n + 1) seed1 cs1 H' ∧ cs1.length ≤ 63 ∧ 0 ≤ cell1 ∧ 0 ≤ seed1 ∧ seed1 < 2147483647, ?_, ?_⟩
    · refine ⟨_, rfl, ixLH s1.a at4_1 (eqS rfl ⟨_, rfl, ?_⟩)⟩
      refine ite2 (fun c0 => ?_) (fun c0 => ?_)
      · refine ⟨_, rfl, ixLH s1.a at4_0 ⟨Nat.zero_le _, fun p hp => neNil (SqL.of (by rw [upd_ne (ne_of_none s1.b hp)]; exact s1.b)) (SqL.of upd_same) ⟨_, rfl, ?_⟩⟩⟩
        have np1 := ne_of_none s1.a hp
        have np2 := ne_of_none s1.b hp
        have s3 : Sm1 st L cell (n + 1) seed cs (upd H1 p (.lst [])) := ⟨by rw [upd_ne np1]; exact s1.a, by rw [upd_ne np2]; exact s1.b⟩
        have d3 : Same (dat st L H) (dat st L (upd H1 p (.lst []))) := d1.trans (dat_upd_new hp)
        generalize upd H1 p (.lst []) = H3 at s3 d3 ⊢
        cases cs with
        | nil => exact ⟨cell, seed, [], _, rfl, d3, s3, h63, hc0, hs0, hs1⟩
        | cons z cs =>
          refine iteT ?_
          refine ⟨_, rfl, ixLH s3.a at4_0 ⟨.inl ⟨rfl, _, SqL.of s3.b⟩, L, _, 0, 0, .int z, rfl, rfl, s3.b, by decide, by decide, ?_, rfl, ?_⟩⟩
          · show seqIndex? 0 ((V.int z :: cs.map V.int).length) = some 0
            unfold seqIndex?
            simp
          have s4 : Sm1 st L cell (n + 1) seed cs (upd H3 L (.lst (cs.map V.int))) := ⟨by rw [upd_ne ne]; exact s3.a, upd_same⟩
          have d4 : Same (dat st L H) (dat st L (upd H3 L (.lst (cs.map V.int)))) := d3.trans dat_upd_L
          show tSeq _ _ _ _ (upd H3 L (.lst (cs.map V.int)))
          generalize upd H3 L (.lst (cs.map V.int)) = H4 at s4 d4 ⊢
          -- stream[3] = int(stream[3] * 8191 + cell + 3) % 2147483647
          refine ⟨_, rfl, ixLH s4.a at4_3 ⟨_, _, rfl, rfl, .inl ⟨by omega, by omega⟩, _, rfl, addI (addI (.inl ⟨_, rfl, _, _, rfl, rfl, (by show (0 : Int) < 2147483647; decide), _, rfl, setLH [.ref L, .int cell, .int (n + 1), .int ((seed * 8191 + z + 3) % 2147483647)] s4.a rfl rfl ?_⟩))⟩⟩
          have s5 : Sm1 st L cell (n + 1) ((seed * 8191 + z + 3) % 2147483647) cs (upd H4 st (.lst [.ref L, .int cell, .int (n + 1), .int ((seed * 8191 + z + 3) % 2147483647)])) := s4.put ne
          have d5 : Same (dat st L H) (dat st L (upd H4 st (.lst [.ref L, .int cell, .int (n + 1), .int ((seed * 8191 + z + 3) % 2147483647)]))) := d4.trans dat_upd_st
          generalize upd H4 st (.lst [.ref L, .int cell, .int (n + 1), .int ((seed * 8191 + z + 3) % 2147483647)]) = H5 at s5 d5 ⊢
          have hs2 : 0 ≤ (seed * 8191 + z + 3) % 2147483647 := Int.emod_nonneg _ (by decide)
          have hs3 : (seed * 8191 + z + 3) % 2147483647 < 2147483647 := Int.emod_lt_of_pos _ (by decide)
          generalize (seed * 8191 + z + 3) % 2147483647 = seed5 at s5 hs2 hs3 ⊢
          -- stream[1] = cell if cell >= 10 ** 18 else 0
          refine ⟨_, rfl, 10, 18, rfl, rfl, ⟨by decide, by decide, by decide⟩, _, _, rfl, rfl, _, rfl, ?_⟩
          refine ite2 (fun cz => ?_) (fun cz => ?_)
          · refine ⟨_, rfl, _, rfl, setLH [.ref L, .int z, .int (n + 1), .int seed5] s5.a rfl rfl ?_⟩
            have hz : (0 : Int) ≤ z := by
              have q := of_decide_eq_true cz
              have e : ((10 : Int) ^ ((18 : Int).toNat)) = 1000000000000000000 := by decide
              rw [e] at q
              omega
            exact ⟨z, seed5, cs, _, rfl, d5.trans dat_upd_st, s5.put ne, by simp at h63; omega, hz, hs2, hs3⟩
          · refine ⟨_, rfl, setLH [.ref L, .int 0, .int (n + 1), .int seed5] s5.a rfl rfl ?_⟩
            exact ⟨0, seed5, cs, _, rfl, d5.trans dat_upd_st, s5.put ne, by simp at h63; omega, by decide, hs2, hs3⟩
      · exact iteF ⟨cell, seed, cs, _, rfl, d1, s1, h63, hc0, hs0, hs1⟩
    · rintro σ' H' ⟨cell1, seed1, cs1, x3, rfl, d2, s2, hl, h0, h1, h2⟩
      have fin : Sm st L (c + 1) H' := ⟨ne, cell1, n + 1, seed1, cs1, s2.a, s2.b, hl, h0, by omega, by omega, h1, h2⟩
      refine ⟨_, rfl, ixLH s2.a at4_1 ⟨_, _, rfl, rfl, _, rfl, ?_⟩⟩
      refine ite2 (fun cz => ?_) (fun cz => ?_)
      · have cz := of_decide_eq_true cz
        refine ⟨_, rfl, ixLH s2.a at4_1 (.inl ⟨_, rfl, _, rfl, _, _, rfl, rfl, hm0, ?_⟩)⟩
        refine ⟨_, rfl, ixLH s2.a at4_1 ⟨_, rfl, _, _, rfl, rfl, ⟨hm0, by omega⟩, _, rfl, setLH [.ref L, .int (cell1 / m), .int (n + 1), .int seed1] s2.a rfl rfl ?_⟩⟩
        have s3 : Sm1 st L (cell1 / m) (n + 1) seed1 cs1 (upd H' st (.lst [.ref L, .int (cell1 / m), .int (n + 1), .int seed1])) := s2.put ne
        refine ⟨_, rfl, k _ _ (d2.trans dat_upd_st) ⟨ne, cell1 / m, n + 1, seed1, cs1, s3.a, s3.b, hl, Int.ediv_nonneg h0 (by omega), by omega, by omega, h1, h2⟩ (Int.emod_nonneg _ (by omega)) (Int.emod_lt_of_pos _ hm0)⟩
      · refine ⟨_, rfl, ixLH s2.a at4_3 ⟨_, rfl, ixLH s2.a at4_2 ⟨7919, _, rfl, rfl, .inl ⟨by decide, by decide⟩, addI (addI ⟨_, _, rfl, rfl, pw ⟨by decide, by decide⟩ (by omega) (by omega), .inl ⟨_, rfl, _, _, rfl, rfl, (by show (0 : Int) < 2147483629; decide), ?_⟩⟩)⟩⟩⟩
        have m0 : 0 ≤ ((seed1 + 7919 * (n + 1) + 104729) ^ (Int.toNat 5)) % 2147483629 := Int.emod_nonneg _ (by decide)
        have m1 : ((seed1 + 7919 * (n + 1) + 104729) ^ (Int.toNat 5)) % 2147483629 < 2147483629 := Int.emod_lt_of_pos _ (by decide)
        generalize ((seed1 + 7919 * (n + 1) + 104729) ^ (Int.toNat 5)) % 2147483629 = y at m0 m1 ⊢
        refine ⟨_, rfl, _, _, rfl, rfl, .inl ⟨by omega, by omega⟩, _, rfl, ixLH s2.a at4_2 ⟨30011, _, rfl, rfl, .inl ⟨by decide, by decide⟩, addI (addI ⟨_, _, rfl, rfl, pw ⟨by decide, by decide⟩ (by omega) (by omega), .inl ⟨_, rfl, _, _, rfl, rfl, (by show (0 : Int) < 1000000007; decide), _, rfl, _, _, rfl, rfl, hm0, ?_⟩⟩)⟩⟩
        exact k _ _ d2 fin (Int.emod_nonneg _ (by omega)) (Int.emod_lt_of_pos _ hm0)
end
end L03

set_option Elab.async false
set_option linter.all false
set_option maxRecDepth 100000
set_option maxHeartbeats 4000000
namespace L03
open PySem PySem.Spec PyProof.Rows L2 Q
theorem perm_erase {α : Type} : ∀ {xs : List α} {i : Nat} (h : i < xs.length), (xs[i] :: xs.eraseIdx i).Perm xs
  | x :: xs, 0, _ => .refl _
  | x :: xs, i + 1, h => by
    have ih := perm_erase (xs := xs) (i := i) (by simpa using h)
    rw [List.eraseIdx_cons_succ, List.getElem_cons_succ]
    exact (List.Perm.swap _ _ _).trans (List.Perm.cons x ih)
abbrev TbL := List (Addr × Str)
def mPick (TT : TbL) : WMR (Strm TT) := fun ds g Kk => ∃ d xs, ds = [.raw (.ref g.st), d] ∧ sqOf d = some xs ∧ 0 < xs.length ∧ xs.length ≤ 1000 ∧ g.c ≤ 1000000 ∧ ∀ y ∈ xs, Kk y (⟨g.st, g.L, g.c + 1⟩ : SG)
def mMixed (TT : TbL) : WMR (Strm TT) := fun ds g Kk => ∃ d xs, ds = [.raw (.ref g.st), d] ∧ sqOf d = some xs ∧ xs.length ≤ 1000 ∧ g.c + xs.length ≤ 1000000 ∧ ∀ ys : List D, ys.Perm xs → Kk (.lst ys) (⟨g.st, g.L, g.c + xs.length⟩ : SG)
section
variable {P : Program} {w : World} {K : PySem.W.Frag} {mg : Str → Option Value} {base : Heap} {f : Addr} {fd : FuncData} {TT : TbL}
-- _law_pick: slots 0 _law_stream, 1 _law_some
abbrev s_L_pick : Stmt := (top 45)
abbrev N_sc_L_pick : List Str := ["_law_stream", "_law_some"]
theorem sc_L_pick : FnScope N_sc_L_pick ["_law_stream", "_law_some"] (defScope s_L_pick) := ⟨rfl, rfl, rfl, by decide +kernel, rfl, by decide +kernel, by decide +kernel⟩
theorem ok_L_pick (F : FnP K "_law_pick" "_law_pick" s_L_pick f fd) (T : Tx K mg) (C__law_draw : Cal P w K mg base "_law_draw" 1 ["_law_stream", "_law_many"] (spR (Strm TT) K (mDraw TT))) :
    FnOk P w K mg base CX0 2 f fd ["_law_stream", "_law_some"] (spR (Strm TT) K (mPick TT)) :=
  FnR F sc_L_pick (fun ds g Kk h => by obtain ⟨_, _, rfl, _⟩ := h; rfl) fun cdv A outer s H Fz Z E hr => ⟨_, 
(ds_one (ds_ret (de_ixA (de_v (i := 1)) (de_callR C__law_draw hr (da_cons (de_v (i := 0)) (da_cons (de_len T.b_len (de_v (i := 1))) da_nil))))))
  , fun ds g Kk h => by
    obtain ⟨d, xs, rfl, hd, h0, h1, hc, k⟩ := h
    have hl : lenD d = some (.int xs.length) := by rcases sq_cases hd with rfl | rfl <;> rfl
    refine ⟨_, rfl, _, rfl, _, rfl, _, hl, _, rfl, hc, by omega, by omega, fun i i0 i1 => ?_⟩
    have hi : i.toNat < xs.length := by omega
    have hix : ixD d (.int i) = some xs[i.toNat] := by
      have e : ixN xs.length i = some i.toNat := by
        unfold ixN
        rw [if_pos i0, if_pos (by omega)]
      rcases sq_cases hd with rfl | rfl
      · rw [Q.ix_lst, e]; exact List.getElem?_eq_getElem hi
      · rw [Q.ix_tup, e]; exact List.getElem?_eq_getElem hi
    exact ⟨_, hix, k _ (List.getElem_mem hi)⟩⟩
-- _law_mixed: slots 0 _law_stream, 1 _law_some, 2 _law_left, 3 _law_k
abbrev s_L_mixed : Stmt := (top 46)
abbrev N_sc_L_mixed : List Str := ["_law_stream", "_law_some", "_law_left", "_law_k"]
theorem sc_L_mixed : FnScope N_sc_L_mixed ["_law_stream", "_law_some"] (defScope s_L_mixed) := ⟨rfl, rfl, rfl, by decide +kernel, rfl, by decide +kernel, by decide +kernel⟩
theorem ok_L_mixed (F : FnP K "_law_mixed" "_law_mixed" s_L_mixed f fd) (T : Tx K mg) (C__law_draw : Cal P w K mg base "_law_draw" 1 ["_law_stream", "_law_many"] (spR (Strm TT) K (mDraw TT))) :
    FnOk P w K mg base CX0 2 f fd ["_law_stream", "_law_some"] (spRF (Strm TT) K (mMixed TT)) :=
  FnRF F sc_L_mixed (fun ds g Kk h => by obtain ⟨_, _, rfl, _⟩ := h; rfl) fun cdv A outer s H Fz Z E hr => ⟨_, 
(ds_cons (ds_new (i := 2) sc_L_mixed.nd (fe_list T.b_list (de_v (i := 1))))
 (ds_one (ds_retF (fe_lc (own := [("_law_k", 3)]) sc_L_mixed.nd (di_rng T.b_range (de_len T.b_len (de_b (i := 2)))) (blkOk_by (own := [("_law_k", 3)]) (N := N_sc_L_mixed) (sc := defScope s_L_mixed) (by decide +kernel)) (fun _ _ _ _ _ => (dg_name (i := 3) sc_L_mixed.nd)) (fun _ _ _ _ _ => dts_nil) (fun _ _ _ _ _ => (de_pop (i := 2) (de_callR C__law_draw hr (da_cons (de_v (i := 0)) (da_cons (de_len T.b_len (de_b (i := 2))) da_nil)))))))))
  , fun ds g Kk h => by
    obtain ⟨d, xs, rfl, hd, h1, hc, k⟩ := h
    have hl : listD d = some (.lst xs) := by rcases sq_cases hd with rfl | rfl <;> rfl
    refine ⟨_, rfl, _, hl, ?_⟩
    refine .inr ⟨_, rfl, _, rfl, (xs.length : Int), rfl, by omega, by omega, ?_⟩
    let mk : List D → Nat → DS (Strm TT) := fun left n => ⟨(⟨g.st, g.L, g.c + n⟩ : SG), [some (.fz (.raw (.ref g.st))), some (.fz d), some (.own (.lst left)), none]⟩
    refine ⟨by simp [rngD]; omega, fun i m d' q => ?_, ?_⟩
    · have e : i = 3 := by simpa using m
      subst e
      cases q
    · refine lcGo_ind (fun rest acc ρ => ∃ left, rest.length = left.length ∧ (acc ++ left).Perm xs ∧ ρ = mk left acc.length) ?_ ?_ _ _ _ ⟨xs, by simp [rngD], by simp, rfl⟩
      · rintro d' rest acc N ρ hN ⟨left, hlen, hp, rfl⟩
        have hl2 : acc.length + left.length = xs.length := by rw [← List.length_append]; exact hp.length_eq
        rw [List.length_cons] at hlen
        refine ⟨⟨_, rfl⟩, _, rfl, ?_⟩
        refine .inr ⟨_, rfl, _, rfl, _, rfl, by show g.c + acc.length ≤ 1000000; omega, by omega, by omega, fun i i0 i1 => ?_⟩
        have hi : i.toNat < left.length := by omega
        refine ⟨left, i.toNat, left[i.toNat], by rw [Int.toNat_of_nonneg i0], rfl, List.getElem?_eq_getElem hi, by omega, hN _ _ ⟨left.eraseIdx i.toNat, by rw [List.length_eraseIdx_of_lt hi]; omega, ?_, ?_⟩⟩
        · refine List.Perm.trans ?_ hp
          rw [List.append_assoc]
          refine List.Perm.append_left acc ?_
          exact perm_erase hi
        · rw [List.length_append]
          rfl
      · rintro acc ρ ⟨left, hlen, hp, rfl⟩
        have : left = [] := List.length_eq_zero_iff.mp hlen.symm
        subst this
        rw [List.append_nil] at hp
        have e : acc.length = xs.length := hp.length_eq
        have k := k acc hp
        rw [← e] at k
        exact k⟩
end
end L03

set_option Elab.async false
set_option linter.all false
set_option maxRecDepth 100000
set_option maxHeartbeats 4000000
namespace L03
open PySem PySem.Spec PyProof.Rows L2 Q
def sLETT : List Str := ["X", "Y", "Z", "Q7"]
def dTHING : List D := [.str "a", .str "b", .str "c", .int 5, .int 0]
def sNAME : List Str := ["p", "q", "r", "s", "way"]
/-- a drawn term -/
def dTerm (t : D) : Prop := t ∈ sLETT.map D.str ∨ t ∈ dTHING
/-- a drawn letter, as the law looks -/
def isCap : D → Bool
  | .str z => decide (z.cps.toList.headD 0 ∈ ("ABCDEFGHIJKLMNOPQRSTUVWXYZ" : Str).cps.toList)
  | _ => false
theorem dTerm_cases {P : D → Prop} (hX : P (.str "X")) (hY : P (.str "Y")) (hZ : P (.str "Z")) (hQ : P (.str "Q7")) (h1 : P (.str "a")) (h2 : P (.str "b")) (h3 : P (.str "c")) (h4 : P (.int 5)) (h5 : P (.int 0)) : ∀ t, dTerm t → P t := by
  rintro t (h | h)
  · simp only [sLETT, List.map_cons, List.map_nil, List.mem_cons, List.not_mem_nil, or_false] at h
    rcases h with rfl | rfl | rfl | rfl <;> assumption
  · simp only [dTHING, List.mem_cons, List.not_mem_nil, or_false] at h
    rcases h with rfl | rfl | rfl | rfl | rfl <;> assumption
theorem dTerm_tm : ∀ t, dTerm t → isTm t = true := dTerm_cases (by decide +kernel) (by decide +kernel) (by decide +kernel) (by decide +kernel) (by decide +kernel) (by decide +kernel) (by decide +kernel) (by decide +kernel) (by decide +kernel)
theorem dTerm_cap : ∀ t, dTerm t → isCap t = isLt t := dTerm_cases (by decide +kernel) (by decide +kernel) (by decide +kernel) (by decide +kernel) (by decide +kernel) (by decide +kernel) (by decide +kernel) (by decide +kernel) (by decide +kernel)
theorem dTerm_lett : ∀ t, dTerm t → isLt t = true → t ∈ sLETT.map D.str := fun t h hl => by
  rcases h with h | h
  · exact h
  · exfalso
    simp only [dTHING, List.mem_cons, List.not_mem_nil, or_false] at h
    rcases h with rfl | rfl | rfl | rfl | rfl <;> (revert hl; decide +kernel)
theorem lett_lt : ∀ z ∈ sLETT, strLt z = true := by decide +kernel
theorem name_nm : ∀ z ∈ sNAME, strNm z = true := by decide +kernel
theorem dTerm_str {z : Str} (h : z ∈ sLETT) : dTerm (.str z) := .inl (List.mem_map.mpr ⟨z, h, rfl⟩)
/-- a drawn atom -/
def dAtom (d : D) : Prop := ∃ z ts, d = .tup (.str z :: ts) ∧ z ∈ sNAME ∧ ts.length ≤ 2 ∧ ∀ t ∈ ts, dTerm t
theorem onceS_mem (zs : List Str) (y : Str) : y ∈ onceS zs ↔ y ∈ zs := by
  have go : ∀ (zs acc : List Str), y ∈ zs.foldl addS acc ↔ y ∈ acc ∨ y ∈ zs := by
    intro zs
    induction zs with
    | nil => simp
    | cons z zs ih =>
      intro acc
      rw [List.foldl_cons, ih]
      unfold addS
      by_cases h : z ∈ acc
      · rw [if_pos h]
        constructor
        · rintro (q | q)
          · exact .inl q
          · exact .inr (List.mem_cons_of_mem _ q)
        · rintro (q | q)
          · exact .inl q
          · rcases List.mem_cons.mp q with rfl | q
            · exact .inl h
            · exact .inr q
      · rw [if_neg h]
        simp [or_assoc]
  have := go zs []
  simpa [onceS] using this
theorem addS_nodup {acc : List Str} {z : Str} (h : acc.Nodup) : (addS acc z).Nodup := by
  unfold addS
  split
  · exact h
  · rename_i n
    rw [List.nodup_append]
    refine ⟨h, by simp, fun a ha b hb => ?_⟩
    rw [List.mem_singleton.mp hb]
    rintro rfl
    exact n ha
theorem onceS_nodup (zs : List Str) : (onceS zs).Nodup := by
  have go : ∀ (zs acc : List Str), acc.Nodup → (zs.foldl addS acc).Nodup := by
    intro zs
    induction zs with
    | nil => exact fun acc h => h
    | cons z zs ih => exact fun acc h => ih _ (addS_nodup h)
  exact go zs [] .nil
theorem onceS_len (zs : List Str) : (onceS zs).length ≤ zs.length := by
  have go : ∀ (zs acc : List Str), (zs.foldl addS acc).length ≤ acc.length + zs.length := by
    intro zs
    induction zs with
    | nil => simp
    | cons z zs ih =>
      intro acc
      have h1 := ih (addS acc z)
      have h2 : (addS acc z).length ≤ acc.length + 1 := by unfold addS; split <;> simp
      rw [List.foldl_cons, List.length_cons]
      omega
  simpa [onceS] using go zs []
section
variable {P : Program} {w : World} {K : PySem.W.Frag} {mg : Str → Option Value} {base : Heap} {f : Addr} {fd : FuncData} {TT : TbL}
def okStrs : List D → Prop := fun ds => ∃ zs : List Str, ds = [.lst (zs.map .str)] ∧ zs.length ≤ 1000
def strsOf : D → List Str
  | .lst xs => xs.map strOf
  | _ => []
theorem strsOf_map (zs : List Str) : strsOf (.lst (zs.map .str)) = zs := by
  show (zs.map D.str).map strOf = zs
  rw [List.map_map]
  exact List.map_id'' (fun _ => rfl) zs
-- _law_each_once: slots 0 _law_things, 1 _law_found, 2 _law_thing
abbrev s_L_each_once : Stmt := (top 48)
abbrev N_sc_L_each_once : List Str := ["_law_things", "_law_found", "_law_thing"]
theorem sc_L_each_once : FnScope N_sc_L_each_once ["_law_things"] (defScope s_L_each_once) := ⟨rfl, rfl, rfl, by decide +kernel, rfl, by decide +kernel, by decide +kernel⟩
theorem ok_L_each_once (F : FnP K "_law_each_once" "_law_each_once" s_L_each_once f fd) (T : Tx K mg) : FnOk P w K mg base CX0 1 f fd ["_law_things"] (spF K (wF okStrs fun ds => .lst ((onceS (strsOf (ds.headD .non))).map .str))) :=
  FnF F sc_L_each_once (fun ds Kk h => by obtain ⟨⟨_, rfl, _⟩, _⟩ := h; rfl) fun cdv A outer s H Fz E hr => ⟨_, 
(ds_cons (ds_new (i := 1) sc_L_each_once.nd (fe_lst da_nil))
 (ds_cons (ds_for (di_seq (de_v (i := 0))) (dg_name (i := 2) sc_L_each_once.nd)
  (ds_one (ds_if (dt_cm (c_ni hr) (de_v (i := 2)) (de_b (i := 1))) (ds_one (ds_app (i := 1) (de_v (i := 2)))) ds_nil)))
 (ds_one (ds_retO (i := 1)))))
  , fun ds Kk h => by
    obtain ⟨⟨zs, rfl, hl⟩, k⟩ := h
    replace k : Kk (.lst ((onceS (strsOf (.lst (zs.map .str)))).map .str)) := k
    rw [strsOf_map] at k
    simp only [sSeq, sSet, sNew, sNext, sPass, sRet, sIf, sApp, sExt, sDrop, sAsg, wIfE, wTest, wTruth, wBand, wBor, wBnot, wOp, wUn, wCall, wCons, wNil, wTup, wLst]
    refine ⟨by simp, _, rfl, _, rfl, ?_⟩
    let mk : List Str → Option DV → DS noR := fun acc x => ⟨noG, [some (.fz (.lst (zs.map .str))), some (.own (.lst (acc.map .str))), x]⟩
    refine forGo_ind (fun rest ρ => ∃ acc x ys, rest = ys.map D.str ∧ ys.foldl addS acc = onceS zs ∧ acc.length + ys.length ≤ 1000 ∧ ρ = mk acc x) ?_ ?_ _ _ ⟨[], none, zs, rfl, rfl, by simpa using hl, rfl⟩
    · rintro d rest N ρ hN ⟨acc, x, ys, hr, hf, hlen, rfl⟩
      cases ys with
      | nil => cases hr
      | cons y ys =>
        cases hr
        rw [List.foldl_cons] at hf
        rw [List.length_cons] at hlen
        refine ⟨.str y, rfl, .inr ⟨_, rfl, _, inD_strs true y acc, _, rfl, ?_⟩⟩
        by_cases m : y ∈ acc
        · rw [decide_eq_true m]
          have e : addS acc y = acc := if_pos m
          rw [e] at hf
          exact itF (hN _ ⟨acc, _, ys, rfl, hf, by omega, rfl⟩)
        · rw [decide_eq_false m]
          have e : addS acc y = acc ++ [y] := if_neg m
          rw [e] at hf
          refine itT ⟨⟨_, rfl⟩, .str y, rfl, _, rfl, by rw [List.length_map]; omega, hN _ ⟨acc ++ [y], some (.fz (.str y)), ys, rfl, hf, by rw [List.length_append]; simp; omega, ?_⟩⟩
          simp only [mk, List.map_append]
          rfl
    · rintro ρ ⟨acc, x, ys, hr, hf, hlen, rfl⟩
      have : ys = [] := by cases ys with
        | nil => rfl
        | cons y ys => cases hr
      subst this
      have hf : acc = onceS zs := hf
      subst hf
      exact ⟨_, rfl, k⟩⟩
def dTerm1 : List D → Prop := fun ds => ∃ t, ds = [t] ∧ dTerm t
-- _law_is_letter: slots 0 _law_term
abbrev s_L_is_letter : Stmt := (top 49)
abbrev N_sc_L_is_letter : List Str := ["_law_term"]
theorem sc_L_is_letter : FnScope N_sc_L_is_letter ["_law_term"] (defScope s_L_is_letter) := ⟨rfl, rfl, rfl, by decide +kernel, rfl, by decide +kernel, by decide +kernel⟩
theorem ok_L_is_letter (F : FnP K "_law_is_letter" "_law_is_letter" s_L_is_letter f fd) (T : Tx K mg) : FnOk P w K mg base CX0 1 f fd ["_law_term"] (spD K (wF dTerm1 fun ds => .bl (isLt (ds.headD .non)))) :=
  FnD F sc_L_is_letter (fun ds Kk h => by obtain ⟨⟨_, rfl, _⟩, _⟩ := h; rfl) fun cdv A outer s H Fz E hr => ⟨_, 
(ds_one (ds_ret (de_and (de_is1 T.b_isinstance (TyN.mk (t := .str) (by rfl) T.b_str (by decide +kernel) (by decide) (by decide)) (de_v (i := 0))) (de_one (de_cm (c_in hr) (de_ixA (de_v (i := 0)) de_int) de_str)))))
  , fun ds Kk h => by
    obtain ⟨⟨t, rfl, ht⟩, k⟩ := h
    replace k : Kk (.bl (isLt t)) := k
    rw [← dTerm_cap t ht] at k
    have h0 := isTm_tmB (dTerm_tm t ht)
    have hn : ∀ z, t = .str z → z.cps.toList ≠ [] := by
      refine dTerm_cases (P := fun t => ∀ z, t = .str z → z.cps.toList ≠ []) ?_ ?_ ?_ ?_ ?_ ?_ ?_ ?_ ?_ t ht <;> intro z e <;> cases e <;> decide +kernel
    cases t with
    | str z =>
      obtain ⟨⟨l⟩⟩ := z
      cases l with
      | nil => exact absurd rfl (hn _ rfl)
      | cons a r =>
        have hx : r.length + 1 ≤ 100000 := by simpa [Str.length] using h0
        simp [sRet, wAndV, wOrV, wNotV, wUn, wOp, wV, wB, wO, wC, wIfE, wTest, wTruth, wBand, wBor, wBnot, wChain, wSl, wPart, wTup, wLst, wCons, wNil, wCall, sIf, sSeq, sSet, sNew, sNext, sPass, sApp, sExt, sDrop, sAsg, gNm, gTp, gCs, gNl, startD, DS.put, wF, isaD, eqD, inSq, ixN, Q.signs, Str.length, hx, isCap, xr] at k ⊢
        exact k
    | int i => simp [sRet, wAndV, wOrV, wNotV, wUn, wOp, wV, wB, wO, wC, wIfE, wTest, wTruth, wBand, wBor, wBnot, wChain, wSl, wPart, wTup, wLst, wCons, wNil, wCall, sIf, sSeq, sSet, sNew, sNext, sPass, sApp, sExt, sDrop, sAsg, gNm, gTp, gCs, gNl, startD, DS.put, wF, isaD, eqD, inSq, isCap] at k ⊢; exact k
    | _ => rcases ht with h | h <;> simp [sLETT, dTHING] at h⟩
end
end L03

set_option Elab.async false
set_option linter.all false
set_option maxRecDepth 100000
set_option maxHeartbeats 4000000
namespace L03
open PySem PySem.Spec PyProof.Rows L2 Q
theorem addL_eq : ∀ (ts : List D) (acc : List Str), ts.foldl addL acc = ((ts.filter isLt).map strOf).foldl addS acc
  | [], acc => rfl
  | t :: ts, acc => by
    rw [List.foldl_cons, addL_eq ts]
    cases h : isLt t with
    | true =>
      rw [List.filter_cons_of_pos h, List.map_cons, List.foldl_cons]
      have e : addL acc t = addS acc (strOf t) := by
        cases t <;> simp [isLt] at h
        rename_i z
        by_cases m : z ∈ acc <;> simp [addL, addS, strOf, h, m]
      rw [e]
    | false =>
      rw [List.filter_cons_of_neg (by rw [h]; decide)]
      have : addL acc t = acc := by
        cases t <;> simp [isLt] at h <;> simp [addL, h]
      rw [this]
theorem lettersP_once (ps : List D) : lettersP ps = onceS (((ps.flatMap termsP).filter isLt).map strOf) := addL_eq _ []
theorem name_not {z : Str} (h : z ∈ sNAME) : z ≠ "not" := (nm_not (name_nm z h)).1
theorem dAtom.terms {d : D} (h : dAtom d) : ∃ z ts, d = .tup (.str z :: ts) ∧ termsP d = ts ∧ z ≠ "not" ∧ ts.length ≤ 2 ∧ ∀ t ∈ ts, dTerm t := by
  obtain ⟨z, ts, rfl, hz, h2, h3⟩ := h
  refine ⟨z, ts, rfl, ?_, name_not hz, h2, h3⟩
  simp only [termsP, name_not hz]
  rfl
theorem dAtom.okRow {z : Str} {ts : List D} (hz : z ∈ sNAME) (h2 : ts.length ≤ 2) (h3 : ∀ t ∈ ts, dTerm t) : okRow (.str z :: ts) := ⟨z, ts, rfl, name_nm z hz, by omega, List.all_eq_true.mpr fun t ht => dTerm_tm t (h3 t ht)⟩
theorem dAtom.ok {d : D} (h : dAtom d) : okPart d ∧ plainP d = true := by
  obtain ⟨z, ts, rfl, hz, h2, h3⟩ := h
  refine ⟨.inl ⟨_, rfl, dAtom.okRow hz h2 h3⟩, ?_⟩
  obtain ⟨n1, n2⟩ := nm_not (name_nm z hz)
  simp [plainP, n1, n2]
theorem lts_back {ts : List D} : (ts.filter isLt).map (fun t => t) = ((ts.filter isLt).map strOf).map D.str := by
  rw [List.map_id']
  exact lts_strs (List.all_eq_true.mpr fun t h => (List.mem_filter.mp h).2)
section
variable {P : Program} {w : World} {K : PySem.W.Frag} {mg : Str → Option Value} {base : Heap} {f : Addr} {fd : FuncData} {TT : TbL}
def okAtoms : List D → Prop := fun ds => ∃ ps, ds = [.lst ps] ∧ ps.length ≤ 100 ∧ ∀ p ∈ ps, dAtom p
-- _law_letters: slots 0 _law_body, 1 _law_terms, 2 _law_part, 3 _law_term
abbrev s_L_letters : Stmt := (top 51)
abbrev N_sc_L_letters : List Str := ["_law_body", "_law_terms", "_law_part", "_law_term"]
theorem sc_L_letters : FnScope N_sc_L_letters ["_law_body"] (defScope s_L_letters) := ⟨rfl, rfl, rfl, by decide +kernel, rfl, by decide +kernel, by decide +kernel⟩
theorem ok_L_letters (F : FnP K "_law_letters" "_law_letters" s_L_letters f fd) (T : Tx K mg) (C__law_each_once : Cal P w K mg base "_law_each_once" 1 ["_law_things"] (spF K (wF okStrs fun ds => .lst ((onceS (strsOf (ds.headD .non))).map .str))))
    (C__law_is_letter : Cal P w K mg base "_law_is_letter" 1 ["_law_term"] (spD K (wF dTerm1 fun ds => .bl (isLt (ds.headD .non))))) :
    FnOk P w K mg base CX0 2 f fd ["_law_body"] (spF K (wF okAtoms fun ds => .lst ((lettersP ((sqOf (ds.headD .non)).getD [])).map .str))) :=
  FnF F sc_L_letters (fun ds Kk h => by obtain ⟨⟨_, rfl, _⟩, _⟩ := h; rfl) fun cdv A outer s H Fz E hr => ⟨_, 
(ds_cons (ds_new (i := 1) sc_L_letters.nd (fe_lst da_nil))
 (ds_cons (ds_for (di_seq (de_v (i := 0))) (dg_name (i := 2) sc_L_letters.nd)
  (ds_one (ds_extT (i := 1) (de_if (dt_cm (c_eq hr) (de_ixA (de_v (i := 2)) de_int) de_str) (de_sl (de_ixA (de_v (i := 2)) de_int) (dp_at de_int) dp_no) (de_sl (de_v (i := 2)) (dp_at de_int) dp_no)))))
 (ds_one (ds_retF (fe_call C__law_each_once hr (da_cons (FE.de (fe_lc (own := [("_law_term", 3)]) sc_L_letters.nd (di_seq (de_o (i := 1))) (blkOk_by (own := [("_law_term", 3)]) (N := N_sc_L_letters) (sc := defScope s_L_letters) (by decide +kernel)) (fun _ _ _ _ _ => (dg_name (i := 3) sc_L_letters.nd)) (fun _ _ _ _ _ => (dts_one (dt_truth (de_call C__law_is_letter hr (da_cons (de_v (i := 3)) da_nil))))) (fun _ _ _ _ _ => (de_v (i := 3))))) da_nil))))))
  , fun ds Kk h => by
    obtain ⟨⟨ps, rfl, hl, ha⟩, k⟩ := h
    replace k : Kk (.lst ((lettersP ps).map .str)) := k
    simp only [sSeq, sSet, sNew, sNext, sPass, sRet, sIf, sApp, sExt, sDrop, sAsg, wIfE, wTest, wTruth, wBand, wBor, wBnot, wOp, wUn, wCall, wCons, wNil, wTup, wLst]
    refine ⟨by simp, _, rfl, _, rfl, ?_⟩
    let mk : List D → Option DV → DS noR := fun ts x => ⟨noG, [some (.fz (.lst ps)), some (.own (.lst ts)), x, none]⟩
    refine forGo_ind (fun rest ρ => ∃ acc x, acc ++ rest.flatMap termsP = ps.flatMap termsP ∧ acc.length + 2 * rest.length ≤ 200 ∧ (∀ p ∈ rest, dAtom p) ∧ ρ = mk acc x) ?_ ?_ _ _ ⟨[], none, rfl, by simp; omega, ha, rfl⟩
    · rintro d rest N ρ hN ⟨acc, x, hf, hlen, hok, rfl⟩
      obtain ⟨z, ts, rfl, ht, hn, t2, t3⟩ := (hok d List.mem_cons_self).terms
      rw [List.flatMap_cons, ht, ← List.append_assoc] at hf
      rw [List.length_cons] at hlen
      refine ⟨⟨_, rfl⟩, _, rfl, .str z, by simp [ixN], _, rfl, _, rfl, ?_⟩
      have e : deq (.str z) (.str "not") = false := by
        rw [eq_str_str]
        exact beq_eq_false_iff_ne.mpr hn
      rw [e]
      refine itF ⟨_, rfl, _, rfl, rfl, .tup ts, congrArg (fun q => some (D.tup q)) (cut_tl _ ts), ?_⟩
      refine ⟨acc, ts, rfl, rfl, by omega, hN _ ⟨acc ++ ts, some (.fz (.tup (.str z :: ts))), hf, by rw [List.length_append]; omega, fun p h => hok p (List.mem_cons_of_mem _ h), rfl⟩⟩
    · rintro ρ ⟨acc, x, hf, hlen, hok, rfl⟩
      rw [List.flatMap_nil, List.append_nil] at hf
      subst hf
      have hterm : ∀ t ∈ ps.flatMap termsP, dTerm t := fun t ht => by
        obtain ⟨p, hp, hm⟩ := List.mem_flatMap.mp ht
        obtain ⟨z, ts, rfl, e, _, _, t3⟩ := (ha p hp).terms
        rw [e] at hm
        exact t3 t hm
      have hlen : (ps.flatMap termsP).length ≤ 200 := by simpa using hlen
      show wLc (wSq (wO 1)) (gNm 3) (wTruth (wCall (wF dTerm1 fun ds => D.bl (isLt (ds.headD D.non))) (wCons (wV 3) wNil))) (wV 3) [3] (mk (ps.flatMap termsP) x) (fun x ρ1 => wF okStrs (fun ds => D.lst (List.map D.str (onceS (strsOf (ds.headD D.non))))) [x] fun d => Kk d)
      refine wLc_via (ρ' := ⟨noG, [some (.fz (.lst ps)), some (.fz (.lst (ps.flatMap termsP))), x, none]⟩) (ds := ps.flatMap termsP) (fun K' k' => .inr ⟨_, rfl, _, rfl, k'⟩) _ ?_
      refine wLc_filter (ds := ps.flatMap termsP) (f := fun d => d) (p := isLt) (x := none) (fun K k => k) (by omega) rfl (fun _ h => by cases h) (fun d hd K k => ⟨d, rfl, ⟨d, rfl, hterm d hd⟩, _, rfl, k⟩) (fun d hd _ K k => ⟨d, rfl, k⟩) _ ?_
      rw [lts_back]
      refine ⟨⟨_, rfl, ?_⟩, ?_⟩
      · rw [List.length_map]
        exact Nat.le_trans (List.length_filter_le _ _) (by omega)
      · show Kk (.lst ((onceS (strsOf (.lst (((ps.flatMap termsP).filter isLt).map strOf |>.map .str)))).map .str))
        rw [strsOf_map, ← lettersP_once]
        exact k⟩
end
end L03

set_option Elab.async false
set_option linter.all false
set_option maxRecDepth 100000
set_option maxHeartbeats 4000000
namespace L03
open PySem PySem.Spec PyProof.Rows L2 Q
/-! drawn rules -/
def arN (z : Str) : Nat := if z = "q" then 2 else if z = "s" ∨ z = "t" then 1 else 3
def okA (d : D) : Prop := ∃ z ts, d = .tup (.str z :: ts) ∧ z ∈ sNAME ∧ ts.length + 1 = arN z ∧ ∀ t ∈ ts, dTerm t
def okP (p : D) : Prop := okA p ∨ (∃ a, okA a ∧ p = .tup [.str "not", a]) ∨ ∃ t u, dTerm t ∧ dTerm u ∧ p = .tup [.str "unlike", t, u]
def gRule (r : D) : Prop := ∃ h body, r = .tup [h, .tup body] ∧ okA h ∧ (∀ p ∈ body, okP p) ∧ body ≠ [] ∧ body.length ≤ 6 ∧ (∃ a ∈ body, okA a ∧ nmA a = "p") ∧ ∀ p, (p = h ∨ p ∈ body) → ∀ t ∈ termsP p, isLt t = true → ∃ q ∈ body, plainP q = true ∧ t ∈ termsP q
theorem arN_le (z : Str) : arN z ≤ 3 := by
  unfold arN
  split
  · decide
  · split <;> decide
theorem okA.d {d : D} (h : okA d) : dAtom d := by
  obtain ⟨z, ts, rfl, hz, hl, ht⟩ := h
  exact ⟨z, ts, rfl, hz, by have := arN_le z; omega, ht⟩
theorem okA.plain {d : D} (h : okA d) : plainP d = true := (dAtom.ok h.d).2
theorem okP.ok {p : D} (h : okP p) : okPart p := by
  rcases h with h | ⟨a, h, rfl⟩ | ⟨t, u, ht, hu, rfl⟩
  · exact (dAtom.ok h.d).1
  · obtain ⟨z, ts, rfl, hz, hl, htt⟩ := h
    exact .inr (.inl ⟨_, rfl, dAtom.okRow hz (by have := arN_le z; omega) htt⟩)
  · exact .inr (.inr ⟨t, u, rfl, dTerm_tm t ht, dTerm_tm u hu⟩)
theorem plain_in {z : Str} {r : List D} : inD true (.str z) (.tup [.str "not", .str "unlike"]) = some (.bl (plainP (.tup (.str z :: r)))) := by
  rw [in_tup]
  unfold inSq
  rw [if_pos ⟨by simp, by simp, by simp⟩]
  have : ([D.str "not", D.str "unlike"].any fun y => deq y (.str z)) = (decide (z = "not") || decide (z = "unlike")) := by
    rw [List.any_cons, List.any_cons, List.any_nil, Bool.or_false, eq_str_str, eq_str_str]
    have a : ∀ x : Str, (x == z) = decide (z = x) := fun x => by
      by_cases h : z = x
      · subst h; simp
      · have h' : ¬ x = z := fun e => h e.symm
        simp [h, h']
    rw [a, a]
  rw [this]
  simp [plainP, xr]
theorem okPart.first {p : D} (h : okPart p) : ∃ z r, p = .tup (.str z :: r) := by
  rcases h with ⟨xs, rfl, z, ts, rfl, _⟩ | ⟨xs, rfl, _⟩ | ⟨a, b, rfl, _⟩
  · exact ⟨z, ts, rfl⟩
  · exact ⟨_, _, rfl⟩
  · exact ⟨_, _, rfl⟩
theorem lettersP_mem (ps : List D) (z : Str) : z ∈ lettersP ps ↔ ∃ p ∈ ps, (.str z : D) ∈ termsP p ∧ strLt z = true := by
  rw [lettersP_once, onceS_mem]
  constructor
  · intro h
    obtain ⟨t, ht, e⟩ := List.mem_map.mp h
    obtain ⟨h1, h2⟩ := List.mem_filter.mp ht
    obtain ⟨p, hp, hm⟩ := List.mem_flatMap.mp h1
    cases t with
    | str y =>
      have e : y = z := e
      subst e
      exact ⟨p, hp, hm, h2⟩
    | _ => cases h2
  · rintro ⟨p, hp, hm, hl⟩
    exact List.mem_map.mpr ⟨.str z, List.mem_filter.mpr ⟨List.mem_flatMap.mpr ⟨p, hp, hm⟩, hl⟩, rfl⟩
/-- a part whose letters are among these -/
def InLs (xs : List D) (p : D) : Prop := okP p ∧ ∀ t ∈ termsP p, isLt t = true → t ∈ xs
def Cov (xs body : List D) : Prop := ∀ l ∈ xs, ∃ q ∈ body, plainP q = true ∧ l ∈ termsP q
theorem a1 {z : Str} {ts : List D} (hz : z ∈ sNAME) (hl : ts.length + 1 = arN z) (ht : ∀ t ∈ ts, dTerm t) : okA (.tup (.str z :: ts)) := ⟨z, ts, rfl, hz, hl, ht⟩
theorem terms_A {z : Str} {ts : List D} (hz : z ∈ sNAME) : termsP (.tup (.str z :: ts)) = ts := by
  simp only [termsP, name_not hz]
  rfl
theorem wild5 {xs : List D} {a b p : D} (ha : dTerm a ∧ (isLt a = true → a ∈ xs)) (hb : dTerm b ∧ (isLt b = true → b ∈ xs))
    (hp : p ∈ [D.tup [.str "not", .tup [.str "r", a, b]], .tup [.str "unlike", a, b], .tup [.str "way", b, a], .tup [.str "not", .tup [.str "q", a]], .tup [.str "s"]]) : InLs xs p := by
  have two : ∀ {x y : D}, (dTerm x ∧ (isLt x = true → x ∈ xs)) → (dTerm y ∧ (isLt y = true → y ∈ xs)) → (∀ t ∈ [x, y], dTerm t) ∧ ∀ t ∈ [x, y], isLt t = true → t ∈ xs := fun {x y} hx hy => by
    constructor <;>
    · intro t ht
      rcases List.mem_cons.mp ht with rfl | ht
      · first | exact hx.1 | exact hx.2
      · rw [List.mem_singleton.mp ht]
        first | exact hy.1 | exact hy.2
  have hr : ("r" : Str) ∈ sNAME := by decide
  have hw : ("way" : Str) ∈ sNAME := by decide
  have hq : ("q" : Str) ∈ sNAME := by decide
  have hs : ("s" : Str) ∈ sNAME := by decide
  simp only [List.mem_cons, List.not_mem_nil, or_false] at hp
  rcases hp with rfl | rfl | rfl | rfl | rfl
  · exact ⟨.inr (.inl ⟨_, a1 hr (by show 2 + 1 = arN "r"; decide) (two ha hb).1, rfl⟩), (two ha hb).2⟩
  · exact ⟨.inr (.inr ⟨a, b, ha.1, hb.1, rfl⟩), (two ha hb).2⟩
  · exact ⟨.inl (a1 hw (by show 2 + 1 = arN "way"; decide) (two hb ha).1), (two hb ha).2⟩
  · refine ⟨.inr (.inl ⟨_, a1 hq (by show 1 + 1 = arN "q"; decide) fun t ht => ?_, rfl⟩), fun t ht => ?_⟩
    · rw [List.mem_singleton.mp ht]; exact ha.1
    · have ht : t ∈ [a] := ht
      rw [List.mem_singleton.mp ht]; exact ha.2
  · exact ⟨.inl (a1 hs (by decide) (fun t ht => nomatch ht)), (fun t ht => nomatch ht)⟩
theorem pick_in {xs : List D} {u v y : D} (hx : ∀ l ∈ xs, l ∈ sLETT.map D.str) (hu : u ∈ dTHING) (hv : v ∈ dTHING) (hy : y ∈ xs ++ [u, v]) : dTerm y ∧ (isLt y = true → y ∈ xs) := by
  rcases List.mem_append.mp hy with h | h
  · exact ⟨.inl (hx y h), fun _ => h⟩
  · have hth : y ∈ dTHING := by
      rcases List.mem_cons.mp h with rfl | h
      · exact hu
      · rw [List.mem_singleton.mp h]; exact hv
    refine ⟨.inr hth, fun hl => ?_⟩
    have : ∀ t ∈ dTHING, isLt t = false := by decide +kernel
    rw [this y hth] at hl
    cases hl
def okPs1 : List D → Prop := fun ds => ∃ ps, ds = [.lst ps] ∧ ps.length ≤ 100 ∧ ∀ p ∈ ps, okPart p
def mWild (TT : TbL) : WMR (Strm TT) := fun ds g Kk => ds = [.raw (.ref g.st)] ∧ g.c ≤ 800000 ∧ ∀ (r : D) (c' : Nat), gRule r → c' ≤ g.c + 60 → Kk r (⟨g.st, g.L, c'⟩ : SG)
section
variable {P : Program} {w : World} {K : PySem.W.Frag} {mg : Str → Option Value} {base : Heap} {f : Addr} {fd : FuncData} {TT : TbL}
-- _law_atoms: slots 0 _law_body, 1 _law_part
abbrev s_L_atoms : Stmt := (top 50)
abbrev N_sc_L_atoms : List Str := ["_law_body", "_law_part"]
theorem sc_L_atoms : FnScope N_sc_L_atoms ["_law_body"] (defScope s_L_atoms) := ⟨rfl, rfl, rfl, by decide +kernel, rfl, by decide +kernel, by decide +kernel⟩
theorem ok_L_atoms (F : FnP K "_law_atoms" "_law_atoms" s_L_atoms f fd) (T : Tx K mg) :
    FnOk P w K mg base CX0 1 f fd ["_law_body"] (spF K (wF okPs1 fun ds => .lst (((sqOf (ds.headD .non)).getD []).filter plainP))) :=
  FnF F sc_L_atoms (fun ds Kk h => by obtain ⟨⟨_, rfl, _⟩, _⟩ := h; rfl) fun cdv A outer s H Fz E hr => ⟨_, 
(ds_one (ds_retF (fe_lc (own := [("_law_part", 1)]) sc_L_atoms.nd (di_seq (de_v (i := 0))) (blkOk_by (own := [("_law_part", 1)]) (N := N_sc_L_atoms) (sc := defScope s_L_atoms) (by decide +kernel)) (fun _ _ _ _ _ => (dg_name (i := 1) sc_L_atoms.nd)) (fun _ _ _ _ _ => (dts_one (dt_cm (c_ni hr) (de_ixA (de_v (i := 1)) de_int) (de_tup (da_cons de_str (da_cons de_str da_nil)))))) (fun _ _ _ _ _ => (de_v (i := 1))))))
  , fun ds Kk h => by
    obtain ⟨⟨ps, rfl, hl, ho⟩, k⟩ := h
    replace k : Kk (.lst (ps.filter plainP)) := k
    let mk : DS noR := ⟨noG, [some (.fz (.lst ps)), none]⟩
    show wLc (wSq (wV 0)) (gNm 1) (wTest (wOp (inD true) (wOp ixD (wV 1) (wC noR (.int 0))) (wTup (wCons (wC noR (.str "not")) (wCons (wC noR (.str "unlike")) wNil))))) (wV 1) [1] mk (fun d _ => Kk d)
    refine wLc_filter (ds := ps) (f := fun d => d) (p := plainP) (x := none) (fun K k => ⟨_, rfl, ps, rfl, k⟩) (by omega) rfl (fun _ h => by cases h) (fun d hd K k => ?_) (fun d hd _ K k => ⟨d, rfl, k⟩) _ ?_
    · obtain ⟨z, r, rfl⟩ := (ho d hd).first
      exact ⟨_, rfl, .str z, by simp [ixN], by simp, _, plain_in, _, rfl, k⟩
    · rw [List.map_id']
      exact k⟩
-- _law_wild_rule: slots 0 _law_stream, 1 _law_letters_here, 2 _law_body, 3 _law_k, 4 _law_held, 5 _law_head, 6 _law_more, 7 _law_one, 8 _law_other, 9 _law_letter
abbrev s_L_wild_rule : Stmt := (top 52)
abbrev N_sc_L_wild_rule : List Str := ["_law_stream", "_law_letters_here", "_law_body", "_law_k", "_law_held", "_law_head", "_law_more", "_law_one", "_law_other", "_law_letter"]
theorem sc_L_wild_rule : FnScope N_sc_L_wild_rule ["_law_stream"] (defScope s_L_wild_rule) := ⟨rfl, rfl, rfl, by decide +kernel, rfl, by decide +kernel, by decide +kernel⟩
theorem ok_L_wild_rule (F : FnP K "_law_wild_rule" "_law_wild_rule" s_L_wild_rule f fd) (T : Tx K mg) (C__law_pick : Cal P w K mg base "_law_pick" 2 ["_law_stream", "_law_some"] (spR (Strm TT) K (mPick TT)))
    (C__law_mixed : Cal P w K mg base "_law_mixed" 2 ["_law_stream", "_law_some"] (spRF (Strm TT) K (mMixed TT)))
    (C__law_draw : Cal P w K mg base "_law_draw" 1 ["_law_stream", "_law_many"] (spR (Strm TT) K (mDraw TT))) (C__law_atoms : Cal P w K mg base "_law_atoms" 1 ["_law_body"] (spF K (wF okPs1 fun ds => .lst (((sqOf (ds.headD .non)).getD []).filter plainP))))
    (C__law_letters : Cal P w K mg base "_law_letters" 2 ["_law_body"] (spF K (wF okAtoms fun ds => .lst ((lettersP ((sqOf (ds.headD .non)).getD [])).map .str)))) :
    FnOk P w K mg base CX0 3 f fd ["_law_stream"] (spR (Strm TT) K (mWild TT)) :=
  FnR F sc_L_wild_rule (fun ds g Kk h => by obtain ⟨rfl, _⟩ := h; rfl) fun cdv A outer s H Fz Z E hr => ⟨_, 
(ds_cons (ds_set (i := 1) sc_L_wild_rule.nd (de_slH (FE.de (fe_callR C__law_mixed hr (da_cons (de_v (i := 0)) (da_cons (FE.de (fe_lst (da_cons de_str (da_cons de_str (da_cons de_str (da_cons de_str da_nil)))))) da_nil)))) (de_add de_int (de_callR C__law_draw hr (da_cons (de_v (i := 0)) (da_cons de_int da_nil))))))
 (ds_cons (ds_new (i := 2) sc_L_wild_rule.nd (fe_lst (da_cons (de_tup (da_cons de_str (da_cons (de_callR C__law_pick hr (da_cons (de_v (i := 0)) (da_cons (de_v (i := 1)) da_nil))) (da_cons (de_ixA (de_v (i := 1)) de_int) da_nil)))) da_nil)))
 (ds_cons (ds_ext (i := 2) (FE.de (fe_lc (own := [("_law_letter", 9)]) sc_L_wild_rule.nd (di_seq (de_sl (de_v (i := 1)) (dp_at de_int) dp_no)) (blkOk_by (own := [("_law_letter", 9)]) (N := N_sc_L_wild_rule) (sc := defScope s_L_wild_rule) (by decide +kernel)) (fun _ _ _ _ _ => (dg_name (i := 9) sc_L_wild_rule.nd)) (fun _ _ _ _ _ => dts_nil) (fun _ _ _ _ _ => (de_tup (da_cons de_str (da_cons (de_v (i := 9)) da_nil)))))))
 (ds_cons (ds_for (di_rng T.b_range (de_callR C__law_draw hr (da_cons (de_v (i := 0)) (da_cons de_int da_nil)))) (dg_name (i := 3) sc_L_wild_rule.nd)
  (ds_cons (ds_par2 (i := 7) (k := 8) sc_L_wild_rule.nd (by decide) (da_cons (de_callR C__law_pick hr (da_cons (de_v (i := 0)) (da_cons (de_add (de_v (i := 1)) (FE.de (fe_lst (da_cons de_str (da_cons de_int da_nil))))) da_nil))) (da_cons (de_callR C__law_pick hr (da_cons (de_v (i := 0)) (da_cons (de_add (de_v (i := 1)) (FE.de (fe_lst (da_cons de_str (da_cons de_int da_nil))))) da_nil))) da_nil)))
 (ds_cons (ds_set (i := 6) sc_L_wild_rule.nd (FE.de (fe_lst (da_cons (de_tup (da_cons de_str (da_cons (de_tup (da_cons de_str (da_cons (de_v (i := 7)) (da_cons (de_v (i := 8)) da_nil)))) da_nil))) (da_cons (de_tup (da_cons de_str (da_cons (de_v (i := 7)) (da_cons (de_v (i := 8)) da_nil)))) (da_cons (de_tup (da_cons de_str (da_cons (de_v (i := 8)) (da_cons (de_v (i := 7)) da_nil)))) (da_cons (de_tup (da_cons de_str (da_cons (de_tup (da_cons de_str (da_cons (de_v (i := 7)) da_nil))) da_nil))) (da_cons (de_tup (da_cons de_str da_nil)) da_nil))))))))
 (ds_one (ds_app (i := 2) (de_callR C__law_pick hr (da_cons (de_v (i := 0)) (da_cons (de_v (i := 6)) da_nil))))))))
 (ds_cons (ds_set (i := 4) sc_L_wild_rule.nd (FE.de (fe_call C__law_letters hr (da_cons (FE.de (fe_call C__law_atoms hr (da_cons (de_o (i := 2)) da_nil))) da_nil))))
 (ds_cons (ds_set (i := 5) sc_L_wild_rule.nd (de_callR C__law_pick hr (da_cons (de_v (i := 0)) (da_cons (FE.de (fe_lst (da_cons (de_tup (da_cons de_str (da_cons (de_ixA (de_v (i := 4)) (de_neg de_int)) (da_cons (de_callR C__law_pick hr (da_cons (de_v (i := 0)) (da_cons (de_add (de_v (i := 4)) (FE.de (fe_lst (da_cons de_str da_nil)))) da_nil))) da_nil)))) (da_cons (de_tup (da_cons de_str (da_cons de_str (da_cons (de_ixA (de_v (i := 4)) de_int) da_nil)))) (da_cons (de_tup (da_cons de_str da_nil)) da_nil))))) da_nil))))
 (ds_one (ds_ret (de_tup (da_cons (de_v (i := 5)) (da_cons (de_tuple T.b_tuple (FE.de (fe_callR C__law_mixed hr (da_cons (de_v (i := 0)) (da_cons (de_o (i := 2)) da_nil))))) da_nil)))))))))))
  , fun ds g Kk h => by
    obtain ⟨rfl, hc, k⟩ := h
    simp only [sSeq, sSet, sNew, sNext, sPass, sRet, sIf, sApp, sExt, sDrop, sAsg, wIfE, wTest, wTruth, wBand, wBor, wBnot, wOp, wUn, wCall, wCons, wNil, wTup, wLst]
    refine ⟨_, rfl, by simp, ⟨_, [.str "X", .str "Y", .str "Z", .str "Q7"], rfl, rfl, by simp, by show g.c + 4 ≤ _; omega, fun ys hys => ?_⟩⟩
    refine ⟨_, rfl, 3, rfl, by show g.c + 4 ≤ _; omega, by decide, by decide, fun i i0 i3 => ?_⟩
    obtain ⟨n, rfl⟩ : ∃ n : Nat, i = n := ⟨i.toNat, by omega⟩
    have hyl : ys.length = 4 := hys.length_eq
    have hn3 : n < 3 := by omega
    refine ⟨.int ((1 + n : Nat) : Int), by simp [addD], _, .lst (ys.take (1 + n)), rfl, ?_, ?_⟩
    · rw [← cut_take ys (1 + n) (by omega)]; rfl
    obtain ⟨l0, lr, hx⟩ : ∃ l0 lr, ys.take (1 + n) = l0 :: lr := by
      cases ys with
      | nil => cases hyl
      | cons y ys => exact ⟨y, ys.take n, by rw [Nat.add_comm]; rfl⟩
    have hxl : lr.length + 1 = 1 + n := by
      have := congrArg List.length hx
      rw [List.length_take, List.length_cons] at this
      omega
    have hxs : ∀ l ∈ l0 :: lr, l ∈ sLETT.map D.str := fun l hl => by
      rw [← hx] at hl
      exact hys.mem_iff.mp (List.mem_of_mem_take hl)
    rw [hx]
    generalize hX : l0 :: lr = xs at hxs
    have hl0 : l0 ∈ xs := by rw [← hX]; exact List.mem_cons_self
    have hxl3 : xs.length ≤ 3 := by rw [← hX, List.length_cons]; omega
    let mk : List D → Nat → Option DV → Option DV → Option DV → Option DV → DS (Strm TT) := fun body c' x3 x6 x7 x8 => ⟨(⟨g.st, g.L, c'⟩ : SG), [some (.fz (.raw (.ref g.st))), some (.fz (.lst xs)), some (.own (.lst body)), x3, none, none, x6, x7, x8, none]⟩
    refine ⟨_, rfl, _, rfl, ⟨_, xs, rfl, rfl, by rw [← hX]; simp, by omega, by show g.c + 4 + 1 ≤ _; omega, fun y hy => ?_⟩⟩
    refine ⟨_, rfl, l0, by rw [← hX]; simp [ixN], by simp, by simp, ⟨_, rfl⟩, ?_⟩
    have hY : dTerm y ∧ (isLt y = true → y ∈ xs) := ⟨.inl (hxs y hy), fun _ => hy⟩
    have hL : ∀ l ∈ xs, dTerm l ∧ (isLt l = true → l ∈ xs) := fun l hl => ⟨.inl (hxs l hl), fun _ => hl⟩
    let b0 : List D := .tup [.str "p", y, l0] :: lr.map fun l => .tup [.str "q", l]
    have hb0 : (∀ p ∈ b0, InLs xs p) ∧ Cov xs b0 ∧ ∃ a ∈ b0, okA a ∧ nmA a = "p" := by
      have pn : ("p" : Str) ∈ sNAME := by decide
      have qn : ("q" : Str) ∈ sNAME := by decide
      have pA : okA (.tup [.str "p", y, l0]) := a1 pn (by show 2 + 1 = arN "p"; decide) fun t ht => by
        rcases List.mem_cons.mp ht with rfl | ht
        · exact hY.1
        · rw [List.mem_singleton.mp ht]; exact (hL l0 hl0).1
      have qA : ∀ l ∈ xs, okA (.tup [.str "q", l]) := fun l hl => a1 qn (by show 1 + 1 = arN "q"; decide) fun t ht => by rw [List.mem_singleton.mp ht]; exact (hL l hl).1
      have lrx : ∀ l ∈ lr, l ∈ xs := fun l hl => by rw [← hX]; exact List.mem_cons_of_mem _ hl
      refine ⟨?_, ?_, _, List.mem_cons_self, pA, rfl⟩
      · intro p hp
        rcases List.mem_cons.mp hp with rfl | hp
        · refine ⟨.inl pA, fun t ht _ => ?_⟩
          have ht : t ∈ [y, l0] := ht
          rcases List.mem_cons.mp ht with rfl | ht
          · exact hy
          · rw [List.mem_singleton.mp ht]; exact hl0
        · obtain ⟨l, hl, rfl⟩ := List.mem_map.mp hp
          refine ⟨.inl (qA l (lrx l hl)), fun t ht _ => ?_⟩
          have ht : t ∈ [l] := ht
          rw [List.mem_singleton.mp ht]; exact lrx l hl
      · intro l hl
        rw [← hX] at hl
        rcases List.mem_cons.mp hl with rfl | hl
        · exact ⟨_, List.mem_cons_self, pA.plain, by show l ∈ [y, l]; simp⟩
        · exact ⟨.tup [.str "q", l], List.mem_cons_of_mem _ (List.mem_map_of_mem hl), (qA l (lrx l hl)).plain, by show l ∈ [l]; simp⟩
    have e1 : Q.cutD xs (some 1) none = lr := by rw [← hX]; exact cut_tl _ lr
    show wLc (wSq (wSl (wV 1) (some (wC _ (.int 1))) none)) (gNm 9) wYes (wTup (wCons (wC _ (.str "q")) (wCons (wV 9) wNil))) [9] (mk [.tup [.str "p", y, l0]] (g.c + 4 + 1 + 1) none none none none) _
    refine wLc_map (ds := lr) (f := fun l => .tup [.str "q", l]) (x := none) (fun K k => ⟨_, rfl, _, rfl, rfl, .lst lr, by rw [← e1]; rfl, lr, rfl, k⟩) (by omega) rfl (fun _ h => by cases h) (fun l hl K k => ⟨_, rfl, by simp, k⟩) _ ?_
    refine ⟨_, _, rfl, rfl, by simp; omega, ?_⟩
    refine ⟨_, rfl, 4, rfl, by show g.c + 4 + 1 + 1 ≤ _; omega, by decide, by decide, fun m m0 m4 => ⟨m, rfl, by omega, by omega, ?_⟩⟩
    refine forGo_ind (fun rest ρ => ∃ body c' x3 x6 x7 x8, rest.length ≤ 3 ∧ body.length + rest.length ≤ 6 ∧ body ≠ [] ∧ (∀ p ∈ body, InLs xs p) ∧ Cov xs body ∧ (∃ a ∈ body, okA a ∧ nmA a = "p") ∧ c' + 3 * rest.length ≤ g.c + 20 ∧ ρ = mk body c' x3 x6 x7 x8) ?_ ?_ _ _ ⟨b0, g.c + 4 + 1 + 1 + 1, none, none, none, none, ?_, ?_, by simp [b0], hb0.1, hb0.2.1, hb0.2.2, ?_, rfl⟩
    · rintro d rest N ρ hN ⟨body, c', x3, x6, x7, x8, h3, hlen, hne, hin, hcov, ⟨ap, hap, hap2⟩, hc', rfl⟩
      rw [List.length_cons] at h3 hlen hc'
      have ev : ∀ (u v : D), xs.length ≤ 3 → addD (.lst xs) (.lst [u, v]) = some (.lst (xs ++ [u, v])) := fun u v h => by rw [ad_lst, if_pos (by simp; omega)]
      refine ⟨_, rfl, _, rfl, by simp, _, ev _ _ hxl3, ⟨_, _, rfl, rfl, by simp, by simp; omega, by show c' ≤ _; omega, fun a ha => ?_⟩⟩
      refine ⟨_, rfl, _, rfl, by simp, _, ev _ _ hxl3, ⟨_, _, rfl, rfl, by simp, by simp; omega, by show c' + 1 ≤ _; omega, fun b hb => ?_⟩⟩
      have ha := pick_in hxs (u := .str "a") (v := .int 5) (by simp [dTHING]) (by simp [dTHING]) ha
      have hb := pick_in hxs (u := .str "b") (v := .int 0) (by simp [dTHING]) (by simp [dTHING]) hb
      refine ⟨_, _, rfl, ?_⟩
      refine ⟨_, rfl, _, rfl, by simp, by simp, _, rfl, _, rfl, by simp, _, rfl, _, rfl, by simp, _, rfl, by simp, by simp, by simp, by simp, ?_⟩
      refine ⟨⟨_, rfl⟩, _, rfl, _, rfl, ⟨_, _, rfl, rfl, by simp, by simp, by show c' + 1 + 1 ≤ _; omega, fun p hp => ⟨body, rfl, by omega, ?_⟩⟩⟩
      have hp := wild5 ha hb hp
      refine hN _ ⟨body ++ [p], c' + 1 + 1 + 1, some (.fz d), _, some (.fz _), some (.fz _), by omega, by simp; omega, by simp, fun q hq => ?_, fun l hl => ?_, ⟨ap, List.mem_append_left _ hap, hap2⟩, by omega, rfl⟩
      · rcases List.mem_append.mp hq with h | h
        · exact hin q h
        · rw [List.mem_singleton.mp h]; exact hp
      · obtain ⟨q, hq, h1, h2⟩ := hcov l hl
        exact ⟨q, List.mem_append_left _ hq, h1, h2⟩
    · rintro ρ ⟨body, c', x3, x6, x7, x8, h3, hlen, hne, hin, hcov, ⟨ap, hap, hap2⟩, hc', rfl⟩
      have hpl : ∀ p ∈ body.filter plainP, dAtom p := fun p hp => by
        obtain ⟨h1, h2⟩ := List.mem_filter.mp hp
        rcases (hin p h1).1 with h | ⟨a, h, rfl⟩ | ⟨t, u, _, _, rfl⟩
        · exact h.d
        · cases h2
        · exact absurd h2 (by simp [plainP])
      obtain ⟨hs, hhs⟩ : ∃ hs, hs = lettersP (body.filter plainP) := ⟨_, rfl⟩
      have hmem : ∀ z, z ∈ hs ↔ ∃ p ∈ body, plainP p = true ∧ (.str z : D) ∈ termsP p ∧ strLt z = true := fun z => by
        rw [hhs, lettersP_mem]
        constructor
        · rintro ⟨p, hp, h⟩
          obtain ⟨h1, h2⟩ := List.mem_filter.mp hp
          exact ⟨p, h1, h2, h⟩
        · rintro ⟨p, hp, h2, h⟩
          exact ⟨p, List.mem_filter.mpr ⟨hp, h2⟩, h⟩
      have hne2 : hs ≠ [] := by
        obtain ⟨z0, hz0, e0⟩ := List.mem_map.mp (hxs l0 hl0)
        obtain ⟨q, hq, h1, h2⟩ := hcov l0 hl0
        have : z0 ∈ hs := (hmem z0).mpr ⟨q, hq, h1, by rw [e0]; exact h2, lett_lt z0 hz0⟩
        intro h
        rw [h] at this
        cases this
      have hls : ∀ z ∈ hs, dTerm (.str z) ∧ ∃ q ∈ body, plainP q = true ∧ (.str z : D) ∈ termsP q := fun z hz => by
        obtain ⟨q, hq, h1, h2, h3⟩ := (hmem z).mp hz
        exact ⟨.inl (hxs _ ((hin q hq).2 _ h2 h3)), q, hq, h1, h2⟩
      have hsl : hs.length ≤ 36 := by
        have h1 := lettersP_len (ps := body.filter plainP) fun p hp => (hin p (List.mem_filter.mp hp).1).1.ok
        have h2 := List.length_filter_le plainP body
        rw [← hhs] at h1
        simp at hlen
        omega
      obtain ⟨z0, zr, hz0⟩ := List.exists_cons_of_ne_nil hne2
      obtain ⟨zl, hzl, hzm⟩ : ∃ zl, ixD (.lst (hs.map .str)) (.int (-1)) = some (.str zl) ∧ zl ∈ hs := by
        have hl : 0 < hs.length := List.length_pos_iff.mpr hne2
        refine ⟨hs[hs.length - 1], ?_, List.getElem_mem _⟩
        rw [Q.ix_lst]
        have : ixN (hs.map D.str).length (-1) = some (hs.length - 1) := by
          unfold ixN
          rw [if_neg (by decide), List.length_map, if_pos (by omega)]
          congr 1
          omega
        rw [this]
        show (hs.map D.str)[hs.length - 1]? = _
        rw [List.getElem?_map, List.getElem?_eq_getElem (by omega)]
        rfl
      subst hhs
      have hb6 : body.length ≤ 6 := by simpa using hlen
      have lf : (body.filter plainP).length ≤ 6 := Nat.le_trans (List.length_filter_le _ _) hb6
      refine .inr ⟨_, rfl, ⟨body, rfl, by omega, fun p hp => (hin p hp).1.ok⟩, ⟨body.filter plainP, rfl, by omega, hpl⟩, ?_⟩
      generalize hH : lettersP (body.filter plainP) = hs at hmem hne2 hls hsl hz0 hzl hzm
      have e4 : some (some (DV.fz (.lst ((lettersP ((sqOf (.lst (((sqOf (.lst body)).getD []).filter plainP))).getD [])).map D.str)))) = some (some (DV.fz (.lst (hs.map .str)))) := by
        show some (some (DV.fz (.lst ((lettersP (body.filter plainP)).map D.str)))) = _
        rw [hH]
      have ad4 : addD (.lst (hs.map .str)) (.lst [.str "c"]) = some (.lst (hs.map .str ++ [.str "c"])) := by rw [ad_lst, if_pos (by simp; omega)]
      have ix0 : ixD (.lst (hs.map .str)) (.int 0) = some (.str z0) := by rw [hz0]; simp [ixN]
      refine ⟨_, rfl, _, e4, .int (-1), rfl, .str zl, hzl, ?_⟩
      refine ⟨_, rfl, _, e4, by simp, _, ad4, ⟨_, _, rfl, rfl, by simp, by simp; omega, by show c' ≤ _; omega, fun y2 hy2 => ?_⟩⟩
      refine ⟨by simp, _, e4, .str z0, ix0, by simp, by simp, by simp, ⟨_, _, rfl, rfl, by simp, by simp, by show c' + 1 ≤ _; omega, fun hd hhd => ?_⟩⟩
      have hcovd : okA hd ∧ ∀ t ∈ termsP hd, isLt t = true → ∃ q ∈ body, plainP q = true ∧ t ∈ termsP q := by
        have hw : ("way" : Str) ∈ sNAME := by decide
        have hr : ("r" : Str) ∈ sNAME := by decide
        have hS : ("s" : Str) ∈ sNAME := by decide
        have cth : (D.str "c") ∈ dTHING := by simp [dTHING]
        have ath : (D.str "a") ∈ dTHING := by simp [dTHING]
        have nol : ∀ t ∈ dTHING, isLt t = false := by decide +kernel
        have y2d : dTerm y2 ∧ (isLt y2 = true → ∃ q ∈ body, plainP q = true ∧ y2 ∈ termsP q) := by
          rcases List.mem_append.mp hy2 with h | h
          · obtain ⟨z, hz, rfl⟩ := List.mem_map.mp h
            exact ⟨(hls z hz).1, fun _ => (hls z hz).2⟩
          · rw [List.mem_singleton.mp h]
            exact ⟨.inr cth, fun e => by rw [nol _ cth] at e; cases e⟩
        have h0m : z0 ∈ hs := by rw [hz0]; exact List.mem_cons_self
        simp only [List.mem_cons, List.not_mem_nil, or_false] at hhd
        rcases hhd with rfl | rfl | rfl
        · refine ⟨a1 hw (by show 2 + 1 = arN "way"; decide) fun t ht => ?_, fun t ht hl => ?_⟩
          · rcases List.mem_cons.mp ht with rfl | ht
            · exact (hls zl hzm).1
            · rw [List.mem_singleton.mp ht]; exact y2d.1
          · have ht : t ∈ [.str zl, y2] := ht
            rcases List.mem_cons.mp ht with rfl | ht
            · exact (hls zl hzm).2
            · rw [List.mem_singleton.mp ht] at hl ⊢; exact y2d.2 hl
        · refine ⟨a1 hr (by show 2 + 1 = arN "r"; decide) fun t ht => ?_, fun t ht hl => ?_⟩
          · rcases List.mem_cons.mp ht with rfl | ht
            · exact .inr ath
            · rw [List.mem_singleton.mp ht]; exact (hls z0 h0m).1
          · have ht : t ∈ [.str "a", .str z0] := ht
            rcases List.mem_cons.mp ht with rfl | ht
            · rw [nol _ ath] at hl; cases hl
            · rw [List.mem_singleton.mp ht]; exact (hls z0 h0m).2
        · exact ⟨a1 hS (by decide) (fun t ht => nomatch ht), (fun t ht => nomatch ht)⟩
      refine ⟨_, rfl, _, rfl, .inl ⟨_, rfl, ⟨_, body, rfl, rfl, by omega, by show c' + 1 + 1 + body.length ≤ _; omega, fun ys hys => ⟨.tup ys, rfl, by simp, ?_⟩⟩⟩⟩
      refine k _ _ ⟨hd, ys, rfl, hcovd.1, fun p hp => (hin p (hys.mem_iff.mp hp)).1, fun h => hne (by rw [h] at hys; exact hys.symm.eq_nil), by rw [hys.length_eq]; omega, ⟨ap, hys.mem_iff.mpr hap, hap2⟩, fun p hp t ht hl => ?_⟩ (by show c' + 1 + 1 + body.length ≤ _; simp at hc'; omega)
      rcases hp with rfl | hp
      · obtain ⟨q, hq, h⟩ := hcovd.2 t ht hl
        exact ⟨q, hys.mem_iff.mpr hq, h⟩
      · obtain ⟨q, hq, h⟩ := hcov t ((hin p (hys.mem_iff.mp hp)).2 t ht hl)
        exact ⟨q, hys.mem_iff.mpr hq, h⟩
    · simp [rngD]; omega
    · simp [rngD, b0]; omega
    · simp [rngD]; omega⟩
end
end L03

set_option Elab.async false
set_option linter.all false
set_option maxRecDepth 100000
set_option maxHeartbeats 4000000
namespace L03
open PySem PySem.Spec PyProof.Rows L2 Q
/-! rules as they are handed -/
inductive All2 {α β : Type} (R : α → β → Prop) : List α → List β → Prop
  | nil : All2 R [] []
  | cons {a : α} {b : β} {as : List α} {bs : List β} : R a b → All2 R as bs → All2 R (a :: as) (b :: bs)
theorem All2.snoc {α β : Type} {R : α → β → Prop} {a : α} {b : β} : ∀ {as : List α} {bs : List β}, All2 R as bs → R a b → All2 R (as ++ [a]) (bs ++ [b])
  | _, _, .nil, h => .cons h .nil
  | _, _, .cons h t, r => .cons h (t.snoc r)
theorem All2.len {α β : Type} {R : α → β → Prop} : ∀ {as : List α} {bs : List β}, All2 R as bs → as.length = bs.length
  | _, _, .nil => rfl
  | _, _, .cons _ t => by rw [List.length_cons, List.length_cons, t.len]
theorem All2.of_mem {α β : Type} {R : α → β → Prop} {b : β} : ∀ {as : List α} {bs : List β}, All2 R as bs → b ∈ bs → ∃ a ∈ as, R a b
  | _, _, .nil, h => nomatch h
  | _, _, .cons r t, h => by
    rcases List.mem_cons.mp h with rfl | h
    · exact ⟨_, List.mem_cons_self, r⟩
    · obtain ⟨a, m, q⟩ := t.of_mem h
      exact ⟨a, List.mem_cons_of_mem _ m, q⟩
theorem All2.map_eq {α β : Type} {R : α → β → Prop} {f : β → α} (h : ∀ a b, R a b → f b = a) : ∀ {as : List α} {bs : List β}, All2 R as bs → bs.map f = as
  | _, _, .nil => rfl
  | _, _, .cons r t => by rw [List.map_cons, h _ _ r, t.map_eq h]
def handP (p q : D) : Prop := okP p ∧ (q = p ∨ (∃ xs, p = .tup xs ∧ q = .lst xs) ∨ ∃ xs, p = .tup [.str "not", .tup xs] ∧ q = .lst [.str "not", .lst xs])
def handR (r e : D) : Prop := gRule r ∧ ∃ hd body parts, r = .tup [.tup hd, .tup body] ∧ All2 handP body parts ∧ (e = .tup [.lst hd, .lst parts] ∨ e = .lst [.tup hd, .tup parts])
def gHand (rs : List D) (d : D) : Prop := ∃ es, All2 handR rs es ∧ (d = .lst es ∨ d = .tup es)
theorem gRule.parts {r : D} (h : gRule r) : ∃ hd body, r = .tup [.tup hd, .tup body] ∧ okA (.tup hd) ∧ okRow hd ∧ hd.length ≤ 3 ∧ (∀ p ∈ body, okP p) ∧ body ≠ [] ∧ body.length ≤ 6 := by
  obtain ⟨h, body, rfl, ⟨z, ts, rfl, hz, hl, ht⟩, ob, nb, lb, _, _⟩ := h
  have := arN_le z
  exact ⟨_, body, rfl, ⟨z, ts, rfl, hz, hl, ht⟩, dAtom.okRow hz (by omega) ht, by rw [List.length_cons]; omega, ob, nb, lb⟩
theorem gRule.ok {r : D} (h : gRule r) : okRule r := by
  obtain ⟨hd, body, rfl, oh, orow, lh, ob, nb, lb⟩ := h.parts
  exact ⟨hd, body, rfl, orow, fun p hp => (ob p hp).ok, by omega⟩
theorem handP.norm {p q : D} (h : handP p q) : asPart q = p := by
  obtain ⟨o, h⟩ := h
  rcases h with rfl | ⟨xs, rfl, rfl⟩ | ⟨xs, rfl, rfl⟩
  · exact o.ok.norm
  · have := o.ok.norm
    obtain ⟨z, r, e⟩ := o.ok.first
    have e : xs = .str z :: r := by cases e; rfl
    subst e
    rw [← this]
    rcases o.ok with ⟨ys, e, oo⟩ | ⟨ys, e, oo⟩ | ⟨a, b, e, h1, h2⟩
    · cases e
      have e1 := asAtom_ok (d := .tup (.str z :: r)) rfl oo
      have e2 := asAtom_ok (d := .lst (.str z :: r)) rfl oo
      obtain ⟨z', ts, e, h1, h2, h3⟩ := oo
      cases e
      obtain ⟨n1, n2⟩ := nm_not h1
      simp [asPart, n1, n2, e1, e2]
    · cases e
      simp [asPart, asNot]
    · cases e
      simp [asPart, asUnl, ne_un]
  · rcases o.ok with ⟨ys, e, oo⟩ | ⟨ys, e, oo⟩ | ⟨a, b, e, h1, h2⟩
    · cases e
      obtain ⟨z', ts, e, h1, h2, h3⟩ := oo
      cases e
      exact absurd rfl (nm_not h1).1
    · cases e
      have e2 := asAtom_ok (d := .lst xs) rfl oo
      simp [asPart, asNot, e2]
    · cases e
theorem handR.norm {r e : D} (h : handR r e) : asRule e = r := by
  obtain ⟨g, hd, body, parts, rfl, hp, he⟩ := h
  obtain ⟨hd', body', e1, oh, orow, lh, ob, nb, lb⟩ := g.parts
  cases e1
  have em : parts.map asPart = body := hp.map_eq fun _ _ h => h.norm
  have ea : (parts.any fun x => isNon (asPart x)) = false := by
    rw [List.any_eq_false]
    intro q hq
    obtain ⟨p, hp', hh⟩ := hp.of_mem hq
    rw [hh.norm]
    rcases (ob p hp').ok with ⟨xs, rfl, o⟩ | ⟨xs, rfl, o⟩ | ⟨a, b, rfl, h1, h2⟩ <;> exact (fun h => nomatch h)
  have a1 := asAtom_ok (d := .lst hd) rfl orow
  have a2 := asAtom_ok (d := .tup hd) rfl orow
  have b1 : asBody (.lst parts) = .tup body := by
    show (if (parts.any fun x => isNon (asPart x)) = true then D.non else .tup (parts.map asPart)) = _
    rw [ea, em]
    rfl
  have b2 : asBody (.tup parts) = .tup body := by
    show (if (parts.any fun x => isNon (asPart x)) = true then D.non else .tup (parts.map asPart)) = _
    rw [ea, em]
    rfl
  rcases he with rfl | rfl
  · show (if isNon (asAtom (.lst hd)) || isNon (asBody (.lst parts)) then D.non else .tup [asAtom (.lst hd), asBody (.lst parts)]) = _
    rw [a1, b1]
    rfl
  · show (if isNon (asAtom (.tup hd)) || isNon (asBody (.tup parts)) then D.non else .tup [asAtom (.tup hd), asBody (.tup parts)]) = _
    rw [a2, b2]
    rfl
theorem okRow.tm {xs : List D} (h : okRow xs) : tmBs xs = true := by
  obtain ⟨z, ts, rfl, h1, h2, h3⟩ := h
  rw [tmBs_iff]
  intro x hx
  rcases List.mem_cons.mp hx with rfl | hx
  · have : strNm z = true := h1
    simp [strNm] at this ⊢
    omega
  · exact isTm_tmB (List.all_eq_true.mp h3 x hx)
theorem okRow.len {xs : List D} (h : okRow xs) : xs.length ≤ 7 := by
  obtain ⟨z, ts, rfl, h1, h2, h3⟩ := h
  rw [List.length_cons]
  omega
theorem tmB_seq {xs : List D} (h : tmBs xs = true) (hl : xs.length ≤ 100000) : tmB (.lst xs) = true ∧ tmB (.tup xs) = true := by simp [h, hl]
theorem handP.tm {p q : D} (h : handP p q) : tmB q = true := by
  have hs1 : tmB (.str "not") = true := by decide +kernel
  have hs2 : tmB (.str "unlike") = true := by decide +kernel
  have tms : ∀ xs, p = .tup xs → tmBs xs = true ∧ xs.length ≤ 7 := fun xs e => by
    subst e
    rcases h.1.ok with ⟨ys, e, oo⟩ | ⟨ys, e, oo⟩ | ⟨a, b, e, h1, h2⟩
    · cases e; exact ⟨oo.tm, oo.len⟩
    · cases e
      have := (tmB_seq oo.tm (by have := oo.len; omega)).2
      simp [hs1, this]
    · cases e
      simp [hs2, isTm_tmB h1, isTm_tmB h2]
  obtain ⟨o, h⟩ := h
  rcases h with rfl | ⟨xs, rfl, rfl⟩ | ⟨xs, rfl, rfl⟩
  · obtain ⟨z, r, rfl⟩ := o.ok.first
    obtain ⟨t1, t2⟩ := tms _ rfl
    exact (tmB_seq t1 (by omega)).2
  · obtain ⟨t1, t2⟩ := tms _ rfl
    exact (tmB_seq t1 (by omega)).1
  · obtain ⟨t1, t2⟩ := tms _ rfl
    rcases o.ok with ⟨ys, e, oo⟩ | ⟨ys, e, oo⟩ | ⟨a, b, e, h1, h2⟩
    · cases e
      obtain ⟨z', ts, e, h1, h2, h3⟩ := oo
      cases e
      exact absurd rfl (nm_not h1).1
    · cases e
      have := (tmB_seq oo.tm (by have := oo.len; omega)).1
      simp [hs1, this]
    · cases e
theorem handR.tm {r e : D} (h : handR r e) : tmB e = true := by
  obtain ⟨g, hd, body, parts, rfl, hp, he⟩ := h
  obtain ⟨hd', body', e1, oh, orow, lh, ob, nb, lb⟩ := g.parts
  cases e1
  have h1 := tmB_seq orow.tm (by have := orow.len; omega)
  have h2 : tmBs parts = true := tmBs_iff.mpr fun q hq => by
    obtain ⟨p, _, hh⟩ := hp.of_mem hq
    exact hh.tm
  have h3 := tmB_seq h2 (by have := hp.len; omega)
  rcases he with rfl | rfl
  · simp [h1.1, h3.1]
  · simp [h1.2, h3.2]
theorem handR.small {r e : D} (h : handR r e) : smallR e := by
  intro hd body q
  rw [h.norm] at q
  obtain ⟨g, _⟩ := h
  obtain ⟨hd', body', e1, oh, orow, lh, ob, nb, lb⟩ := g.parts
  rw [e1] at q
  cases q
  omega
def mHanded (TT : TbL) : WMR (Strm TT) := fun ds g Kk => ∃ rs, ds = [.raw (.ref g.st), .lst rs] ∧ rs.length ≤ 5 ∧ (∀ r ∈ rs, gRule r) ∧ g.c ≤ 800000 ∧ ∀ (d : D) (c' : Nat), gHand rs d → c' ≤ g.c + 60 → Kk d (⟨g.st, g.L, c'⟩ : SG)
section
variable {P : Program} {w : World} {K : PySem.W.Frag} {mg : Str → Option Value} {base : Heap} {f : Addr} {fd : FuncData} {TT : TbL}
theorem eq_not (z : Str) : eqD false (.str z) (.str "not") = some (.bl (decide (z = "not"))) := by
  unfold eqD
  rw [if_pos ⟨by simp, by simp, by simp⟩, eq_str_str]
  by_cases h : z = "not"
  · subst h; rfl
  · have h' : (z == ("not" : Str)) = false := by rw [beq_eq_false_iff_ne]; exact h
    rw [h', decide_eq_false h]
    rfl
-- _law_handed_rules: slots 0 _law_stream, 1 _law_rules, 2 _law_found, 3 _law_head, 4 _law_body, 5 _law_parts, 6 _law_part
abbrev s_L_handed_rules : Stmt := (top 53)
abbrev N_sc_L_handed_rules : List Str := ["_law_stream", "_law_rules", "_law_found", "_law_head", "_law_body", "_law_parts", "_law_part"]
theorem sc_L_handed_rules : FnScope N_sc_L_handed_rules ["_law_stream", "_law_rules"] (defScope s_L_handed_rules) := ⟨rfl, rfl, rfl, by decide +kernel, rfl, by decide +kernel, by decide +kernel⟩
theorem ok_L_handed_rules (F : FnP K "_law_handed_rules" "_law_handed_rules" s_L_handed_rules f fd) (T : Tx K mg) (C__law_pick : Cal P w K mg base "_law_pick" 2 ["_law_stream", "_law_some"] (spR (Strm TT) K (mPick TT))) :
    FnOk P w K mg base CX0 3 f fd ["_law_stream", "_law_rules"] (spR (Strm TT) K (mHanded TT)) :=
  FnR F sc_L_handed_rules (fun ds g Kk h => by obtain ⟨_, rfl, _⟩ := h; rfl) fun cdv A outer s H Fz Z E hr => ⟨_, 
(ds_cons (ds_new (i := 2) sc_L_handed_rules.nd (fe_lst da_nil))
 (ds_cons (ds_for (di_seq (de_v (i := 1))) (dg_tup (n := 2) (dgs_cons (dg_name (i := 3) sc_L_handed_rules.nd) (dgs_cons (dg_name (i := 4) sc_L_handed_rules.nd) dgs_nil)))
  (ds_cons (ds_new (i := 5) sc_L_handed_rules.nd (fe_lst da_nil))
 (ds_cons (ds_for (di_seq (de_v (i := 4))) (dg_name (i := 6) sc_L_handed_rules.nd)
  (ds_one (ds_app (i := 5) (de_if (dt_cm (c_eq hr) (de_ixA (de_v (i := 6)) de_int) de_str) (FE.de (fe_lst (da_cons de_str (da_cons (FE.de (fe_list T.b_list (de_ixA (de_v (i := 6)) de_int))) da_nil)))) (de_callR C__law_pick hr (da_cons (de_v (i := 0)) (da_cons (FE.de (fe_lst (da_cons (de_v (i := 6)) (da_cons (FE.de (fe_list T.b_list (de_v (i := 6)))) da_nil)))) da_nil)))))))
 (ds_one (ds_app (i := 2) (de_callR C__law_pick hr (da_cons (de_v (i := 0)) (da_cons (FE.de (fe_lst (da_cons (de_tup (da_cons (FE.de (fe_list T.b_list (de_v (i := 3)))) (da_cons (de_o (i := 5)) da_nil))) (da_cons (FE.de (fe_lst (da_cons (de_v (i := 3)) (da_cons (de_tuple T.b_tuple (de_b (i := 5))) da_nil)))) da_nil)))) da_nil))))))))
 (ds_one (ds_ret (de_callR C__law_pick hr (da_cons (de_v (i := 0)) (da_cons (FE.de (fe_lst (da_cons (de_o (i := 2)) (da_cons (de_tuple T.b_tuple (de_b (i := 2))) da_nil)))) da_nil)))))))
  , fun ds g Kk h => by
    obtain ⟨rs, rfl, hl, hg, hc, k⟩ := h
    simp only [sSeq, sSet, sNew, sNext, sPass, sRet, sIf, sApp, sExt, sDrop, sAsg, wIfE, wTest, wTruth, wBand, wBor, wBnot, wOp, wUn, wCall, wCons, wNil, wTup, wLst]
    let mk : List D → Nat → Option DV → Option DV → Option DV → Option DV → DS (Strm TT) := fun es c' x3 x4 x5 x6 => ⟨(⟨g.st, g.L, c'⟩ : SG), [some (.fz (.raw (.ref g.st))), some (.fz (.lst rs)), some (.own (.lst es)), x3, x4, x5, x6]⟩
    refine ⟨by simp, _, rfl, rs, rfl, ?_⟩
    refine forGo_ind (fun rest ρ => ∃ dn es c' x3 x4 x5 x6, dn ++ rest = rs ∧ All2 handR dn es ∧ c' ≤ g.c + 10 * dn.length ∧ ρ = mk es c' x3 x4 x5 x6) ?_ ?_ _ _ ⟨[], [], g.c, none, none, none, none, rfl, .nil, by simp, rfl⟩
    · rintro d rest N ρ hN ⟨dn, es, c', x3, x4, x5, x6, hrs, ha, hc', rfl⟩
      have hd := hg d (by rw [← hrs]; simp)
      have hd0 := hd
      have hdl : dn.length + rest.length + 1 ≤ 5 := by
        have := congrArg List.length hrs
        rw [List.length_append, List.length_cons] at this
        omega
      obtain ⟨h, body, rfl, oh, orow, lh, ob, nb, lb⟩ := hd.parts
      refine ⟨_, rfl, rfl, _, _, rfl, _, _, rfl, rfl, ?_⟩
      refine ⟨by simp, _, rfl, body, rfl, ?_⟩
      let mk2 : List D → Nat → Option DV → DS (Strm TT) := fun ps c2 x6 => ⟨(⟨g.st, g.L, c2⟩ : SG), [some (.fz (.raw (.ref g.st))), some (.fz (.lst rs)), some (.own (.lst es)), some (.fz (.tup h)), some (.fz (.tup body)), some (.own (.lst ps)), x6]⟩
      refine forGo_ind (fun rest2 ρ => ∃ bd ps c2 x6, bd ++ rest2 = body ∧ All2 handP bd ps ∧ c2 ≤ c' + bd.length ∧ ρ = mk2 ps c2 x6) ?_ ?_ _ _ ⟨[], [], c', x6, rfl, .nil, by simp, rfl⟩
      · rintro p rest2 N2 ρ hN2 ⟨bd, ps, c2, y6, hbd, ha2, hc2, rfl⟩
        have hp := ob p (by rw [← hbd]; simp)
        have hbl : bd.length + rest2.length + 1 ≤ 6 := by
          have := congrArg List.length hbd
          rw [List.length_append, List.length_cons] at this
          omega
        have hpl := ha2.len
        have fin : ∀ (q : D) (c3 : Nat), handP p q → c3 ≤ c2 + 1 → N2 (mk2 (ps ++ [q]) c3 (some (.fz p))) := fun q c3 hq h3 => hN2 _ ⟨bd ++ [p], ps ++ [q], c3, _, by rw [List.append_assoc]; exact hbd, ha2.snoc hq, by simp; omega, rfl⟩
        refine ⟨⟨_, rfl⟩, ?_⟩
        rcases hp with ⟨z, ts, rfl, hz, hl2, ht⟩ | ⟨a, ⟨z, ts, rfl, hz, hl2, ht⟩, rfl⟩ | ⟨t, u, ht, hu, rfl⟩
        · have nz := name_not hz
          refine ⟨_, rfl, .str z, by simp [ixN], _, eq_not z, _, rfl, ?_⟩
          rw [decide_eq_false nz]
          refine itF ⟨_, rfl, _, rfl, _, rfl, _, rfl, by simp, ⟨_, _, rfl, rfl, by simp, by simp, by show c2 ≤ _; omega, fun q hq => ⟨ps, rfl, by omega, fin q _ ⟨.inl ⟨z, ts, rfl, hz, hl2, ht⟩, ?_⟩ (Nat.le_refl _)⟩⟩⟩
          rcases List.mem_cons.mp hq with rfl | hq
          · exact .inl rfl
          · exact .inr (.inl ⟨_, rfl, List.mem_singleton.mp hq⟩)
        · refine ⟨_, rfl, .str "not", by simp [ixN], _, eq_not _, _, rfl, ?_⟩
          refine itT ⟨_, rfl, .tup (.str z :: ts), by simp [ixN], .lst (.str z :: ts), rfl, by simp, ps, rfl, by omega, fin _ _ ⟨.inr (.inl ⟨_, ⟨z, ts, rfl, hz, hl2, ht⟩, rfl⟩), .inr (.inr ⟨_, rfl, rfl⟩)⟩ (Nat.le_succ _)⟩
        · refine ⟨_, rfl, .str "unlike", by simp [ixN], _, eq_not _, _, rfl, ?_⟩
          rw [decide_eq_false ne_un]
          refine itF ⟨_, rfl, _, rfl, _, rfl, _, rfl, by simp, ⟨_, _, rfl, rfl, by simp, by simp, by show c2 ≤ _; omega, fun q hq => ⟨ps, rfl, by omega, fin q _ ⟨.inr (.inr ⟨t, u, ht, hu, rfl⟩), ?_⟩ (Nat.le_refl _)⟩⟩⟩
          rcases List.mem_cons.mp hq with rfl | hq
          · exact .inl rfl
          · exact .inr (.inl ⟨_, rfl, List.mem_singleton.mp hq⟩)
      · rintro ρ ⟨bd, ps, c2, y6, hbd, ha2, hc2, rfl⟩
        rw [List.append_nil] at hbd
        subst hbd
        have hpl := ha2.len
        have hel := ha.len
        refine ⟨⟨_, rfl⟩, _, rfl, _, rfl, _, rfl, .inr ⟨_, rfl, by simp, _, rfl, .inl ⟨_, rfl, _, rfl, by simp, by simp, ⟨_, _, rfl, rfl, by simp, by simp, by show c2 ≤ _; omega, fun e he => ⟨es, rfl, by omega, hN _ ⟨dn ++ [.tup [.tup h, .tup bd]], es ++ [e], c2 + 1, _, _, _, _, by rw [List.append_assoc]; exact hrs, ha.snoc ⟨hd0, h, bd, ps, rfl, ha2, ?_⟩, by simp; omega, rfl⟩⟩⟩⟩⟩⟩
        rcases List.mem_cons.mp he with rfl | he
        · exact .inl rfl
        · exact .inr (List.mem_singleton.mp he)
    · rintro ρ ⟨dn, es, c', x3, x4, x5, x6, hrs, ha, hc', rfl⟩
      rw [List.append_nil] at hrs
      subst hrs
      have hel := ha.len
      refine ⟨_, rfl, .inr ⟨_, rfl, .inl ⟨_, rfl, _, rfl, by simp, ⟨_, _, rfl, rfl, by simp, by simp, by show c' ≤ _; omega, fun d hd => k d _ ⟨es, ha, ?_⟩ (by show c' + 1 ≤ _; omega)⟩⟩⟩⟩
      rcases List.mem_cons.mp hd with rfl | hd
      · exact .inl rfl
      · exact .inr (List.mem_singleton.mp hd)⟩
end
end L03

set_option Elab.async false
set_option linter.all false
set_option maxRecDepth 100000
set_option maxHeartbeats 4000000
namespace L03
open PySem PySem.Spec PyProof.Rows L2 Q
/-! lists for tuples -/
mutual
def norm : D → D
  | .lst xs => .lst (norms xs)
  | .tup xs => .lst (norms xs)
  | .non => .non
  | .bl b => .bl b
  | .int i => .int i
  | .str z => .str z
  | .dct a b => .dct a b
  | .dtt a b => .dtt a b
  | .ins C a b => .ins C a b
  | .raw v => .raw v
def norms : List D → List D
  | [] => []
  | x :: xs => norm x :: norms xs
end
mutual
def cnt : D → Nat
  | .lst xs => cnts xs + 1
  | .tup xs => cnts xs + 1
  | _ => 0
def cnts : List D → Nat
  | [] => 0
  | x :: xs => cnt x + cnts xs
end
/-! no more than so many things in a row, at any depth -/
mutual
def wid : D → Bool
  | .lst xs => decide (xs.length ≤ 1000) && wids xs
  | .tup xs => decide (xs.length ≤ 1000) && wids xs
  | _ => true
def wids : List D → Bool
  | [] => true
  | x :: xs => wid x && wids xs
end
theorem norms_map : ∀ xs : List D, norms xs = xs.map norm
  | [] => by rw [norms]; rfl
  | x :: xs => by rw [norms, norms_map xs]; rfl
theorem wids_iff : ∀ {xs : List D}, wids xs = true ↔ ∀ x ∈ xs, wid x = true
  | [] => by simp [wids]
  | x :: xs => by rw [wids, Bool.and_eq_true, wids_iff (xs := xs)]; simp
theorem isDats_iff : ∀ {xs : List D}, isDats xs = true ↔ ∀ x ∈ xs, isDat x = true
  | [] => by simp
  | x :: xs => by rw [isDats, Bool.and_eq_true, isDats_iff (xs := xs)]; simp
theorem deps_le {xs : List D} {x : D} (h : x ∈ xs) : dep x ≤ deps xs := by
  induction xs with
  | nil => cases h
  | cons y ys ih =>
    rw [deps]
    rcases List.mem_cons.mp h with rfl | h
    · omega
    · have := ih h; omega
end L03

set_option Elab.async false
set_option linter.all false
set_option maxRecDepth 100000
set_option maxHeartbeats 4000000
/-! three fresh lists, each appended to -/
namespace Q
open PySem PySem.Spec PyProof.Rows L2
theorem St.free {c : Ctx} {F H : Hp} {O : List Addr} {σ : L2.St} {ρ : DS c.R} (S : St c F O σ ρ H) : St c F [] σ ρ H :=
  ⟨S.len, S.sub, S.old, S.new, S.keep, S.live, S.slots, fun i a h => ⟨(S.mine i a h).1, (S.mine i a h).2.1, by simp⟩, S.inj, (fun a h => by cases h), S.reg.imp fun Z ⟨r, z1, z2, _, z4⟩ => ⟨r, z1, z2, (fun a h => by cases h), z4⟩⟩
def isL (d : D) : Prop := ∃ ds, d = .lst ds ∧ ds.length < 100000
def sThree {R : Rgn} (k : Nat) (wa wb wc : WE R) : WS R := fun Dk ρ => wa ρ fun x ρ1 => wb ρ1 fun y ρ2 => wc ρ2 fun z ρ3 => isL x ∧ isL y ∧ isL z ∧ k < ρ3.sl.length ∧ ∀ v, Dk.nx (ρ3.put k (some (.fz (.raw v))))
section
variable {X : Cx} {c : Ctx} {fr : Bool} {a b e : Expr} {pa pb pc : Bool} {wa wb wc : WE c.R} {k : Nat} {x z : Str}
theorem isL_obj {K : PySem.W.Frag} {F : Hp} {o : HO} {d : D} (h : ObjD K F o d) (l : isL d) : ∃ us, o = .lst us ∧ us.length ≤ 100000 := by
  obtain ⟨ds, rfl, hl⟩ := l
  cases o <;> simp only [ObjD] at h
  exact ⟨_, rfl, by rw [h.length]; omega⟩
theorem ds_three {p1 tp pp qp cp ep pos1 pos : Pos} {ctx jj} (ha : FE X c pa a wa) (hb : FE X c pb b wb) (hd : FE X c pc e wc) (hN : X.N.Nodup) (hi : X.N[k]? = some x := by rfl) (hx : Loc X.env.scope x := by first | exact Or.inl rfl | exact Or.inr rfl)
    (hf : X.fn x = true ∨ X.env.scope.names.lookup x = some .local := by first | exact .inl rfl | exact .inr rfl | assumption) (hk : X.K = c.K := by rfl)
    (hv : Vis X.env.scope x := by first | exact .inl rfl | exact .inr (.inl rfl) | exact .inr (.inr rfl))
    (hdb : (x == ("__debug__" : Str)) = false := by decide) (hcd : (x == ("__classdict__" : Str)) = false := by decide)
    (h1 : starEach [a, b, e] X.env = (false, eval a X.env) :: starEach [b, e] X.env := by rfl) (h2 : starEach [b, e] X.env = (false, eval b X.env) :: starEach [e] X.env := by rfl) (h3 : starEach [e] X.env = (false, eval e X.env) :: starEach [] X.env := by rfl)
    (hbase : attributeBase (.Name x pp) "append" X.env (eval (.Name x pp) X.env) = eval (.Name x pp) X.env := by rfl)
    (hfew : ((backTo ep (starEach [.Constant (.str z) jj cp] X.env)).all (fun x => !x.1) && (backToKw ep (keywordEach [] X.env)).all (fun x => x.1.isSome) && decide (([.Constant (.str z) jj cp] : List Expr).length + ([] : List Keyword).length + (if ([] : List Keyword).isEmpty then 0 else 1) < 30)) = true := by rfl)
    (hline : (qp.endLine == ep.line) = true := by rfl) (hst : starEach [.Constant (.str z) jj cp] X.env = (false, eval (.Constant (.str z) jj cp) X.env) :: starEach [] X.env := by rfl) (hplain : (backTo ep (starEach [] X.env)).any (·.1) = false := by rfl)
    (hs : swapsWith (.Call (.Attribute (.Name x pp) "append" qp) [.Constant (.str z) jj cp] [] ep) none pos1.line X.env = pure false := by rfl)
    (hp : PassesOwn (model X.prog X.w) X.A X.env X.xe := by exact PassesOwn.never) (hc : X.calm = true := by rfl) (hsi : ∀ y, foldedSetIterable (.Tuple [a, b, e] ctx tp) X.env y = pure y := by intro _; rfl) :
    DS1 X c fr (.For (.Name x p1) (.Tuple [a, b, e] ctx tp) [.Expr (.Call (.Attribute (.Name x pp) "append" qp) [.Constant (.str z) jj cp] [] ep) pos1] [] pos) (sThree k wa wb wc) := by
  refine ⟨(ps_for hp hc (vi_walk.pi (pe_tup (pa_cons ha.pe (pa_cons hb.pe (pa_cons hd.pe pa_nil h3) h2) h1))) (dg_name (c := c) hN hi hx hf).pg
    (pss_one (ps_expr (pe_bm PySem.F.plainAttrs_list PySem.F.slot_list_append PySem.F.type_list_append mt_append (pe_var hi hv hdb hcd) (pa_cons pe_str pa_nil hst) hbase hfew hline hst hplain) hs)) hsi).imp fun E σ H ⟨ρ, F, Dk, S, w, k1, k2, k3, k4⟩ => ?_⟩
  refine ⟨ρ, F, [], _, S, w, fun dx ρ1 q1 o1 F1 H1 w1 S1 fs1 ko1 g1 n1 ob1 => ?_⟩
  refine ⟨ρ1, F1, [q1], _, S1.protect n1, w1, fun dy ρ2 q2 o2 F2 H2 w2 S2 fs2 ko2 g2 n2 ob2 => ?_⟩
  refine ⟨ρ2, F2, [q2, q1], _, S2.protect n2, w2, fun dz ρ3 q3 o3 F3 H3 ⟨lx, ly, lz, hkl, nx⟩ S3 fs3 ko3 g3 n3 ob3 => ?_⟩
  have N21 : q2 ≠ q1 := fun e => by
    have := ko2 q1 (by simp)
    rw [upd_same] at this
    rw [e, this] at n2
    cases n2
  have N31 : q3 ≠ q1 := fun e => by
    have h1 := ko3 q1 (by simp)
    have h2 := ko2 q1 (by simp)
    rw [upd_ne (fun z => N21 z.symm), h2, upd_same] at h1
    rw [e, h1] at n3
    cases n3
  have N32 : q3 ≠ q2 := fun e => by
    have h1 := ko3 q2 (by simp)
    rw [upd_same] at h1
    rw [e, h1] at n3
    cases n3
  obtain ⟨u1, rfl, l1⟩ := isL_obj ob1 lx
  obtain ⟨u2, rfl, l2⟩ := isL_obj ob2 ly
  obtain ⟨u3, rfl, l3⟩ := isL_obj ob3 lz
  have big : 100010 < sizeLine := by rw [sizeLine_eq]; decide
  show _ ∧ _
  refine ⟨by simp; omega, fun q hq => ?_⟩
  have S4 := S3.protect (o := .lst u3) n3
  let T : HO := .tup [.ref q1, .ref q2, .ref q3]
  let G : Hp := upd H3 q3 (.lst u3)
  have hq : G q = none := hq
  have al : Al F3 G (upd F3 q T) (upd G q T) := Al.one hq
  have gr := al.grow S4.sub
  have S5 : St c (upd F3 q T) [q3, q2, q1] σ ρ3 (upd G q T) := S4.grow gr
  have at3 : G q3 = some (.lst u3) := upd_same
  have at2 : G q2 = some (.lst u2) := by
    show upd H3 q3 _ q2 = _
    rw [upd_ne (fun z => N32 z.symm), ko3 q2 (by simp)]
    exact upd_same
  have at1 : G q1 = some (.lst u1) := by
    show upd H3 q3 _ q1 = _
    rw [upd_ne (fun z => N31 z.symm), ko3 q1 (by simp), upd_ne (fun z => N21 z.symm), ko2 q1 (by simp)]
    exact upd_same
  have there : ∀ p ∈ [q3, q2, q1], ∃ us, upd G q T p = some (.lst us) ∧ us.length ≤ 100000 + 0 := fun p hp => by
    have ne : ∀ {u : List V}, G p = some (.lst u) → upd G q T p = some (.lst u) := fun h => by rw [upd_ne (fun z => by rw [z, hq] at h; cases h)]; exact h
    simp only [List.mem_cons, List.not_mem_nil, or_false] at hp
    rcases hp with rfl | rfl | rfl
    · exact ⟨u3, ne at3, by omega⟩
    · exact ⟨u2, ne at2, by omega⟩
    · exact ⟨u1, ne at1, by omega⟩
  have hwk : Walks c.K (upd F3 q T) (Itt c.K q) [.raw (.ref q1), .raw (.ref q2), .raw (.ref q3)] := walks_tup (SqT.of upd_same) (.cons (.raw _) (.cons (.raw _) (.cons (.raw _) .nil)))
  have f05 : Same F (upd F3 q T) := fs1.trans (fs2.trans (fs3.trans gr.fs))
  refine .inr (.inl ⟨q, [.ref q1, .ref q2, .ref q3], rfl, SqT.of upd_same, ?_⟩)
  rw [hk]
  refine ⟨fun i m σ' H' => ∃ ρ' F', m = 3 - i ∧ i ≤ 3 ∧ St c F' [q3, q2, q1] σ' ρ' H' ∧ Same (upd F3 q T) F' ∧ ((ρ' = ρ3 ∧ i = 0) ∨ ∃ v, ρ' = ρ3.put k (some (.fz (.raw v)))) ∧ ∀ p ∈ [q3, q2, q1], ∃ us, H' p = some (.lst us) ∧ us.length ≤ 100000 + i,
    ⟨3, ρ3, _, rfl, Nat.zero_le _, S5, Same.refl _, .inl ⟨rfl, rfl⟩, there⟩, ?_⟩
  rintro i m σ' H' ⟨ρ', F', rfl, hi3, S', fs', hρ, th⟩
  by_cases hlt : i < 3
  · obtain ⟨hgo, hy⟩ := hwk.go F' H' i fs' S'.sub hlt
    refine .inr ⟨hgo, fun σ2 H2 => ∃ ρ2 F2, St c F2 [q3, q2, q1] σ2 ρ2 H2 ∧ Same (upd F3 q T) F2 ∧ (∃ v, ρ2 = ρ3.put k (some (.fz (.raw v)))) ∧ ∀ p ∈ [q3, q2, q1], ∃ us, H2 p = some (.lst us) ∧ us.length ≤ 100000 + (i + 1), fun σ2 H2 ⟨ρ2, F2, S2, fs2, h2, h3⟩ => ⟨3 - (i + 1), by omega, ρ2, F2, rfl, hlt, S2, fs2, .inr h2, h3⟩, fun y H2 hyl => ?_⟩
    obtain ⟨d, F2, hd, al2, rp⟩ := hy y H2 hyl
    have hH : H2 = H' := hyl.1
    obtain ⟨p, hpm, rfl⟩ : ∃ p ∈ [q3, q2, q1], d = .raw (.ref p) := by
      have : d ∈ [D.raw (.ref q1), .raw (.ref q2), .raw (.ref q3)] := List.mem_of_getElem? hd
      simp only [List.mem_cons, List.not_mem_nil, or_false] at this
      rcases this with rfl | rfl | rfl
      · exact ⟨q1, by simp, rfl⟩
      · exact ⟨q2, by simp, rfl⟩
      · exact ⟨q3, by simp, rfl⟩
    have ey : y = .ref p := by cases rp; rfl
    have S2 := S'.grow (al2.grow S'.sub)
    have fs2 : Same (upd F3 q T) F2 := fs'.trans (al2.fs S'.sub)
    subst ey
    refine ⟨ρ', F2, [q3, q2, q1], _, .raw (.ref p), S2, .raw _, rfl, fun ρ4 σ4 (e4 : ρ'.put k (some (.fz (.raw (.ref p)))) = ρ4) S4' _ => ?_⟩
    subst e4
    have hl' : k < ρ'.sl.length := by
      rcases hρ with ⟨rfl, _⟩ | ⟨v, rfl⟩
      · exact hkl
      · show k < (ρ3.sl.set k _).length
        rw [List.length_set]
        exact hkl
    have hsl := S4'.slots k
    have e5 : (ρ'.put k (some (.fz (.raw (.ref p))))).sl[k]? = some (some (.fz (.raw (.ref p)))) := by
      show (ρ'.sl.set k _)[k]? = _
      rw [List.getElem?_set_self hl']
    rw [e5] at hsl
    obtain ⟨v, hv1, hv2⟩ := hsl
    have hv3 : v = .ref p := by cases hv2; rfl
    subst hv3
    obtain ⟨us, hus, hul⟩ := th p hpm
    rw [← hH] at hus
    refine ⟨.ref p, hv1, .inl ⟨rfl, us, SqL.of hus⟩, p, us, .str z, rfl, rfl, hus, by omega, ?_⟩
    refine ⟨_, F2, S4'.writeO hpm, fs2, ?_, fun p' hp' => ?_⟩
    · rcases hρ with ⟨rfl, _⟩ | ⟨v, rfl⟩
      · exact ⟨_, rfl⟩
      · exact ⟨_, put_put⟩
    · by_cases zz : p' = p
      · rw [zz, upd_same]
        exact ⟨_, rfl, by simp; omega⟩
      · rw [upd_ne zz, hH]
        obtain ⟨us', h1, h2⟩ := th p' hp'
        exact ⟨us', h1, by omega⟩
  · have e : i = 3 := by omega
    subst e
    refine .inl ⟨hwk.stop F' H' fs' S'.sub, ?_⟩
    rcases hρ with ⟨_, h⟩ | ⟨v, rfl⟩
    · cases h
    · exact k1 _ σ' F' H' (nx v) S'.free (f05.trans fs')
end
end Q

set_option Elab.async false
set_option linter.all false
set_option maxRecDepth 100000
set_option maxHeartbeats 4000000
/-! list(x.items()) -/
namespace Q
open PySem PySem.Spec PyProof.Rows L2
def rowsD (ks vs : List D) : List D := List.zipWith (fun k v => D.tup [k, v]) ks vs
def wItems {R : Rgn} (we : WE R) : WE R := fun ρ K => we ρ fun d ρ1 => ∃ ks vs, d = .dct ks vs ∧ K (.lst (rowsD ks vs)) ρ1
theorem rows_reps {K : PySem.W.Frag} {F F' H' : Hp} (fs : Same F F') : ∀ {ts : List Addr} {kvs : List (Key × V)} {ds : List D}, Paired (fun (t : Addr) (q : Key × V) => H' t = some (.tup [kV q.1, q.2])) ts kvs → (∀ t ∈ ts, F' t = H' t) → Reps K F (kvs.map (·.2)) ds →
    Reps K F' (ts.map V.ref) (rowsD (kvs.map fun p => kD p.1) ds)
  | _, _, _, .nil, _, .nil => .nil
  | _, _, _, .cons (a := t) (b := q) h t', hin, .cons r rs => by
    refine .cons (.tup (SqT.of (by rw [hin _ List.mem_cons_self]; exact h)) (.cons ?_ (.cons (r.same fs) .nil))) (rows_reps fs t' (fun x hx => hin x (List.mem_cons_of_mem _ hx)) rs)
    obtain ⟨k, v⟩ := q
    cases k with
    | inl i => exact .int i
    | inr z => exact .str z
section
variable {X : Cx} {c : Ctx} {e : Expr} {pa ba : Bool} {we : WE c.R} {p apos cpos pos : Pos}
theorem fe_items (hm : X.mg "list" = none) (he : DE X c pa ba e we) (hc : X.calm = true := by rfl) (hg : Gl X "list" := by rfl) (hbase : attributeBase e "items" X.env (eval e X.env) = eval e X.env := by rfl) (hline : (apos.endLine == cpos.line) = true := by rfl)
    (hs : starEach [.Call (.Attribute e "items" apos) [] [] cpos] X.env = (false, eval (.Call (.Attribute e "items" apos) [] [] cpos) X.env) :: starEach [] X.env := by rfl) :
    FE X c pa (.Call (.Name "list" p) [.Call (.Attribute e "items" apos) [] [] cpos] [] pos) (wItems we) :=
  ⟨(LiI.pe_listItems hc he.pe hg hm (by decide +kernel) hbase hline hs).imp fun σ H Q ⟨ρ, F, O, Kk, S, w, next⟩ => by
    refine ⟨ρ, F, O, _, S, w, fun d ρ1 v F1 H1 ⟨ks, vs, ed, hK⟩ S1 fs1 ko1 g1 r1 => ?_⟩
    subst ed
    obtain ⟨a, kvs, rfl, h1, hks, rv⟩ := (r1.bv S1).dct S1.sub
    refine ⟨a, kvs, rfl, h1, fun H' q ts k1 k2 k3 k4 k5 k6 => ?_⟩
    let F' : Hp := fun b => if b ∈ ts then H' b else F1 b
    have fin : ∀ t ∈ ts, F' t = H' t := fun t ht => if_pos ht
    have fs : Same F1 F' := fun b o h => by
      show (if b ∈ ts then H' b else F1 b) = some o
      by_cases z : b ∈ ts
      · have := k3 b z
        rw [S1.sub _ _ h] at this
        cases this
      · rw [if_neg z]; exact h
    have qF : F' q = none := by
      show (if q ∈ ts then H' q else F1 q) = none
      rw [if_neg k4]
      cases h : F1 q with
      | none => rfl
      | some o => rw [S1.sub _ _ h] at k2; cases k2
    have sub : Same F' (gone H' q) := fun b o h => by
      have bq : b ≠ q := fun z => by rw [z, qF] at h; cases h
      rw [gone_ne bq]
      have h : (if b ∈ ts then H' b else F1 b) = some o := h
      by_cases z : b ∈ ts
      · rw [if_pos z] at h; exact h
      · rw [if_neg z] at h; exact k1 _ _ (S1.sub _ _ h)
    have gr : Grow F1 H1 F' (gone H' q) := by
      refine ⟨fs, sub, fun b o h => ?_, fun b h => ?_⟩
      · have bq : b ≠ q := fun z => by rw [z, k2] at h; cases h
        rw [gone_ne bq]
        exact k1 _ _ h
      · have h : (if b ∈ ts then H' b else F1 b) ≠ none := h
        by_cases z : b ∈ ts
        · exact .inr (k3 b z)
        · rw [if_neg z] at h; exact .inl h
    have := next (.lst (rowsD ks vs)) ρ1 q (.lst (ts.map V.ref)) F' (gone H' q) hK (S1.grow gr) (fs1.trans fs) (fun z hz => by rw [gr.at (S1.out z hz).2.2]; exact ko1 z hz) (fun z => ⟨(g1 z).1, (g1 z).2.trans gr⟩) gone_at (by rw [hks]; exact rows_reps fs k6 fin rv)
    rw [gone_upd k5] at this
    exact this, he.kk⟩
end
end Q

set_option Elab.async false
set_option linter.all false
set_option maxRecDepth 100000
set_option maxHeartbeats 4000000
namespace L03
open PySem PySem.Spec PyProof.Rows L2 Q
theorem all_true : ∀ {acc : List D}, (∀ a ∈ acc, a = .bl true) → allD (.lst acc) = some (.bl true)
  | [], _ => rfl
  | a :: as, h => by
    have e := h a List.mem_cons_self
    subst e
    have ih := all_true fun q hq => h q (List.mem_cons_of_mem _ hq)
    change (blsD as).map (fun bs => D.bl (bs.all id)) = _ at ih
    change (blsD (.bl true :: as)).map (fun bs => D.bl (bs.all id)) = _
    cases hb : blsD as with
    | none => rw [hb] at ih; cases ih
    | some bs => rw [hb] at ih; simp at ih; simp [blsD, hb, ih]
theorem pairs_same (xs : List D) : ∀ p ∈ zipD xs xs, ∃ x ∈ xs, p = .tup [x, x] := by
  induction xs with
  | nil => intro p h; cases h
  | cons x xs ih =>
    intro p h
    have h : p ∈ .tup [x, x] :: zipD xs xs := h
    rcases List.mem_cons.mp h with rfl | h
    · exact ⟨x, List.mem_cons_self, rfl⟩
    · obtain ⟨y, hy, e⟩ := ih p h
      exact ⟨y, List.mem_cons_of_mem _ hy, e⟩
/-! data, or dicts without rows -/
mutual
def isDe : D → Bool
  | .lst xs => isDes xs
  | .tup xs => isDes xs
  | .dct [] [] => true
  | .non => true
  | .bl _ => true
  | .int _ => true
  | .str _ => true
  | _ => false
def isDes : List D → Bool
  | [] => true
  | x :: xs => isDe x && isDes xs
end
mutual
def depE : D → Nat
  | .lst xs => depEs xs + 1
  | .tup xs => depEs xs + 1
  | .dct _ _ => 2
  | _ => 0
def depEs : List D → Nat
  | [] => 0
  | x :: xs => max (depE x) (depEs xs)
end
theorem isDe_dct : ∀ {ks vs : List D}, isDe (.dct ks vs) = true → ks = [] ∧ vs = []
  | [], [], _ => ⟨rfl, rfl⟩
  | [], _ :: _, h => by cases (show false = true from h)
  | _ :: _, [], h => by cases (show false = true from h)
  | _ :: _, _ :: _, h => by cases (show false = true from h)
theorem isDes_iff : ∀ {xs : List D}, isDes xs = true ↔ ∀ x ∈ xs, isDe x = true
  | [] => by simp [isDes]
  | x :: xs => by rw [isDes, Bool.and_eq_true, isDes_iff (xs := xs)]; simp
theorem depEs_le {xs : List D} {x : D} (h : x ∈ xs) : depE x ≤ depEs xs := by
  induction xs with
  | nil => cases h
  | cons y ys ih =>
    rw [depEs]
    rcases List.mem_cons.mp h with rfl | h
    · omega
    · have := ih h; omega
mutual
theorem isDat_e : ∀ {d : D}, isDat d = true → isDe d = true ∧ depE d = dep d
  | .lst xs, h => by
    obtain ⟨a, b⟩ := isDats_e (xs := xs) (by simpa [isDat] using h)
    exact ⟨by rw [isDe]; exact a, by rw [depE, dep, b]⟩
  | .tup xs, h => by
    obtain ⟨a, b⟩ := isDats_e (xs := xs) (by simpa [isDat] using h)
    exact ⟨by rw [isDe]; exact a, by rw [depE, dep, b]⟩
  | .non, _ => by simp [isDe, depE, dep]
  | .bl _, _ => by simp [isDe, depE, dep]
  | .int _, _ => by simp [isDe, depE, dep]
  | .str _, _ => by simp [isDe, depE, dep]
  | .dct _ _, h => by simp [isDat] at h
  | .dtt _ _, h => by simp [isDat] at h
  | .ins _ _ _, h => by simp [isDat] at h
  | .raw _, h => by simp [isDat] at h
theorem isDats_e : ∀ {xs : List D}, isDats xs = true → isDes xs = true ∧ depEs xs = deps xs
  | [], _ => by simp [isDes, depEs, deps]
  | x :: xs, h => by
    rw [isDats, Bool.and_eq_true] at h
    obtain ⟨a, b⟩ := isDat_e h.1
    obtain ⟨a', b'⟩ := isDats_e h.2
    exact ⟨by rw [isDes, a, a']; rfl, by rw [depEs, deps, b, b']⟩
end
/-- the same thing twice -/
def mSame (n : Nat) : WM := fun ds Kk => ∃ d, ds = [d, d] ∧ depE d < n ∧ wid d = true ∧ isDe d = true ∧ Kk (.bl true)
section
variable {P : Program} {w : World} {K : PySem.W.Frag} {mg : Str → Option Value} {base : Heap} {f : Addr} {fd : FuncData} {TT : TbL}
-- _law_same: slots 0 _law_found, 1 _law_due, 2 _law_x, 3 _law_y
abbrev s_L_same : Stmt := (top 47)
abbrev N_sc_L_same : List Str := ["_law_found", "_law_due", "_law_x", "_law_y"]
theorem sc_L_same : FnScope N_sc_L_same ["_law_found", "_law_due"] (defScope s_L_same) := ⟨rfl, rfl, rfl, by decide +kernel, rfl, by decide +kernel, by decide +kernel⟩
theorem ok_L_same (F : FnP K "_law_same" "_law_same" s_L_same f fd) (T : Tx K mg) (hm : mg "_law_same" = some (.ref f)) (hk : PySem.W.keepIn K (.ref f) = true) (hb : Binds K fd ["_law_found", "_law_due"] []) :
    ∀ n, FnOk P w K mg base CX0 (n + 1) f fd ["_law_found", "_law_due"] (spD K (mSame n)) := by
  intro n
  induction n with
  | zero =>
    refine ⟨fun vs H Q E h => ?_, fun A outer s H args us vs Q E hr he hb hv h => ?_⟩
    · obtain ⟨_, _, _, _, _, ⟨_, _, hl, _⟩, _⟩ := h
      exact absurd hl (Nat.not_lt_zero _)
    · obtain ⟨_, _, _, _, _, ⟨_, _, hl, _⟩, _⟩ := h
      exact absurd hl (Nat.not_lt_zero _)
  | succ n ih =>
    have C__law_same : Cal P w K mg base "_law_same" (n + 1) ["_law_found", "_law_due"] (spD K (mSame n)) := ⟨f, fd, hm, hk, ih, hb⟩
    exact FnD F sc_L_same (fun ds Kk h => by obtain ⟨_, rfl, _⟩ := h; rfl) fun cdv A outer s H Fz E hr => ⟨_, 
(ds_cons (ds_if (dt_truth (de_isN T.b_isinstance (tns_cons (TyN.mk (t := .list) (by rfl) T.b_list (by decide +kernel) (by decide) (by decide)) (tns_cons (TyN.mk (t := .tuple) (by rfl) T.b_tuple (by decide +kernel) (by decide) (by decide)) tns_nil)) (de_v (i := 1)))) (ds_cons (ds_if (DW.dt (dw_or (dt_cm (c_ne hr) (de_is1 T.b_isinstance (TyN.mk (t := .list) (by rfl) T.b_list (by decide +kernel) (by decide) (by decide)) (de_v (i := 0))) (de_is1 T.b_isinstance (TyN.mk (t := .list) (by rfl) T.b_list (by decide +kernel) (by decide) (by decide)) (de_v (i := 1)))) (dw_or1 (dt_cm (c_ne hr) (de_is1 T.b_isinstance (TyN.mk (t := .tuple) (by rfl) T.b_tuple (by decide +kernel) (by decide) (by decide)) (de_v (i := 0))) (de_is1 T.b_isinstance (TyN.mk (t := .tuple) (by rfl) T.b_tuple (by decide +kernel) (by decide) (by decide)) (de_v (i := 1))))))) (ds_one (ds_ret de_bl)) ds_nil)
 (ds_one (ds_ret (de_and (de_cm (c_eq hr) (de_len T.b_len (de_v (i := 0))) (de_len T.b_len (de_v (i := 1)))) (de_one (de_all T.b_all (FE.de (fe_lc (own := [("_law_x", 2), ("_law_y", 3)]) sc_L_same.nd (di_zipA T.b_zip (de_v (i := 0)) (de_v (i := 1))) (blkOk_by (own := [("_law_x", 2), ("_law_y", 3)]) (N := N_sc_L_same) (sc := defScope s_L_same) (by decide +kernel)) (fun _ _ _ _ _ => (dg_tup (n := 2) (dgs_cons (dg_name (i := 2) sc_L_same.nd) (dgs_cons (dg_name (i := 3) sc_L_same.nd) dgs_nil)))) (fun _ _ _ _ _ => dts_nil) (fun _ _ _ _ _ => (de_call C__law_same hr (da_cons (de_v (i := 2)) (da_cons (de_v (i := 3)) da_nil)) (hj := by omega))))))))))) ds_nil)
 (ds_cons (ds_if (dt_truth (de_is1 T.b_isinstance (TyN.mk (t := .dict) (by rfl) T.b_dict (by decide +kernel) (by decide) (by decide)) (de_v (i := 1)))) (ds_one (ds_ret (de_and (de_is1 T.b_isinstance (TyN.mk (t := .dict) (by rfl) T.b_dict (by decide +kernel) (by decide) (by decide)) (de_v (i := 0))) (de_one (de_call C__law_same hr (da_cons (FE.de (fe_items T.b_list (de_v (i := 0)))) (da_cons (FE.de (fe_items T.b_list (de_v (i := 1)))) da_nil)) (hj := by omega)))))) ds_nil)
 (ds_cons (ds_if (dt_truth (de_is1 T.b_isinstance (TyN.mk (t := .int) (by rfl) T.b_int (by decide +kernel) (by decide) (by decide)) (de_v (i := 1)))) (ds_one (ds_ret (de_and (de_is1 T.b_isinstance (TyN.mk (t := .int) (by rfl) T.b_int (by decide +kernel) (by decide) (by decide)) (de_v (i := 0))) (de_and (de_cm (c_eq hr) (de_is1 T.b_isinstance (TyN.mk (t := .bool) (by rfl) T.b_bool (by decide +kernel) (by decide) (by decide)) (de_v (i := 0))) (de_is1 T.b_isinstance (TyN.mk (t := .bool) (by rfl) T.b_bool (by decide +kernel) (by decide) (by decide)) (de_v (i := 1)))) (de_one (de_cm (c_eq hr) (de_v (i := 0)) (de_v (i := 1)))))))) ds_nil)
 (ds_one (ds_ret (de_and (de_not (de_isN T.b_isinstance (tns_cons (TyN.mk (t := .int) (by rfl) T.b_int (by decide +kernel) (by decide) (by decide)) (tns_cons (TyN.mk (t := .list) (by rfl) T.b_list (by decide +kernel) (by decide) (by decide)) (tns_cons (TyN.mk (t := .tuple) (by rfl) T.b_tuple (by decide +kernel) (by decide) (by decide)) (tns_cons (TyN.mk (t := .dict) (by rfl) T.b_dict (by decide +kernel) (by decide) (by decide)) tns_nil)))) (de_v (i := 0)))) (de_one (de_cm (c_eq hr) (de_v (i := 0)) (de_v (i := 1))))))))))
  , fun ds Kk h => by
    obtain ⟨d, rfl, hd, hw, hde, k⟩ := h
    let mk : DS noR := ⟨noG, [some (.fz d), some (.fz d), none, none]⟩
    cases hs : sqOf d with
    | none =>
      by_cases hdd : d = .dct [] []
      · subst hdd
        refine ⟨_, rfl, .bl false, by simp [isaD], false, rfl, itF ?_⟩
        refine ⟨_, rfl, .bl true, by simp [isaD], true, rfl, itT ?_⟩
        refine ⟨_, rfl, .bl true, by simp [isaD], true, rfl, itT ?_⟩
        refine ⟨_, rfl, [], [], rfl, _, rfl, [], [], rfl, .lst [], rfl, ?_, rfl, rfl, k⟩
        have h2 : depE (.dct [] []) = 2 := rfl
        have h1 : depE (.lst []) = 1 := rfl
        omega
      have hdat : isDat d = true := by
        cases d with
        | dct ks vs =>
          obtain ⟨rfl, rfl⟩ := isDe_dct hde
          exact absurd rfl hdd
        | lst _ => cases hs
        | tup _ => cases hs
        | dtt _ _ => cases (show false = true from hde)
        | ins _ _ _ => cases (show false = true from hde)
        | raw _ => cases (show false = true from hde)
        | _ => simp
      have hd5 : dep d ≤ 50 := by cases d <;> first | (cases hs; done) | (simp; done) | (simp [isDat] at hdat; done)
      have hi : isaD [.list, .tuple] d = some (.bl false) := by cases d <;> first | (cases hs; done) | (simp [isaD]; done) | (simp [isDat] at hdat; done)
      have eqs : eqD false d d = some (.bl true) := by
        unfold eqD
        rw [if_pos ⟨hdat, hdat, by omega⟩]
        have : deq d d = true := by cases d <;> first | (simp; done) | (cases hs; done) | (simp [isDat] at hdat; done)
        rw [this]; rfl
      have hdc : isaD [.dict] d = some (.bl false) := by cases d <;> first | (cases hs; done) | (simp [isaD]; done) | (simp [isDat] at hdat; done)
      refine ⟨_, rfl, _, hi, false, rfl, itF ?_⟩
      refine ⟨_, rfl, _, hdc, false, rfl, itF ?_⟩
      obtain ⟨b1, h1⟩ : ∃ b, isaD [.bool] d = some (.bl b) := by cases d <;> first | (exact ⟨_, rfl⟩) | (simp [isDat] at hdat; done)
      by_cases h2 : isaD [.int] d = some (.bl true)
      · refine ⟨_, rfl, _, h2, true, rfl, itT ?_⟩
        refine ⟨_, rfl, _, h2, true, rfl, itT ⟨_, rfl, _, h1, _, rfl, _, h1, .bl true, by cases b1 <;> simp [eqD, xr], true, rfl, itT ⟨_, rfl, _, rfl, _, eqs, k⟩⟩⟩
      · have h3 : isaD [.int] d = some (.bl false) ∧ isaD [.int, .list, .tuple, .dict] d = some (.bl false) := by cases d <;> first | (cases hs; done) | (exact absurd rfl h2) | (simp [isaD]; done) | (simp [isDat] at hdat; done)
        refine ⟨_, rfl, _, h3.1, false, rfl, itF ?_⟩
        exact ⟨_, rfl, _, h3.2, false, rfl, true, rfl, itT ⟨_, rfl, _, rfl, _, eqs, k⟩⟩
    | some xs =>
      have hi : isaD [.list, .tuple] d = some (.bl true) := by rcases sq_cases hs with rfl | rfl <;> simp [isaD]
      have hl : xs.length ≤ 1000 ∧ wids xs = true := by rcases sq_cases hs with rfl | rfl <;> simp [wid] at hw <;> exact hw
      have hdx : depEs xs + 1 = depE d := by rcases sq_cases hs with rfl | rfl <;> rfl
      have hdt : isDes xs = true := by rcases sq_cases hs with rfl | rfl <;> simpa [isDe] using hde
      refine ⟨_, rfl, _, hi, true, rfl, itT ?_⟩
      obtain ⟨b1, h1⟩ : ∃ b, isaD [.list] d = some (.bl b) := by rcases sq_cases hs with rfl | rfl <;> exact ⟨_, rfl⟩
      obtain ⟨b2, h2⟩ : ∃ b, isaD [.tuple] d = some (.bl b) := by rcases sq_cases hs with rfl | rfl <;> exact ⟨_, rfl⟩
      have hln : lenD d = some (.int (xs.length : Nat)) := by rcases sq_cases hs with rfl | rfl <;> rfl
      have hz : (d = .lst xs ∧ d = .lst xs) ∨ (d = .tup xs ∧ d = .tup xs) := by rcases sq_cases hs with h | h <;> simp [h]
      refine ⟨_, rfl, _, h1, _, rfl, _, h1, .bl false, by cases b1 <;> simp [eqD, xr], false, rfl, itF ?_⟩
      refine ⟨_, rfl, _, h2, _, rfl, _, h2, .bl false, by cases b2 <;> simp [eqD, xr], false, rfl, itF ?_⟩
      refine ⟨_, rfl, _, hln, _, rfl, _, hln, .bl true, by simp [eqD, xr], true, rfl, itT ?_⟩
      refine ⟨_, rfl, _, rfl, xs, xs, hz, ?_⟩
      refine ⟨by simp [zipD]; omega, fun i m d' q => ?_, ?_⟩
      · have e : i = 2 ∨ i = 3 := by simpa using m
        rcases e with rfl | rfl <;> cases q
      refine lcGo_ind (fun rest acc ρ => (∀ p ∈ rest, ∃ x ∈ xs, p = .tup [x, x]) ∧ (∀ a ∈ acc, a = .bl true) ∧ ρ = mk) ?_ ?_ _ _ _ ⟨pairs_same xs, by simp, rfl⟩
      · rintro p rest acc N ρ hN ⟨h4, h5, rfl⟩
        obtain ⟨x, hx, rfl⟩ := h4 p List.mem_cons_self
        refine ⟨_, rfl, rfl, _, _, rfl, _, _, rfl, rfl, ?_⟩
        refine ⟨_, rfl, _, rfl, ⟨x, rfl, ?_, wids_iff.mp hl.2 x hx, isDes_iff.mp hdt x hx, hN _ _ ⟨fun q hq => h4 q (List.mem_cons_of_mem _ hq), fun q hq => ?_, rfl⟩⟩⟩
        · have := depEs_le hx; omega
        · rcases List.mem_append.mp hq with h | h
          · exact h5 q h
          · exact List.mem_singleton.mp h
      · rintro acc ρ ⟨_, h5, rfl⟩
        exact ⟨_, all_true h5, k⟩⟩
end
end L03

set_option Elab.async false
set_option linter.all false
set_option maxRecDepth 100000
set_option maxHeartbeats 4000000
namespace L03
open PySem PySem.Spec PyProof.Rows L2 Q
/-! what a set of rules tells -/
def relsP (ps : List D) : List Str := ((ps.map atomP).filter fun a => !isNon a).map nmA
def okPsT : List D → Prop := fun ds => ∃ ps, ds = [.tup ps] ∧ ps.length ≤ 100 ∧ ∀ p ∈ ps, okP p
theorem lst_about {R : Rgn} {C : Addr} {i k : Nat} (ρ : DS R) (Kk : D → DS R → Prop) (h : wMethA C "about" (mAbout C) (wV i) (wCons (wV k) wNil) ρ Kk) : wMethA C "about" (mAbout C) (wV i) (wCons (wV k) wNil) ρ fun d ρ1 => Kk d ρ1 ∧ ∃ ds, d = .lst ds := by
  obtain ⟨d, e, hi, d2, e2, rs, x, e3, a, b, cc, kk⟩ := h
  exact ⟨d, e, hi, d2, e2, rs, x, e3, a, b, cc, kk, _, rfl⟩
theorem ne_not (z : Str) : eqD true (.str z) (.str "unlike") = some (.bl (!decide (z = "unlike"))) := by
  unfold eqD
  rw [if_pos ⟨by simp, by simp, by simp⟩, eq_str_str]
  by_cases h : z = "unlike"
  · subst h; rfl
  · have h' : (z == ("unlike" : Str)) = false := by rw [beq_eq_false_iff_ne]; exact h
    rw [h', decide_eq_false h]
    rfl
theorem relsP_cons (p : D) (ps : List D) : relsP (p :: ps) = (if isNon (atomP p) = true then [] else [nmA (atomP p)]) ++ relsP ps := by
  unfold relsP
  rw [List.map_cons]
  cases h : isNon (atomP p) with
  | true => rw [List.filter_cons_of_neg (by rw [h]; decide)]; rfl
  | false => rw [List.filter_cons_of_pos (by rw [h]; decide)]; rfl
theorem relsP_len (ps : List D) : (relsP ps).length ≤ ps.length := by
  unfold relsP
  rw [List.length_map]
  have := List.length_filter_le (fun a => !isNon a) (ps.map atomP)
  rw [List.length_map] at this
  exact this
section
variable {P : Program} {w : World} {K : PySem.W.Frag} {mg : Str → Option Value} {base : Heap} {f : Addr} {fd : FuncData} {C : Addr}
-- _law_all_relations: slots 0 _law_body, 1 _law_part
abbrev s_L_all_relations : Stmt := (top 55)
abbrev N_sc_L_all_relations : List Str := ["_law_body", "_law_part"]
theorem sc_L_all_relations : FnScope N_sc_L_all_relations ["_law_body"] (defScope s_L_all_relations) := ⟨rfl, rfl, rfl, by decide +kernel, rfl, by decide +kernel, by decide +kernel⟩
theorem ok_L_all_relations (F : FnP K "_law_all_relations" "_law_all_relations" s_L_all_relations f fd) (T : Tx K mg) :
    FnOk P w K mg base CX0 1 f fd ["_law_body"] (spF K (wF okPsT fun ds => .lst ((relsP ((sqOf (ds.headD .non)).getD [])).map .str))) :=
  FnF F sc_L_all_relations (fun ds Kk h => by obtain ⟨⟨_, rfl, _⟩, _⟩ := h; rfl) fun cdv A outer s H Fz E hr => ⟨_, 
(ds_one (ds_retF (fe_lc (own := [("_law_part", 1)]) sc_L_all_relations.nd (di_seq (de_v (i := 0))) (blkOk_by (own := [("_law_part", 1)]) (N := N_sc_L_all_relations) (sc := defScope s_L_all_relations) (by decide +kernel)) (fun _ _ _ _ _ => (dg_name (i := 1) sc_L_all_relations.nd)) (fun _ _ _ _ _ => (dts_one (dt_cm (c_ne hr) (de_ixA (de_v (i := 1)) de_int) de_str))) (fun _ _ _ _ _ => (de_if (dt_cm (c_eq hr) (de_ixA (de_v (i := 1)) de_int) de_str) (de_ixA (de_ixA (de_v (i := 1)) de_int) de_int) (de_ixA (de_v (i := 1)) de_int))))))
  , fun ds Kk h => by
    obtain ⟨⟨ps, rfl, hl, ho⟩, k⟩ := h
    replace k : Kk (.lst ((relsP ps).map .str)) := k
    let mk : DS noR := ⟨noG, [some (.fz (.tup ps)), none]⟩
    refine ⟨_, rfl, ps, rfl, by omega, fun i m d' q => ?_, ?_⟩
    · have e : i = 1 := by simpa using m
      subst e
      cases q
    refine lcGo_ind (fun rest acc ρ => ∃ zs : List Str, acc = zs.map D.str ∧ zs ++ relsP rest = relsP ps ∧ (∀ p ∈ rest, okP p) ∧ ρ = mk) ?_ ?_ _ _ _ ⟨[], rfl, rfl, ho, rfl⟩
    · rintro p rest acc N ρ hN ⟨zs, rfl, hf, hok, rfl⟩
      rw [relsP_cons] at hf
      have hok' : ∀ q ∈ rest, okP q := fun q hq => hok q (List.mem_cons_of_mem _ hq)
      have fin : ∀ z : Str, zs ++ ([z] ++ relsP rest) = relsP ps → N (zs.map D.str ++ [.str z]) mk := fun z e => hN _ _ ⟨zs ++ [z], by simp, by rw [List.append_assoc]; exact e, hok', rfl⟩
      rcases hok p List.mem_cons_self with ⟨z, ts, rfl, hz, hl2, ht⟩ | ⟨a, ⟨z, ts, rfl, hz, hl2, ht⟩, rfl⟩ | ⟨t, u, ht, hu, rfl⟩
      · have nz := name_not hz
        have nu := (nm_not (name_nm z hz)).2
        have ea : atomP (.tup (.str z :: ts)) = .tup (.str z :: ts) := by simp [atomP, nz, nu]
        rw [ea, if_neg (fun h => nomatch h)] at hf
        refine ⟨_, rfl, .str z, by simp [ixN], _, ne_not z, _, rfl, ?_⟩
        rw [decide_eq_false nu]
        refine itT ⟨_, rfl, .str z, by simp [ixN], _, eq_not z, _, rfl, ?_⟩
        rw [decide_eq_false nz]
        exact itF ⟨_, rfl, .str z, by simp [ixN], fin z hf⟩
      · have ea : atomP (.tup [.str "not", .tup (.str z :: ts)]) = .tup (.str z :: ts) := by simp [atomP]
        rw [ea, if_neg (fun h => nomatch h)] at hf
        refine ⟨_, rfl, .str "not", by simp [ixN], _, ne_not _, _, rfl, ?_⟩
        have nun : ¬ ("not" : Str) = "unlike" := fun e => ne_un e.symm
        rw [decide_eq_false nun]
        refine itT ⟨_, rfl, .str "not", by simp [ixN], _, eq_not _, _, rfl, ?_⟩
        exact itT ⟨_, rfl, .tup (.str z :: ts), by simp [ixN], .str z, by simp [ixN], fin z hf⟩
      · have ea : atomP (.tup [.str "unlike", t, u]) = .non := by simp [atomP, ne_un]
        rw [ea] at hf
        have hf : zs ++ relsP rest = relsP ps := hf
        refine ⟨_, rfl, .str "unlike", by simp [ixN], _, ne_not _, _, rfl, ?_⟩
        exact itF (hN _ _ ⟨zs, rfl, hf, hok', rfl⟩)
    · rintro acc ρ ⟨zs, rfl, hf, hok, rfl⟩
      have e : zs = relsP ps := by rw [← hf]; exact (List.append_nil zs).symm
      subst e
      exact k⟩
end
/-- the heads' and the other relations -/
def othersP : List D → List Str
  | [] => []
  | .tup [_, .tup body] :: rs => relsP body ++ othersP rs
  | _ :: rs => othersP rs
theorem given_eq (hs : List Str) : ∀ {rs : List D}, (∀ r ∈ rs, gRule r ∧ headN r ∈ hs) → ((rs.flatMap atomsR).map nmA).filter (fun z => !decide (z ∈ hs)) = (othersP rs).filter fun z => !decide (z ∈ hs)
  | [], _ => rfl
  | r :: rs, h => by
    obtain ⟨hr, hm⟩ := h r List.mem_cons_self
    obtain ⟨hd, body, rfl, _⟩ := hr.parts
    have ih := given_eq hs (rs := rs) fun q hq => h q (List.mem_cons_of_mem _ hq)
    have hm : nmA (.tup hd) ∈ hs := hm
    show (((atomsR (.tup [.tup hd, .tup body])) ++ rs.flatMap atomsR).map nmA).filter _ = (relsP body ++ othersP rs).filter _
    rw [List.map_append, List.filter_append, ih, List.filter_append]
    congr 1
    show ((nmA (.tup hd)) :: relsP body).filter _ = _
    rw [List.filter_cons_of_neg (by simp [hm])]
theorem othersP_len : ∀ {rs : List D}, (∀ r ∈ rs, gRule r) → (othersP rs).length ≤ 6 * rs.length
  | [], _ => by simp [othersP]
  | r :: rs, h => by
    obtain ⟨hd, body, rfl, _, _, _, _, _, lb⟩ := (h r List.mem_cons_self).parts
    have ih := othersP_len (rs := rs) fun q hq => h q (List.mem_cons_of_mem _ hq)
    have := relsP_len body
    show (relsP body ++ othersP rs).length ≤ _
    rw [List.length_append, List.length_cons]
    omega
theorem dTerm_w {t : D} (h : dTerm t) : isDat t = true ∧ dep t = 0 ∧ wid t = true := by
  obtain ⟨a, b, _⟩ := isTm_dat (dTerm_tm t h)
  refine ⟨a, b, ?_⟩
  refine dTerm_cases (P := fun t => wid t = true) ?_ ?_ ?_ ?_ ?_ ?_ ?_ ?_ ?_ t h <;> decide
theorem wids_all {xs : List D} (h : ∀ x ∈ xs, isDat x = true ∧ dep x ≤ 0 ∧ wid x = true) : isDats xs = true ∧ deps xs = 0 ∧ wids xs = true := by
  refine ⟨isDats_iff.mpr fun x hx => (h x hx).1, ?_, wids_iff.mpr fun x hx => (h x hx).2.2⟩
  induction xs with
  | nil => rfl
  | cons y ys ih =>
    have h1 := (h y List.mem_cons_self).2.1
    have h2 := ih fun q hq => h q (List.mem_cons_of_mem _ hq)
    rw [deps]
    omega
theorem okA.w {d : D} (h : okA d) : isDat d = true ∧ dep d ≤ 1 ∧ wid d = true := by
  obtain ⟨z, ts, rfl, hz, hl, ht⟩ := h
  have hs : ∀ x ∈ (D.str z :: ts), isDat x = true ∧ dep x ≤ 0 ∧ wid x = true := fun x hx => by
    rcases List.mem_cons.mp hx with rfl | hx
    · simp [wid]
    · obtain ⟨a, b, c⟩ := dTerm_w (ht x hx)
      exact ⟨a, by omega, c⟩
  obtain ⟨a, b, c⟩ := wids_all hs
  have := arN_le z
  exact ⟨by simpa [isDat] using a, by simp only [dep]; omega, by simp only [wid, c]; simp; omega⟩
theorem okP.w {p : D} (h : okP p) : isDat p = true ∧ dep p ≤ 2 ∧ wid p = true := by
  rcases h with h | ⟨a, h, rfl⟩ | ⟨t, u, ht, hu, rfl⟩
  · obtain ⟨a, b, c⟩ := h.w
    exact ⟨a, by omega, c⟩
  · obtain ⟨a, b, c⟩ := h.w
    refine ⟨by simp [isDat, isDats, a], ?_, by simp [wid, wids, c]⟩
    simp only [dep, deps]
    omega
  · obtain ⟨a, b, c⟩ := dTerm_w ht
    obtain ⟨a', b', c'⟩ := dTerm_w hu
    refine ⟨by simp [isDat, isDats, a, a'], ?_, by simp [wid, wids, c, c']⟩
    simp only [dep, deps, b, b']
    omega
theorem deps_max {xs : List D} {n : Nat} (h : ∀ x ∈ xs, dep x ≤ n) : deps xs ≤ n := by
  induction xs with
  | nil => simp
  | cons y ys ih =>
    have h1 := h y List.mem_cons_self
    have h2 := ih fun q hq => h q (List.mem_cons_of_mem _ hq)
    rw [deps]
    omega
theorem gRule.w {r : D} (h : gRule r) : isDat r = true ∧ dep r ≤ 4 ∧ wid r = true := by
  obtain ⟨hd, body, rfl, oh, orow, lh, ob, nb, lb⟩ := h.parts
  obtain ⟨a, b, c⟩ := oh.w
  have h1 : isDats body = true := isDats_iff.mpr fun p hp => (ob p hp).w.1
  have h2 : deps body ≤ 2 := deps_max fun p hp => (ob p hp).w.2.1
  have h3 : wids body = true := wids_iff.mpr fun p hp => (ob p hp).w.2.2
  refine ⟨?_, ?_, ?_⟩
  · rw [isDat, isDats, isDats, a]
    simp [isDat, h1, isDats]
  · simp only [dep, deps] at b ⊢
    omega
  · have h4 : wid (.tup body) = true := by simp only [wid, h3]; simp; omega
    simp [wid, wids] at c h4 ⊢
    exact ⟨c, h4⟩
def oddsT : List D := [.str "way", .str "r", .str "s", .str "p", .str "q", .str "nobody", .non, .int 5, .lst [], .tup [.str "way"]]
def mTold (C : Addr) : WM := fun ds Kk => ∃ rs, ds = [oRules C rs, .lst rs] ∧ (∀ r ∈ rs, gRule r) ∧ rs.length ≤ 20 ∧ Kk (.bl true)
end L03

set_option Elab.async false
set_option linter.all false
set_option maxRecDepth 100000
set_option maxHeartbeats 4000000
namespace Q
open PySem PySem.Spec PyProof.Rows L2
section
variable {X : Cx} {c : Ctx} {fr : Bool} {a b : Expr} {pa pb : Bool} {wa wb : WE c.R}
/-- x, y = a, b: a tuple is made and taken apart; y's object is fresh -/
theorem ds_par2U {i k : Nat} {x y : Str} {px py pt pos pt2 : Pos} {kt k2} (hN : X.N.Nodup) (ha : DE X c pa false a wa) (hb : FE X c pb b wb) (hi : X.N[i]? = some x := by rfl) (hj : X.N[k]? = some y := by rfl)
    (hx : Loc X.env.scope x := by first | exact Or.inl rfl | exact Or.inr rfl) (hy : Loc X.env.scope y := by first | exact Or.inl rfl | exact Or.inr rfl)
    (hfx : X.fn x = true ∨ X.env.scope.names.lookup x = some .local := by first | exact .inl rfl | exact .inr rfl | assumption) (hfy : X.fn y = true ∨ X.env.scope.names.lookup y = some .local := by first | exact .inl rfl | exact .inr rfl | assumption)
    (hc : X.calm = true := by rfl) (hk : X.K = c.K := by rfl)
    (h1 : starEach [a, b] X.env = (false, eval a X.env) :: starEach [b] X.env := by rfl) (h2 : starEach [b] X.env = (false, eval b X.env) :: starEach [] X.env := by rfl)
    (hs : swapsWithSole [.Tuple [.Name x px, .Name y py] kt pt] (.Tuple [a, b] k2 pt2) pos.line X.env = pure false := by rfl) (hw : swappedStores [.Tuple [.Name x px, .Name y py] kt pt] (.Tuple [a, b] k2 pt2) X.env = pure none := by rfl)
    (h3 : (assignEach [.Tuple [.Name x px, .Name y py] kt pt] X.env).map (·.2) = [assign (.Tuple [.Name x px, .Name y py] kt pt) X.env] := by rfl)
    (hn : (assignEach [.Name x px, .Name y py] X.env).length = 2 := by rfl) (hst : (assignEach [.Name x px, .Name y py] X.env).findIdx? (·.1) = none := by rfl)
    (g1 : (assignEach [.Name x px, .Name y py] X.env).map (·.2) = assign (.Name x px) X.env :: (assignEach [.Name y py] X.env).map (·.2) := by rfl) (g2 : (assignEach [.Name y py] X.env).map (·.2) = assign (.Name y py) X.env :: (assignEach [] X.env).map (·.2) := by rfl) :
    DS1 X c fr (.Assign [.Tuple [.Name x px, .Name y py] kt pt] (.Tuple [a, b] k2 pt2) pos) (sPar2O i k wa wb) :=
  ⟨(ps_asg (pe_tup (pa_cons ha.pe (pa_cons hb.pe pa_nil h2) h1)) (pg_tup hc (pgs_cons (pg_name hN hi hx hfx) (pgs_cons (pg_name hN hj hy hfy) pgs_nil g2) g1) hn hst) hs hw h3).imp fun E σ H ⟨ρ, F, Dk, S, w, k1, _⟩ => ⟨ρ, F, [], _, S, w, fun d ρ1 v F1 H1 hw2 S1 fs1 _ _ r1 => ⟨ρ1, F1, [], _, S1, hw2, fun d2 ρ2 q o F2 H2 hk2 S2 fs2 _ _ hq ob => by
    have r1' : Rep c.K F1 v d := r1
    have big := big_line
    refine ⟨by show 2 ≤ sizeLine; omega, fun t ht => ?_⟩
    have S3 := (S2.setF (r1'.same fs2) i).setO hq ob k
    have ht : upd H2 q o t = none := ht
    have gr : Grow F2 (upd H2 q o) F2 (upd (upd H2 q o) t (.tup [v, .ref q])) := ⟨Same.refl _, fun b u e => by rw [upd_ne (ne_of_none (S3.sub _ _ e) ht)]; exact S3.sub _ _ e, fun b u e => by rw [upd_ne (ne_of_none e ht)]; exact e, fun b h => .inl h⟩
    exact ⟨t, [v, .ref q], rfl, SqT.of upd_same, rfl, _, _, rfl, _, _, rfl, rfl, k1 _ _ F2 _ hk2 (S3.grow gr) (fs1.trans fs2)⟩⟩⟩⟩
end
end Q

set_option Elab.async false
set_option linter.all false
set_option maxRecDepth 100000
set_option maxHeartbeats 4000000
namespace L03
open PySem PySem.Spec PyProof.Rows L2 Q
theorem strs_w (zs : List Str) (h : zs.length ≤ 1000) : isDat (.lst (zs.map .str)) = true ∧ dep (.lst (zs.map .str)) ≤ 1 ∧ wid (.lst (zs.map .str)) = true := by
  have hw := wids_all (xs := zs.map D.str) fun x hx => by
    obtain ⟨z, _, rfl⟩ := List.mem_map.mp hx
    simp [wid]
  obtain ⟨a, b, c⟩ := hw
  refine ⟨by simpa [isDat] using a, by simp only [dep]; omega, by simp only [wid, c]; simp; omega⟩
theorem ints_w (ds : List D) (h : ds.length ≤ 1000) (hi : ∀ d ∈ ds, ∃ i, d = .int i) : isDat (.lst ds) = true ∧ dep (.lst ds) ≤ 1 ∧ wid (.lst ds) = true := by
  have hw := wids_all (xs := ds) fun x hx => by
    obtain ⟨i, rfl⟩ := hi x hx
    simp [wid]
  obtain ⟨a, b, c⟩ := hw
  refine ⟨by simpa [isDat] using a, by simp only [dep]; omega, by simp only [wid, c]; simp; omega⟩
theorem aboutF_int (x : D) : ∀ (zs : List Str) (i : Nat), ∀ d ∈ aboutF x i zs, ∃ j, d = .int j
  | [], _, d, h => by cases h
  | z :: zs, i, d, h => by
    rw [aboutF_cons] at h
    split at h
    · rcases List.mem_cons.mp h with rfl | h
      · exact ⟨_, rfl⟩
      · exact aboutF_int x zs (i + 1) d h
    · exact aboutF_int x zs (i + 1) d h
theorem rules_w {rs : List D} (h : ∀ r ∈ rs, gRule r) (hl : rs.length ≤ 100) : isDat (.lst rs) = true ∧ dep (.lst rs) ≤ 5 ∧ wid (.lst rs) = true := by
  have h1 : isDats rs = true := isDats_iff.mpr fun p hp => (h p hp).w.1
  have h2 : deps rs ≤ 4 := deps_max fun p hp => (h p hp).w.2.1
  have h3 : wids rs = true := wids_iff.mpr fun p hp => (h p hp).w.2.2
  refine ⟨by simpa [isDat] using h1, by simp only [dep]; omega, by simp only [wid, h3]; simp; omega⟩
theorem rules_ok {rs : List D} (h : ∀ r ∈ rs, gRule r) (hl : rs.length ≤ 50) : okRs rs := ⟨fun r hr => (h r hr).ok, hl⟩
theorem once_lens (zs : List Str) : (onceS zs).length ≤ zs.length := onceS_len zs
theorem sortT_len (zs : List Str) : (sortT zs).length = zs.length := List.length_mergeSort _
section
variable {P : Program} {w : World} {K : PySem.W.Frag} {mg : Str → Option Value} {base : Heap} {f : Addr} {fd : FuncData} {C : Addr}
-- _law_told_right: slots 0 _law_made, 1 _law_rules, 2 _law_given, 3 _law_due, 4 _law_told, 5 _law_odd, 6 _law_heads, 7 _law_others, 8 _law_head, 9 _law_body, 10 _law_name, 11 _law_number
abbrev s_L_told_right : Stmt := (top 56)
abbrev N_sc_L_told_right : List Str := ["_law_made", "_law_rules", "_law_given", "_law_due", "_law_told", "_law_odd", "_law_heads", "_law_others", "_law_head", "_law_body", "_law_name", "_law_number"]
theorem sc_L_told_right : FnScope N_sc_L_told_right ["_law_made", "_law_rules"] (defScope s_L_told_right) := ⟨rfl, rfl, rfl, by decide +kernel, rfl, by decide +kernel, by decide +kernel⟩
theorem ok_L_told_right (F : FnP K "_law_told_right" "_law_told_right" s_L_told_right f fd) (T : Tx K mg) (L_ex : ∃ g, PySem.W.findIn K (.ref C) "__len__" = some (some (.ref g)) ∧ PySem.W.isFn K (.ref g) = true ∧ L2.FnR P w K mg base CX0 1 g (spD K (mOwnR C fun xs => .int (xs.length : Nat))))
    (M_listed : CalM P w K mg base C "listed" 1 ["self"] (spF K (mOwnR C .lst))) (M_made : CalM P w K mg base C "made" 1 ["self"] (spF K (mOwnR C fun rs => .lst ((madeN rs).map .str)))) (M_given : CalM P w K mg base C "given" 3 ["self"] (spF K (mOwnR C fun rs => .lst ((givenN rs).map .str))))
    (M_about : CalM P w K mg base C "about" 1 ["self", "relation"] (spF K (mAbout C))) (C__law_all_relations : Cal P w K mg base "_law_all_relations" 1 ["_law_body"] (spF K (wF okPsT fun ds => .lst ((relsP ((sqOf (ds.headD .non)).getD [])).map .str))))
    (C__law_each_once : Cal P w K mg base "_law_each_once" 1 ["_law_things"] (spF K (wF okStrs fun ds => .lst ((onceS (strsOf (ds.headD .non))).map .str)))) (C__law_same : Cal P w K mg base "_law_same" 10 ["_law_found", "_law_due"] (spD K (mSame 9))) :
    FnOk P w K mg base CX0 12 f fd ["_law_made", "_law_rules"] (spD K (mTold C)) :=
  FnD F sc_L_told_right (fun ds Kk h => by obtain ⟨_, rfl, _⟩ := h; rfl) fun cdv A outer s H Fz E hr => ⟨_, 
(ds_cons (ds_par2U (i := 6) (k := 7) sc_L_told_right.nd (FE.de (fe_lc (own := [("_law_head", 8), ("_law_body", 9)]) sc_L_told_right.nd (di_seq (de_v (i := 1))) (blkOk_by (own := [("_law_head", 8), ("_law_body", 9)]) (N := N_sc_L_told_right) (sc := defScope s_L_told_right) (by decide +kernel)) (fun _ _ _ _ _ => (dg_tup (n := 2) (dgs_cons (dg_name (i := 8) sc_L_told_right.nd) (dgs_cons (dg_name (i := 9) sc_L_told_right.nd) dgs_nil)))) (fun _ _ _ _ _ => dts_nil) (fun _ _ _ _ _ => (de_ixA (de_v (i := 8)) de_int)))) (fe_lst da_nil))
 (ds_cons (ds_for (di_seq (de_v (i := 1))) (dg_tup (n := 2) (dgs_cons (dg_name (i := 8) sc_L_told_right.nd) (dgs_cons (dg_name (i := 9) sc_L_told_right.nd) dgs_nil)))
  (ds_one (ds_ext (i := 7) (FE.de (fe_call C__law_all_relations hr (da_cons (de_v (i := 9)) da_nil))))))
 (ds_cons (ds_set (i := 2) sc_L_told_right.nd (FE.de (fe_sort T.b_sorted hr (FE.de (fe_call C__law_each_once hr (da_cons (FE.de (fe_lc (own := [("_law_name", 10)]) sc_L_told_right.nd (di_seq (de_o (i := 7))) (blkOk_by (own := [("_law_name", 10)]) (N := N_sc_L_told_right) (sc := defScope s_L_told_right) (by decide +kernel)) (fun _ _ _ _ _ => (dg_name (i := 10) sc_L_told_right.nd)) (fun _ _ _ _ _ => (dts_one (dt_cm (c_ni hr) (de_v (i := 10)) (de_v (i := 6))))) (fun _ _ _ _ _ => (de_v (i := 10))))) da_nil))))))
 (ds_cons (ds_set (i := 3) sc_L_told_right.nd (FE.de (fe_lst (da_cons (de_v (i := 1)) (da_cons (FE.de (fe_sortSet T.b_sorted T.b_set hr (de_v (i := 6)))) (da_cons (de_v (i := 2)) (da_cons (de_len T.b_len (de_v (i := 1))) da_nil)))))))
 (ds_cons (ds_three (k := 4) (fe_meth M_listed hr (de_v (i := 0))) (fe_meth M_made hr (de_v (i := 0))) (fe_meth M_given hr (de_v (i := 0))) sc_L_told_right.nd)
 (ds_cons (ds_if (dt_not (dt_truth (de_call C__law_same hr (da_cons (FE.de (fe_lst (da_cons (FE.de (fe_meth M_listed hr (de_v (i := 0)))) (da_cons (FE.de (fe_meth M_made hr (de_v (i := 0)))) (da_cons (FE.de (fe_meth M_given hr (de_v (i := 0)))) (da_cons (de_lenO T.b_len ⟨L_ex⟩ hr (de_v (i := 0))) da_nil)))))) (da_cons (de_v (i := 3)) da_nil))))) (ds_one (ds_ret de_bl)) ds_nil)
 (ds_cons (ds_for (di_seq (de_tup (da_cons de_str (da_cons de_str (da_cons de_str (da_cons de_str (da_cons de_str (da_cons de_str (da_cons de_non (da_cons de_int (da_cons (FE.de (fe_lst da_nil)) (da_cons (de_tup (da_cons de_str da_nil)) da_nil)))))))))))) (dg_name (i := 5) sc_L_told_right.nd)
  (ds_cons (ds_appF (fe_methA M_about hr (de_v (i := 0)) (da_cons (de_v (i := 5)) da_nil)) de_str (lst := lst_about))
 (ds_one (ds_if (dt_not (dt_truth (de_call C__law_same hr (da_cons (FE.de (fe_methA M_about hr (de_v (i := 0)) (da_cons (de_v (i := 5)) da_nil))) (da_cons (FE.de (fe_lc (own := [("_law_number", 11), ("_law_name", 10)]) sc_L_told_right.nd (di_enumA T.b_enumerate (de_v (i := 6))) (blkOk_by (own := [("_law_number", 11), ("_law_name", 10)]) (N := N_sc_L_told_right) (sc := defScope s_L_told_right) (by decide +kernel)) (fun _ _ _ _ _ => (dg_tup (n := 2) (dgs_cons (dg_name (i := 11) sc_L_told_right.nd) (dgs_cons (dg_name (i := 10) sc_L_told_right.nd) dgs_nil)))) (fun _ _ _ _ _ => (dts_one (dt_cm (c_eq hr) (de_v (i := 10)) (de_v (i := 5))))) (fun _ _ _ _ _ => (de_v (i := 11))))) da_nil))))) (ds_one (ds_ret de_bl)) ds_nil))))
 (ds_one (ds_ret de_bl)))))))))
  , fun ds Kk h => by
    obtain ⟨rs, rfl, hg, hl, k⟩ := h
    let hs : List Str := rs.map headN
    let mk : Option DV → Option DV → Option DV → Option DV → Option DV → Option DV → DS noR := fun x2 x3 x4 x5 x6 x7 => ⟨noG, [some (.fz (oRules C rs)), some (.fz (.lst rs)), x2, x3, x4, x5, x6, x7, none, none, none, none]⟩
    refine ⟨_, rfl, rs, rfl, by omega, fun i m d' q => ?_, ?_⟩
    · have e : i = 8 ∨ i = 9 := by simpa using m
      rcases e with rfl | rfl <;> cases q
    refine lcGo_ind (fun rest acc ρ => ∃ dn, dn ++ rest = rs ∧ acc = (dn.map headN).map D.str ∧ (∀ r ∈ rest, gRule r) ∧ ρ = mk none none none none none none) ?_ ?_ _ _ _ ⟨[], rfl, rfl, hg, rfl⟩
    · rintro d rest acc N ρ hN ⟨dn, hd, rfl, hok, rfl⟩
      obtain ⟨h, body, rfl, ⟨z, ts, e, _⟩, _⟩ := (hok d List.mem_cons_self).parts
      cases e
      refine ⟨_, rfl, rfl, _, _, rfl, _, _, rfl, rfl, ?_⟩
      exact ⟨_, rfl, .str z, by simp [ixN], hN _ _ ⟨dn ++ [.tup [.tup (.str z :: ts), .tup body]], by rw [List.append_assoc]; exact hd, by simp [headN, nmA], fun q hq => hok q (List.mem_cons_of_mem _ hq), rfl⟩⟩
    rintro acc ρ ⟨dn, hd, rfl, _, rfl⟩
    rw [List.append_nil] at hd
    subst hd
    refine ⟨by simp, ?_⟩
    refine ⟨_, rfl, dn, rfl, ?_⟩
    let h6 : Option DV := some (.fz (.lst ((dn.map headN).map .str)))
    let mk2 : Option DV → Option DV → Option DV → Option DV → Option DV → Option DV → Option DV → DS noR := fun x2 x3 x4 x5 x7 x8 x9 => ⟨noG, [some (.fz (oRules C dn)), some (.fz (.lst dn)), x2, x3, x4, x5, h6, x7, x8, x9, none, none]⟩
    have hol := othersP_len hg
    refine forGo_ind (fun rest ρ => ∃ zs x8 x9, zs ++ othersP rest = othersP dn ∧ (∀ r ∈ rest, gRule r) ∧ ρ = mk2 none none none none (some (.own (.lst (zs.map .str)))) x8 x9) ?_ ?_ _ _ ⟨[], none, none, rfl, hg, rfl⟩
    · rintro d rest N ρ hN ⟨zs, x8, x9, hz, hok, rfl⟩
      obtain ⟨h, body, rfl, _, _, _, ob, _, lb⟩ := (hok d List.mem_cons_self).parts
      have hz : zs ++ (relsP body ++ othersP rest) = othersP dn := hz
      have hzl := congrArg List.length hz
      rw [List.length_append, List.length_append] at hzl
      refine ⟨_, rfl, rfl, _, _, rfl, _, _, rfl, rfl, ?_⟩
      refine ⟨⟨_, rfl⟩, _, rfl, ⟨body, rfl, by omega, ob⟩, _, _, rfl, rfl, ?_, hN _ ⟨zs ++ relsP body, some (.fz (.tup h)), some (.fz (.tup body)), by rw [List.append_assoc]; exact hz, fun q hq => hok q (List.mem_cons_of_mem _ hq), ?_⟩⟩
      · show (zs.map D.str).length + ((relsP body).map D.str).length ≤ _
        rw [List.length_map, List.length_map]
        omega
      · rw [List.map_append]
        rfl
    rintro ρ ⟨zs, x8, x9, hz, _, rfl⟩
    have hz : zs = othersP dn := by rw [← hz]; exact (List.append_nil zs).symm
    subst hz
    let hh := dn.map headN
    let gv : List Str := onceS ((othersP dn).filter fun z => !decide (z ∈ hh))
    have hgv : gv.length ≤ 120 := by
      show (onceS ((othersP dn).filter fun z => !decide (z ∈ hh))).length ≤ 120
      have h1 := onceS_len ((othersP dn).filter fun z => !decide (z ∈ hh))
      have h2 := List.length_filter_le (fun z => !decide (z ∈ hh)) (othersP dn)
      omega
    let x7 : Option DV := some (.fz (.lst ((othersP dn).map .str)))
    simp only [sSeq, sSet]
    refine wSortL_strs (R := noR) (ρ1 := mk2 none none none none x7 x8 x9) gv (fun K' k' => ?_) ?_
    · show wLc (wSq (wO 7)) (gNm 10) (wTest (wOp (inD true) (wV 10) (wV 6))) (wV 10) [10] (mk2 none none none none (some (.own (.lst ((othersP dn).map D.str)))) x8 x9) (fun d ρ1 => wF okStrs (fun ds => D.lst (List.map D.str (onceS (strsOf (ds.headD D.non))))) [d] fun d => K' d ρ1)
      refine wLc_via (ρ' := mk2 none none none none x7 x8 x9) (ds := (othersP dn).map D.str) (fun K' k' => .inr ⟨_, rfl, _, rfl, k'⟩) _ ?_
      refine wLc_fm (α := Str) (h := .str) (xs := othersP dn) (p := fun z => !decide (z ∈ hh)) (f := .str) (x := none) (fun K k => k) (by omega) rfl (fun _ h => by cases h)
        (fun z hz K k => ⟨.str z, rfl, _, rfl, _, inD_strs true z hh, _, rfl, ?_⟩) (fun z hz _ K k => ⟨.str z, rfl, k⟩) _ ?_
      · refine ⟨⟨_, rfl, ?_⟩, ?_⟩
        · have := List.length_filter_le (fun z => !decide (z ∈ hh)) (othersP dn)
          omega
        · show K' (.lst ((onceS (strsOf (.lst (((othersP dn).filter fun z => !decide (z ∈ hh)).map D.str)))).map .str)) _
          rw [strsOf_map]
          exact k'
      · have e : xr true (decide (z ∈ hh)) = !decide (z ∈ hh) := by cases decide (z ∈ hh) <;> rfl
        rw [e]
        exact k
    have eg : givenN dn = sortT gv := by
      show sortT (onceS (((dn.flatMap atomsR).map nmA).filter fun z => !decide (z ∈ hh))) = sortT gv
      rw [given_eq hh fun r hr => ⟨hg r hr, List.mem_map_of_mem hr⟩]
    have rok : okRs dn := rules_ok hg (by omega)
    have hhl : hh.length ≤ 20 := by show (dn.map headN).length ≤ 20; rw [List.length_map]; exact hl
    have l1 : (sortT (onceS hh)).length ≤ 20 := by rw [sortT_len]; exact Nat.le_trans (onceS_len hh) hhl
    have l2 : (sortT gv).length ≤ 120 := by rw [sortT_len]; exact hgv
    let due : D := .lst [.lst dn, .lst ((sortT (onceS hh)).map .str), .lst ((sortT gv).map .str), .int (dn.length : Nat)]
    refine ⟨_, rfl, _, rfl, hh, rfl, by omega, _, rfl, _, rfl, .int (dn.length : Nat), rfl, by simp, ?_⟩
    refine ⟨_, rfl, _, _, rfl, by decide, dn, rfl, rok, ?_⟩
    refine ⟨_, rfl, _, _, rfl, by decide, dn, rfl, rok, ?_⟩
    refine ⟨_, rfl, _, _, rfl, by decide, dn, rfl, rok, ?_⟩
    refine ⟨⟨_, rfl, by omega⟩, ⟨_, rfl, ?_⟩, ⟨_, rfl, ?_⟩, (by show 4 < 12; decide), fun v => ?_⟩
    · rw [List.length_map]; show (sortT (onceS hh)).length < _; omega
    · rw [List.length_map, eg]; omega
    refine ⟨_, rfl, _, _, rfl, by decide, dn, rfl, rok, ?_⟩
    refine ⟨_, rfl, _, _, rfl, by decide, dn, rfl, rok, ?_⟩
    refine ⟨_, rfl, _, _, rfl, by decide, dn, rfl, rok, ?_⟩
    refine ⟨_, rfl, ⟨_, _, rfl⟩, dn, rfl, rok, _, rfl, by omega, by omega, ?_⟩
    refine ⟨by simp, _, rfl, due, ?_, ?_⟩
    · show [D.lst [.lst dn, .lst ((madeN dn).map .str), .lst ((givenN dn).map .str), .int (dn.length : Nat)], due] = [due, due]
      rw [eg]
      rfl
    obtain ⟨a1, a2, a3⟩ := rules_w hg (by omega)
    obtain ⟨b1, b2, b3⟩ := strs_w (sortT (onceS hh)) (by omega)
    obtain ⟨c1, c2, c3⟩ := strs_w (sortT gv) (by omega)
    have hdue : dep due ≤ 6 := by
      show dep (.lst [.lst dn, .lst ((sortT (onceS hh)).map .str), .lst ((sortT gv).map .str), .int (dn.length : Nat)]) ≤ 6
      rw [dep]
      simp only [deps]
      have : dep (.int ((dn.length : Nat) : Int)) = 0 := by simp
      omega
    have hwid : wid due = true := by
      show wid (.lst [.lst dn, .lst ((sortT (onceS hh)).map .str), .lst ((sortT gv).map .str), .int (dn.length : Nat)]) = true
      rw [wid, wids, wids, wids, wids, wids, a3, b3, c3]
      simp [wid]
    have hdat : isDat due = true := by
      show isDat (.lst [.lst dn, .lst ((sortT (onceS hh)).map .str), .lst ((sortT gv).map .str), .int (dn.length : Nat)]) = true
      rw [isDat, isDats, isDats, isDats, isDats, isDats, a1, b1, c1]
      simp [isDat]
    have hde := isDat_e hdat
    refine ⟨by omega, hwid, hde.1, true, rfl, itF ?_⟩
    refine ⟨by simp, by simp, by simp, oddsT, rfl, ?_⟩
    let x2 : Option DV := some (.fz (.lst ((sortT gv).map .str)))
    let x3 : Option DV := some (.fz due)
    have hodd : ∀ x ∈ oddsT, isDat x = true ∧ dep x ≤ 1 := by
      intro x hx
      simp only [oddsT, List.mem_cons, List.not_mem_nil, or_false] at hx
      rcases hx with rfl | rfl | rfl | rfl | rfl | rfl | rfl | rfl | rfl | rfl <;> simp [isDat, isDats, dep, deps]
    refine forGo_ind (fun rest ρ => ∃ x5, (∀ x ∈ rest, x ∈ oddsT) ∧ ρ = mk2 x2 x3 (some (.fz (.raw v))) x5 x7 x8 x9) ?_ ?_ _ _ ⟨none, fun x h => h, rfl⟩
    · rintro x rest N ρ hN ⟨x5, hsub, rfl⟩
      obtain ⟨d1, d2⟩ := hodd x (hsub x List.mem_cons_self)
      refine ⟨_, rfl, ⟨_, _, rfl, by decide⟩, _, rfl, dn, x, rfl, rok, d1, by omega, ?_⟩
      have abl : (aboutF x 0 (dn.map headN)).length ≤ 20 := Nat.le_trans (aboutF_len x _ 0) hhl
      refine ⟨_, rfl, by omega, ?_⟩
      refine ⟨_, rfl, ⟨_, _, rfl, by decide⟩, _, rfl, dn, x, rfl, rok, d1, by omega, ?_⟩
      obtain ⟨e1, e2, e3⟩ := ints_w (aboutF x 0 hh) (by show (aboutF x 0 (dn.map headN)).length ≤ 1000; omega) (aboutF_int x hh 0)
      refine ⟨_, rfl, _, .inl rfl, by rw [enumD_length, List.length_map, List.length_map]; omega, fun i m d' q => ?_, ?_⟩
      · have e : i = 11 ∨ i = 10 := by simpa using m
        rcases e with rfl | rfl <;> cases q
      refine lcGo_ind (fun rest' acc ρ => ∃ i zs, rest' = enumD i (zs.map D.str) ∧ acc ++ aboutF x i zs = aboutF x 0 hh ∧ ρ = mk2 x2 x3 (some (.fz (.raw v))) (some (.fz x)) x7 x8 x9) ?_ ?_ _ _ _ ⟨0, hh, rfl, rfl, rfl⟩
      · rintro d rest' acc N' ρ hN' ⟨i, zs, hr1, hf, rfl⟩
        cases zs with
        | nil => cases hr1
        | cons z zs =>
          obtain ⟨rfl, rfl⟩ : d = .tup [.int (i : Nat), .str z] ∧ rest' = enumD (i + 1) (zs.map D.str) := by
            have h1 : d :: rest' = .tup [.int (i : Nat), .str z] :: enumD (i + 1) (zs.map D.str) := hr1
            exact ⟨(List.cons.inj h1).1, (List.cons.inj h1).2⟩
          have eq1 : eqD false (.str z) x = some (.bl (deq (.str z) x)) := by
            unfold eqD
            rw [if_pos ⟨by simp, d1, by simp⟩]
            cases deq (.str z) x <;> rfl
          refine ⟨_, rfl, rfl, _, _, rfl, _, _, rfl, rfl, ?_⟩
          refine ⟨_, rfl, x, rfl, _, eq1, _, rfl, ?_⟩
          rw [aboutF_cons] at hf
          cases hb : deq (.str z) x with
          | true =>
            rw [hb, if_pos rfl] at hf
            exact itT ⟨_, rfl, hN' _ _ ⟨i + 1, zs, rfl, by rw [List.append_assoc]; exact hf, rfl⟩⟩
          | false =>
            rw [hb, if_neg (by decide)] at hf
            exact itF (hN' _ _ ⟨i + 1, zs, rfl, hf, rfl⟩)
      · rintro acc ρ ⟨i, zs, hr1, hf, rfl⟩
        have e0 : zs = [] := by cases zs with
          | nil => rfl
          | cons z zs => cases hr1
        subst e0
        have e4 : acc = aboutF x 0 hh := by rw [← hf]; exact (List.append_nil _).symm
        subst e4
        have hde := isDat_e e1
        refine ⟨.lst (aboutF x 0 hh), rfl, by omega, e3, hde.1, true, rfl, itF (hN _ ⟨some (.fz x), fun q hq => hsub q (List.mem_cons_of_mem _ hq), rfl⟩)⟩
    · rintro ρ ⟨x5, _, rfl⟩
      exact k⟩
end
end L03

set_option Elab.async false
set_option linter.all false
set_option maxRecDepth 100000
set_option maxHeartbeats 4000000
namespace L03
open PySem PySem.Spec PyProof.Rows L2 Q
def hsOf : List Stmt → List ExceptHandler
  | .Try _ hs _ _ _ :: _ => hs
  | _ => []
/-- the classes of errors that are caught -/
structure Er (K : PySem.W.Frag) (mg : Str → Option Value) (CB CE CU CN : Addr) : Prop where
  mB : mg "BadRule" = some (.ref CB)
  mE : mg "Uneven" = some (.ref CE)
  mU : mg "Unsafe" = some (.ref CU)
  mN : mg "NoRule" = some (.ref CN)
  xB : XfC K CB
  xE : XfC K CE
  xU : XfC K CU
  xN : XfC K CN
  nB : PySem.W.findIn K (.ref CB) "index" = some none
  nE : PySem.W.findIn K (.ref CE) "index" = some none
  nR : PySem.W.findIn K (.ref CE) "relation" = some none
  nU : PySem.W.findIn K (.ref CU) "index" = some none
  nV : PySem.W.findIn K (.ref CU) "letter" = some none
  nN : PySem.W.findIn K (.ref CN) "number" = some none
  bE : CB ≠ CE
  bU : CB ≠ CU
  bN : CB ≠ CN
  eU : CE ≠ CU
  eN : CE ≠ CN
  uN : CU ≠ CN
  kd : ∀ k ∈ [CB, CE, CU, CN], ∀ k' ∈ [CB, CE, CU, CN], PySem.W.exmOne K (.ref k) (.ref k') = some (decide (k = k'))
def clsL (CB CE CU CN : Addr) : List Cl := [⟨CB, 1, "rule", ["index"]⟩, ⟨CE, 1, "uneven", ["index", "relation"]⟩, ⟨CU, 1, "unsafe", ["index", "letter"]⟩, ⟨CN, 1, "number", ["number"]⟩]
-- _law_tried: slots 0 _law_ask, 1 e
abbrev s_L_tried : Stmt := (top 54)
abbrev N_sc_L_tried : List Str := ["_law_ask", "e"]
theorem sc_L_tried : FnScope N_sc_L_tried ["_law_ask"] (defScope s_L_tried) := ⟨rfl, rfl, rfl, by decide +kernel, rfl, by decide +kernel, by decide +kernel⟩
theorem clauses_L {P : Program} {w : World} {K : PySem.W.Frag} {mg : Str → Option Value} {base : Heap} {CB CE CU CN : Addr} (R : Er K mg CB CE CU CN) {g : Addr} {A : Around} {outer : List Env} (cdg : Value) (s : Shared) (H : Hp) :
    Clauses (cxOf C8.CX0 P w K mg base N_sc_L_tried "_law_tried" (defScope s_L_tried) g cdg A outer s H C8.E0).nox (hsOf (defBody s_L_tried)) ((clsL CB CE CU CN).map Cl.told) := by
  refine .cons (x := "BadRule") (n := "e") ⟨by rfl, by decide, .inl R.mB⟩ rfl rfl (fun a oe cls d pn hz hf => pss_one (ps_ret (pe_tup (pa_cons pe_str (pa_cons (pe_xf R.xB R.nB hz hf (pv 1)) pa_nil))))) ?_
  refine .cons (x := "Uneven") (n := "e") ⟨by rfl, by decide, .inl R.mE⟩ rfl rfl (fun a oe cls d pn hz hf => pss_one (ps_ret (pe_tup (pa_cons pe_str (pa_cons (pe_xf R.xE R.nE hz hf (pv 1)) (pa_cons (pe_xf R.xE R.nR hz hf (pv 1)) pa_nil)))))) ?_
  refine .cons (x := "Unsafe") (n := "e") ⟨by rfl, by decide, .inl R.mU⟩ rfl rfl (fun a oe cls d pn hz hf => pss_one (ps_ret (pe_tup (pa_cons pe_str (pa_cons (pe_xf R.xU R.nU hz hf (pv 1)) (pa_cons (pe_xf R.xU R.nV hz hf (pv 1)) pa_nil)))))) ?_
  refine .cons (x := "NoRule") (n := "e") ⟨by rfl, by decide, .inl R.mN⟩ rfl rfl (fun a oe cls d pn hz hf => pss_one (ps_ret (pe_tup (pa_cons pe_str (pa_cons (pe_xf R.xN R.nN hz hf (pv 1)) pa_nil))))) .nil
section
variable {R : Rgn} {CB CE CU CN : Addr} {K : D → DS R → Prop} {ρ : DS R}
theorem cl_rule {i : Int} (k : K (.tup [.str "rule", .int i]) ρ) : wClauses K (clsL CB CE CU CN) CB ["index"] [.int i] ρ := by
  unfold clsL wClauses
  rw [if_pos rfl]
  exact ⟨[.int i], rfl, by simp, k⟩
theorem cl_uneven (ne : CB ≠ CE) {z : Str} {i : Int} (k : K (.tup [.str "uneven", .int i, .str z]) ρ) : wClauses K (clsL CB CE CU CN) CE ["relation", "index"] [.str z, .int i] ρ := by
  unfold clsL wClauses
  rw [if_neg (fun e => ne e.symm)]
  unfold wClauses
  rw [if_pos rfl]
  exact ⟨[.int i, .str z], rfl, by simp, k⟩
theorem cl_unsafe (n1 : CB ≠ CU) (n2 : CE ≠ CU) {z : Str} {i : Int} (k : K (.tup [.str "unsafe", .int i, .str z]) ρ) : wClauses K (clsL CB CE CU CN) CU ["letter", "index"] [.str z, .int i] ρ := by
  unfold clsL wClauses
  rw [if_neg (fun e => n1 e.symm)]
  unfold wClauses
  rw [if_neg (fun e => n2 e.symm)]
  unfold wClauses
  rw [if_pos rfl]
  exact ⟨[.int i, .str z], rfl, by simp, k⟩
theorem cl_number (n1 : CB ≠ CN) (n2 : CE ≠ CN) (n3 : CU ≠ CN) {x : D} (k : K (.tup [.str "number", x]) ρ) : wClauses K (clsL CB CE CU CN) CN ["number"] [x] ρ := by
  unfold clsL wClauses
  rw [if_neg (fun e => n1 e.symm)]
  unfold wClauses
  rw [if_neg (fun e => n2 e.symm)]
  unfold wClauses
  rw [if_neg (fun e => n3 e.symm)]
  unfold wClauses
  rw [if_pos rfl]
  exact ⟨[x], rfl, by simp, k⟩
end
/-- a def that uses a region, its code known -/
theorem FnRc {P : Program} {w : World} {K : PySem.W.Frag} {mg : Str → Option Value} {base : Heap} {x q : Str} {st : Stmt} {f co : Addr} {fd : FuncData} {N ps : List Str} {k : Nat} {R : Rgn} {m : WMR R} (F : FnP K x q st f fd) (hco : fd.code = .ref co) (S : FnScope N ps (defScope st)) (hm : ∀ ds g Kk, m ds g Kk → ds.length = ps.length)
    (hbody : ∀ (A : Around) (outer : List Env) (s : Shared) (H Fz : Hp) (Z : Addr → Prop) (E : XK), Room k (A.deeper (envOfC q (defScope st) s.heap.objs.size f (.ref co))) →
      ∃ w' : WS R, DSs (bodyX P w K mg base N q st f (.ref co) A outer s H E) ⟨K, R, H, Fz, Z⟩ false (defBody st) w' ∧
        ∀ ds g Kk, m ds g Kk → w' { nx := fun ρ => Kk .non ρ.g, rt := fun d g => Kk d g } ⟨g, startD N ds⟩) : FnOk P w K mg base CX0 (k + 1) f fd ps (spR R K m) := by
  obtain ⟨oc, od, dV, kV, doc, pm, an, cdv, ct, osl, rfl, lk, hcd, _, _⟩ := F.ex
  have hco : cdv = .ref co := hco
  subst hco
  refine fn_of lk hcd S (fun vs H Q E h => ?_) (fun A outer s H vs Q E hr h => ?_)
  · obtain ⟨ds, F, Z, g, Kk, _, r, _, _, hw, _⟩ := h
    rw [r.length]
    exact hm ds g Kk hw
  · obtain ⟨ds, Fz, Z, g, Kk, sub, r, ok, zf, hw, k⟩ := h
    obtain ⟨w', hb, hw'⟩ := hbody A outer s H Fz Z E hr
    have gr : ∀ {F' H' : Hp} {g' : R.G}, Fin ⟨K, R, H, Fz, Z⟩ F' H' g' → ∃ Z', GrowR R g Fz H Z g' F' H' Z' := fun {F' H' g'} fin => by
      obtain ⟨Z', ok', z1, z2⟩ := fin.reg
      refine ⟨Z', fin.old, fin.sub, fin_grow fin, fin.keep, fin.live, ok', z1, fun b h => ?_⟩
      by_cases e : Z b
      · exact .inl e
      · exact .inr (z2 b h e)
    exact ⟨_, PSs.nox hb.ps, _, Fz, _, St.start sub r ok zf, hw' ds g Kk hw, fun ρ' σ' F' H' h S' _ => (gr S'.fin).elim fun Z' gz => k .non ρ'.g .non F' Z' H' h gz .non, (fun _ _ _ _ h => h.elim), (fun _ _ _ _ h => h.elim),
      fun d g' h v F' H' fin rp => (gr fin).elim fun Z' gz => k d g' v F' Z' H' h gz rp⟩
end L03

set_option Elab.async false
set_option linter.all false
set_option maxRecDepth 100000
set_option maxHeartbeats 4000000
namespace L03
open PySem PySem.Spec PyProof.Rows L2 Q
/-! what the checking comes to -/
def goodR (r : D) : Prop := okRule r ∧ ∀ a ∈ atomsR r, lnA a = arN (nmA a)
def safeR (r : D) : Prop := goodR r ∧ looseR r = []
def ag (g : Ar) : Prop := ∀ z n, g z = some n → n = arN z
theorem okA.ln {a : D} (h : okA a) : lnA a = arN (nmA a) := by
  obtain ⟨z, ts, rfl, hz, hl, ht⟩ := h
  show ts.length + 1 = arN z
  exact hl
theorem okP.atomA {p : D} (h : okP p) : atomP p = .non ∨ okA (atomP p) := by
  rcases h with ⟨z, ts, rfl, hz, hl2, ht⟩ | ⟨a, ⟨z, ts, rfl, hz, hl2, ht⟩, rfl⟩ | ⟨t, u, ht, hu, rfl⟩
  · have nz := name_not hz
    have nu := (nm_not (name_nm z hz)).2
    have ea : atomP (.tup (.str z :: ts)) = .tup (.str z :: ts) := by simp [atomP, nz, nu]
    rw [ea]
    exact .inr ⟨z, ts, rfl, hz, hl2, ht⟩
  · have ea : atomP (.tup [.str "not", .tup (.str z :: ts)]) = .tup (.str z :: ts) := by simp [atomP]
    rw [ea]
    exact .inr ⟨z, ts, rfl, hz, hl2, ht⟩
  · exact .inl (by simp [atomP, ne_un])
theorem gRule.safe {r : D} (h : gRule r) : safeR r := by
  refine ⟨⟨h.ok, fun a ha => ?_⟩, ?_⟩
  · obtain ⟨hd, body, rfl, oh, orow, lh, ob, nb, lb⟩ := h.parts
    rcases List.mem_cons.mp ha with rfl | ha
    · exact oh.ln
    · obtain ⟨h1, h2⟩ := List.mem_filter.mp ha
      obtain ⟨p, hp, rfl⟩ := List.mem_map.mp h1
      rcases (ob p hp).atomA with h | h
      · rw [h] at h2; cases h2
      · exact h.ln
  · obtain ⟨hd, body, rfl, oh, ob, nb, lb, _, cov⟩ := h
    show (lettersP (hd :: body.filter fun p => !plainP p)).filter (fun z => !decide (z ∈ lettersP (body.filter plainP))) = []
    rw [List.filter_eq_nil_iff]
    intro z hz
    obtain ⟨p, hp, h1, h2⟩ := (lettersP_mem _ z).mp hz
    have hp' : p = hd ∨ p ∈ body := by
      rcases List.mem_cons.mp hp with h | h
      · exact .inl h
      · exact .inr (List.mem_filter.mp h).1
    obtain ⟨q, hq, q1, q2⟩ := cov p hp' _ h1 h2
    have : z ∈ lettersP (body.filter plainP) := (lettersP_mem _ z).mpr ⟨q, List.mem_filter.mpr ⟨hq, q1⟩, q2, h2⟩
    simp [this]
/-- that a relation was seen -/
def seenA (g : Ar) (z : Str) : Prop := g z ≠ none
theorem unevA_ok : ∀ {as : List D} {g : Ar}, ag g → (∀ a ∈ as, lnA a = arN (nmA a)) → ∃ g', unevA g as = (none, g') ∧ ag g' ∧ (∀ a ∈ as, seenA g' (nmA a)) ∧ ∀ z, seenA g z → seenA g' z
  | [], g, h, _ => ⟨g, rfl, h, (fun a h => nomatch h), fun z h => h⟩
  | a :: as, g, h, ha => by
    have h1 := ha a List.mem_cons_self
    have hb : badA g a = false := by
      unfold badA
      cases e : g (nmA a) with
      | none => rfl
      | some n =>
        have := h _ _ e
        simp [this, h1]
    have ag2 : ag (seeA g a) := fun z n e => by
      unfold seeA at e
      by_cases q : z = nmA a
      · rw [if_pos q] at e
        cases e
        rw [q]; exact h1
      · rw [if_neg q] at e
        exact h z n e
    obtain ⟨g', e1, e2, e3, e4⟩ := unevA_ok (as := as) ag2 fun b hb => ha b (List.mem_cons_of_mem _ hb)
    have hs : seenA (seeA g a) (nmA a) := by
      unfold seenA seeA
      rw [if_pos rfl]
      exact fun z => by cases z
    refine ⟨g', ?_, e2, fun b hb => ?_, fun z hz => e4 z ?_⟩
    · rw [unevA, hb, if_neg (by decide)]
      exact e1
    · rcases List.mem_cons.mp hb with rfl | hb
      · exact e4 _ hs
      · exact e3 b hb
    · unfold seenA seeA
      by_cases q : z = nmA a
      · rw [if_pos q]; exact fun z => by cases z
      · rw [if_neg q]; exact hz
theorem unevR_ok : ∀ {rows : List (List D)} {g : Ar} {i : Nat} (rest : List (List D)), ag g → (∀ r ∈ rows, ∀ a ∈ r, lnA a = arN (nmA a)) → ∃ g', unevR g i (rows ++ rest) = unevR g' (i + rows.length) rest ∧ ag g' ∧ (∀ r ∈ rows, ∀ a ∈ r, seenA g' (nmA a)) ∧ ∀ z, seenA g z → seenA g' z
  | [], g, i, rest, h, _ => ⟨g, rfl, h, (fun a h => nomatch h), fun z h => h⟩
  | r :: rows, g, i, rest, h, ha => by
    obtain ⟨g1, e1, e2, e3, e4⟩ := unevA_ok h (ha r List.mem_cons_self)
    obtain ⟨g2, f1, f2, f3, f4⟩ := unevR_ok (i := i + 1) rest e2 fun q hq => ha q (List.mem_cons_of_mem _ hq)
    refine ⟨g2, ?_, f2, fun q hq a hm => ?_, fun z hz => f4 z (e4 z hz)⟩
    · rw [List.cons_append, unevR, e1]
      show unevR g1 (i + 1) (rows ++ rest) = _
      rw [f1, List.length_cons]
      congr 1
      omega
    · rcases List.mem_cons.mp hq with rfl | hq
      · exact f4 _ (e3 a hm)
      · exact f3 q hq a hm
theorem ag0 : ag g0 := fun z n h => by cases h
theorem okRule.nn {r : D} (h : okRule r) : isNon r = false := by
  obtain ⟨hd, body, rfl, _⟩ := h
  rfl
section
variable {CB CE CU : Addr} {x : D} {xs rs ss : List D} {r : D} {z : Str} {Kk : D → Prop} {Xk : XW}
theorem no_bad (hm : xs.map asRule = rs) (h : ∀ r ∈ rs, okRule r) : (xs.findIdx? fun t => isNon (asRule t)) = none := by
  rw [List.findIdx?_eq_none_iff]
  intro t ht
  exact (h (asRule t) (by rw [← hm]; exact List.mem_map_of_mem ht)).nn
theorem rows_map (hm : xs.map asRule = rs) : (xs.map fun t => atomsR (asRule t)) = rs.map atomsR := by
  rw [← hm, List.map_map]
  rfl
theorem res_told (hs : sqOf x = some xs) (hm : xs.map asRule = rs) (h : ∀ r ∈ rs, safeR r) (k : Kk (.tup rs)) : rulesRes CB CE CU x Kk Xk := by
  unfold rulesRes
  simp only [hs]
  rw [no_bad hm fun r hr => (h r hr).1.1, rows_map hm]
  obtain ⟨g', e, _⟩ := unevR_ok (rows := rs.map atomsR) (g := g0) (i := 0) [] ag0 fun q hq a ha => by
    obtain ⟨r, hr, rfl⟩ := List.mem_map.mp hq
    exact (h r hr).1.2 a ha
  rw [List.append_nil] at e
  rw [e]
  have : ((xs.map asRule).findIdx? fun r => !(looseR r).isEmpty) = none := by
    rw [List.findIdx?_eq_none_iff, hm]
    intro r hr
    rw [(h r hr).2]
    rfl
  show (match (xs.map asRule).findIdx? fun r => !(looseR r).isEmpty with
    | some i => Xk CU ["letter", "index"] [.str ((looseR ((xs.map asRule).getD i .non)).headD ""), .int (i : Nat)]
    | none => Kk (.tup (xs.map asRule)))
  rw [this, hm]
  exact k
theorem find_mid {p : D → Bool} {ys zs : List D} {o : D} (h1 : ∀ y ∈ ys, p y = false) (h2 : p o = true) : (ys ++ o :: zs).findIdx? p = some ys.length := by
  rw [List.findIdx?_append]
  have : ys.findIdx? p = none := by
    rw [List.findIdx?_eq_none_iff]
    exact h1
  rw [this, List.findIdx?_cons, h2]
  simp
theorem res_bad {ys zs : List D} {o : D} (hs : sqOf x = some (ys ++ o :: zs)) (h1 : ∀ y ∈ ys, okRule y) (h2 : asRule o = .non) (k : Xk CB ["index"] [.int (ys.length : Nat)]) : rulesRes CB CE CU x Kk Xk := by
  unfold rulesRes
  simp only [hs]
  rw [find_mid (fun y hy => by rw [(h1 y hy).norm]; exact (h1 y hy).nn) (by rw [h2]; rfl)]
  exact k
theorem res_uneven (hs : sqOf x = some xs) (hm : xs.map asRule = rs ++ r :: ss) (h1 : ∀ r ∈ rs, goodR r) (h2 : ∀ q ∈ r :: ss, okRule q) (hb : ∀ g, ag g → (∀ q ∈ rs, ∀ a ∈ atomsR q, seenA g (nmA a)) → (unevA g (atomsR r)).1 = some z)
    (k : Xk CE ["relation", "index"] [.str z, .int (rs.length : Nat)]) : rulesRes CB CE CU x Kk Xk := by
  unfold rulesRes
  simp only [hs]
  rw [no_bad hm fun q hq => by
    rcases List.mem_append.mp hq with h | h
    · exact (h1 q h).1
    · exact h2 q h, rows_map hm]
  rw [List.map_append, List.map_cons]
  obtain ⟨g', e, e2, e3, _⟩ := unevR_ok (rows := rs.map atomsR) (g := g0) (i := 0) (atomsR r :: ss.map atomsR) ag0 fun q hq a ha => by
    obtain ⟨r, hr, rfl⟩ := List.mem_map.mp hq
    exact (h1 r hr).2 a ha
  rw [e, Nat.zero_add, List.length_map]
  have hb := hb g' e2 fun q hq a ha => e3 _ (List.mem_map_of_mem hq) a ha
  have : unevR g' rs.length (atomsR r :: ss.map atomsR) = some (rs.length, z) := by
    rw [unevR]
    cases he : unevA g' (atomsR r) with
    | mk o g2 =>
      rw [he] at hb
      have hb : o = some z := hb
      subst hb
      rfl
  rw [this]
  exact k
theorem res_unsafe (hs : sqOf x = some xs) (hm : xs.map asRule = rs ++ r :: ss) (h1 : ∀ r ∈ rs, safeR r) (h2 : ∀ q ∈ r :: ss, goodR q) {zr : List Str} (hl : looseR r = z :: zr)
    (k : Xk CU ["letter", "index"] [.str z, .int (rs.length : Nat)]) : rulesRes CB CE CU x Kk Xk := by
  have hall : ∀ q ∈ rs ++ r :: ss, goodR q := fun q hq => by
    rcases List.mem_append.mp hq with h | h
    · exact (h1 q h).1
    · exact h2 q h
  unfold rulesRes
  simp only [hs]
  rw [no_bad hm fun q hq => (hall q hq).1, rows_map hm]
  obtain ⟨g', e, _⟩ := unevR_ok (rows := (rs ++ r :: ss).map atomsR) (g := g0) (i := 0) [] ag0 fun q hq a ha => by
    obtain ⟨r, hr, rfl⟩ := List.mem_map.mp hq
    exact (hall r hr).2 a ha
  rw [List.append_nil] at e
  rw [e]
  have hf : ((xs.map asRule).findIdx? fun r => !(looseR r).isEmpty) = some rs.length := by
    rw [hm]
    exact find_mid (fun y hy => by rw [(h1 y hy).2]; rfl) (by rw [hl]; rfl)
  have hg : (xs.map asRule).getD rs.length .non = r := by
    rw [hm, List.getD_eq_getElem?_getD, List.getElem?_append_right (Nat.le_refl _), Nat.sub_self]
    rfl
  show (match (xs.map asRule).findIdx? fun r => !(looseR r).isEmpty with
    | some i => Xk CU ["letter", "index"] [.str ((looseR ((xs.map asRule).getD i .non)).headD ""), .int (i : Nat)]
    | none => Kk (.tup (xs.map asRule)))
  rw [hf]
  show Xk CU ["letter", "index"] [.str ((looseR ((xs.map asRule).getD rs.length .non)).headD ""), .int (rs.length : Nat)]
  rw [hg, hl]
  exact k
theorem res_none (hs : sqOf x = none) (k : Xk CB ["index"] [.int 0]) : rulesRes CB CE CU x Kk Xk := by
  unfold rulesRes
  simp only [hs]
  exact k
end
theorem map_norm {rs : List D} (h : ∀ r ∈ rs, okRule r) : rs.map asRule = rs := (List.map_congr_left (g := fun p => p) fun p hp => (h p hp).norm).trans (List.map_id' rs)
theorem okPart.tm {p : D} (h : okPart p) : tmB p = true := by
  have hs1 : tmB (.str "not") = true := by decide +kernel
  have hs2 : tmB (.str "unlike") = true := by decide +kernel
  rcases h with ⟨xs, rfl, o⟩ | ⟨xs, rfl, o⟩ | ⟨a, b, rfl, h1, h2⟩
  · exact (tmB_seq o.tm (by have := o.len; omega)).2
  · have := (tmB_seq o.tm (by have := o.len; omega)).2
    simp [hs1, this]
  · simp [hs2, isTm_tmB h1, isTm_tmB h2]
theorem okRule.tm {r : D} (h : okRule r) : tmB r = true := by
  obtain ⟨hd, body, rfl, orow, ob, lb⟩ := h
  have h1 := (tmB_seq orow.tm (by have := orow.len; omega)).2
  have h2 : tmBs body = true := tmBs_iff.mpr fun q hq => (ob q hq).tm
  have h3 := (tmB_seq h2 (by omega)).2
  simp [h1, h3]
theorem okRule.small {r : D} (h : okRule r) : smallR r := by
  intro hd body q
  rw [h.norm] at q
  obtain ⟨hd', body', e1, orow, ob, lb⟩ := h
  rw [e1] at q
  cases q
  exact lb
end L03

set_option Elab.async false
set_option linter.all false
set_option maxRecDepth 100000
set_option maxHeartbeats 8000000
namespace L03
open PySem PySem.Spec PyProof.Rows L2 Q
theorem takes_lam {X : Cx} {A : Around} {outer : List Env} {s : Shared} {H : Hp} {E : XK} {scope : Scope} {f c' : Addr} : Takes (LamX.lamCx X A outer s H E scope f c') (fun cls d _ H => E cls d H) := takes_of rfl rfl rfl rfl
theorem pass_lam {X : Cx} {A : Around} {outer : List Env} {s : Shared} {H : Hp} {E : XK} {scope : Scope} {f c' : Addr} : Passes (L2.CX (LamX.lamCx X A outer s H E scope f c').prog (LamX.lamCx X A outer s H E scope f c').w) (LamX.lamCx X A outer s H E scope f c') E := passes_call takes_lam fun _ _ _ _ h => h
abbrev qC : Str := "_law_changed_right.<locals>.<lambda>"
abbrev qR : Str := "_law_refused_right.<locals>.<lambda>"
mutual
theorem deq_self : ∀ {d : D}, isDat d = true → deq d d = true
  | .lst xs, h => by rw [eq_lst_lst]; exact deqs_self (by simpa [isDat] using h)
  | .tup xs, h => by rw [eq_tup_tup]; exact deqs_self (by simpa [isDat] using h)
  | .non, _ => by simp
  | .bl _, _ => by simp
  | .int _, _ => by simp
  | .str _, _ => by simp
  | .dct _ _, h => by simp [isDat] at h
  | .dtt _ _, h => by simp [isDat] at h
  | .ins _ _ _, h => by simp [isDat] at h
  | .raw _, h => by simp [isDat] at h
theorem deqs_self : ∀ {xs : List D}, isDats xs = true → deqs xs xs = true
  | [], _ => by simp [deqs]
  | x :: xs, h => by
    rw [isDats, Bool.and_eq_true] at h
    rw [deqs, deq_self h.1, deqs_self h.2]
    rfl
end
theorem wNil_k {R : Rgn} {ρ : DS R} {K : List D → DS R → Prop} (h : K [] ρ) : wNil ρ K := h
/-- what is asked of the drawn rules, kept by parts of them -/
theorem rules_dat {rs : List D} (h : ∀ r ∈ rs, gRule r) : isDats rs = true ∧ deps rs ≤ 4 := ⟨isDats_iff.mpr fun p hp => (h p hp).w.1, deps_max fun p hp => (h p hp).w.2.1⟩
/-- Rules(..) of a list or a tuple of good rules -/
theorem init_told {CB CE CU C : Addr} {x : D} {xs rs : List D} {Kk : D → Prop} {Xk : XW} (hx : sqOf x = some xs) (hm : xs.map asRule = rs) (ht : ∀ t ∈ xs, tmB t = true) (hs : ∀ t ∈ xs, smallR t) (hl : xs.length ≤ 50) (hg : ∀ r ∈ rs, safeR r) (k : Kk (oRules C rs)) : mInit CB CE CU C [x] Kk Xk := by
  refine ⟨x, rfl, ?_, fun ys e => ?_, res_told hx hm hg k⟩
  · have h2 := tmB_seq (tmBs_iff.mpr ht) (by omega)
    rcases sq_cases hx with rfl | rfl
    · exact h2.1
    · exact h2.2
  · rw [hx] at e
    cases e
    exact ⟨hl, hs⟩
theorem init_rules {CB CE CU C : Addr} {x : D} {rs : List D} {Kk : D → Prop} {Xk : XW} (hx : sqOf x = some rs) (hg : ∀ r ∈ rs, safeR r) (hl : rs.length ≤ 50) (k : Kk (oRules C rs)) : mInit CB CE CU C [x] Kk Xk :=
  init_told hx (map_norm fun r hr => (hg r hr).1.1) (fun t ht => (hg t ht).1.1.tm) (fun t ht => (hg t ht).1.1.small) hl hg k
def oddT : D := .tup [.tup [.str "t"], .tup [.tup [.str "p", .str "X"]]]
theorem oddT_ok : okRule oddT := ⟨[.str "t"], [.tup [.str "p", .str "X"]], rfl, ⟨"t", [], rfl, by decide +kernel, by decide, by decide⟩, fun p hp => by
  rw [List.mem_singleton.mp hp]
  exact .inl ⟨_, rfl, "p", [.str "X"], rfl, by decide +kernel, by decide, by decide +kernel⟩, by decide⟩
theorem oddT_uneven : unevR g0 0 [atomsR oddT] = none := by decide +kernel
theorem oddT_loose : looseR oddT = [] := by decide +kernel
theorem init_odd {CB CE CU C : Addr} {Kk : D → Prop} {Xk : XW} (k : Kk (oRules C [oddT])) : mInit CB CE CU C [.lst [oddT]] Kk Xk := by
  refine ⟨.lst [oddT], rfl, (tmB_seq (xs := [oddT]) (tmBs_iff.mpr fun t ht => by rw [List.mem_singleton.mp ht]; exact oddT_ok.tm) (by decide)).1, fun ys e => ?_, ?_⟩
  · cases e
    exact ⟨by decide, fun t ht => by rw [List.mem_singleton.mp ht]; exact oddT_ok.small⟩
  · unfold rulesRes
    simp only [sqOf]
    rw [no_bad (xs := [oddT]) (rs := [oddT]) (map_norm fun r hr => by rw [List.mem_singleton.mp hr]; exact oddT_ok) (fun r hr => by rw [List.mem_singleton.mp hr]; exact oddT_ok)]
    rw [rows_map (xs := [oddT]) (rs := [oddT]) (map_norm fun r hr => by rw [List.mem_singleton.mp hr]; exact oddT_ok)]
    rw [show [oddT].map atomsR = [atomsR oddT] from rfl, oddT_uneven]
    rw [show [oddT].map asRule = [oddT] from map_norm fun r hr => by rw [List.mem_singleton.mp hr]; exact oddT_ok]
    have : ([oddT].findIdx? fun r => !(looseR r).isEmpty) = none := by
      rw [List.findIdx?_eq_none_iff]
      intro r hr
      rw [List.mem_singleton.mp hr, oddT_loose]
      rfl
    rw [this]
    exact k
theorem oddT_atoms : atomsR oddT = [.tup [.str "t"], .tup [.str "p", .str "X"]] := by
  have h1 : ¬ ("p" : Str) = "not" := by decide
  have h2 : ¬ ("p" : Str) = "unlike" := by decide
  simp [atomsR, oddT, atomP, isNon, h1, h2]
/-- p of two places behind rules whose p has three -/
theorem odd_last {g : Ar} (h : ag g) (hs : seenA g "p") : (unevA g (atomsR oddT)).1 = some "p" := by
  have b1 : badA g (.tup [.str "t"]) = false := by
    unfold badA
    cases e : g (nmA (.tup [.str "t"])) with
    | none => rfl
    | some n =>
      have := h _ _ e
      have h2 : arN (nmA (.tup [.str "t"])) = 1 := by decide
      show (!decide (n = 1)) = false
      rw [this, h2]
      rfl
  have b2 : badA (seeA g (.tup [.str "t"])) (.tup [.str "p", .str "X"]) = true := by
    unfold badA
    have e0 : seeA g (.tup [.str "t"]) (nmA (.tup [.str "p", .str "X"])) = g "p" := by
      show (if ("p" : Str) = "t" then _ else g "p") = g "p"
      rw [if_neg (by decide)]
    rw [e0]
    cases e : g "p" with
    | none => exact absurd e hs
    | some n =>
      have := h _ _ e
      have h2 : arN "p" = 3 := by decide
      show (!decide (n = 2)) = true
      rw [this, h2]
      rfl
  rw [oddT_atoms, unevA, b1, if_neg (by decide), unevA, b2, if_pos rfl]
  rfl
end L03

set_option Elab.async false
set_option linter.all false
set_option maxRecDepth 100000
set_option maxHeartbeats 8000000
namespace L03
open PySem PySem.Spec PyProof.Rows L2 Q
abbrev T2 (PC PR : Addr) : TbL := [(PC, qC), (PR, qR)]
def mChanged (TT : TbL) (C : Addr) : WMR (Strm TT) := fun ds g Kk => ∃ rs, ds = [.raw (.ref g.st), oRules C rs, .lst rs] ∧ rs.length ≤ 5 ∧ (∀ r ∈ rs, gRule r) ∧ g.c ≤ 700000 ∧ ∀ c' : Nat, c' ≤ g.c + 200 → Kk (.bl true) (⟨g.st, g.L, c'⟩ : SG)
section
variable {P : Program} {w : World} {K : PySem.W.Frag} {mg : Str → Option Value} {base : Heap} {f g : Addr} {fd gd : FuncData} {C CB CE CU CN co PC PR : Addr}
-- _law_changed_right: slots 0 _law_stream, 1 _law_made, 2 _law_rules, 3 _law_number, 4 _law_odd, 5 _law_more, 6 _law_k
abbrev s_L_changed_right : Stmt := (top 57)
abbrev N_sc_L_changed_right : List Str := ["_law_stream", "_law_made", "_law_rules", "_law_number", "_law_odd", "_law_more", "_law_k"]
theorem sc_L_changed_right : FnScope N_sc_L_changed_right ["_law_stream", "_law_made", "_law_rules"] (defScope s_L_changed_right) := ⟨rfl, rfl, rfl, by decide +kernel, rfl, by decide +kernel, by decide +kernel⟩
theorem ok_L_changed_right (F : FnP K "_law_changed_right" "_law_changed_right" s_L_changed_right f fd) (hco : fd.code = .ref co) (T : Tx K mg) (RE : Er K mg CB CE CU CN) (I : IsC K C) (hsf : PySem.W.selfFirst K C = true) (O_ex : ∃ g, PySem.W.findIn K (.ref C) "__eq__" = some (some (.ref g)) ∧ PySem.W.isFn K (.ref g) = true ∧ L2.FnR P w K mg base CX0 1 g (spD K (mEqR C)))
    (O_ne : PySem.W.findIn K (.ref C) "__ne__" = some (some (.builtin "object.__ne__")))
    (OR_ex : ∃ (g : Addr) (gd : FuncData) (ps : List Str), PySem.W.findIn K (.ref C) (PySem.dunder Operator.BitOr.info.2) = some (some (.ref g)) ∧ PySem.W.isFn K (.ref g) = true ∧ FnOk P w K mg base (L2.CX P w) 12 g gd ps (spX K (mOr CB CE CU C)) ∧ L2.Binds K gd ps [])
    (M_listed : CalM P w K mg base C "listed" 1 ["self"] (spF K (mOwnR C .lst))) (M_without : CalMX P w K mg base C "without" 12 ["self", "number"] (spX K (mWithout CB CE CU CN C))) (C_Rules : CalK P w K mg base "Rules" C 10 ["self", "rules"] (mInit CB CE CU C))
    (hmT : mg "_law_tried" = some (.ref g)) (FT : FnP K "_law_tried" "_law_tried" s_L_tried g gd) (bT : L2.Binds K gd ["_law_ask"] []) (TB : LamX.TabB base mg co PC) (hPP : PC ≠ PR)
    (C__law_draw : Cal P w K mg base "_law_draw" 1 ["_law_stream", "_law_many"] (spR (Strm (T2 PC PR)) K (mDraw (T2 PC PR)))) (C__law_wild_rule : Cal P w K mg base "_law_wild_rule" 3 ["_law_stream"] (spR (Strm (T2 PC PR)) K (mWild (T2 PC PR))))
    (C__law_same : Cal P w K mg base "_law_same" 10 ["_law_found", "_law_due"] (spD K (mSame 9))) :
    FnOk P w K mg base CX0 16 f fd ["_law_stream", "_law_made", "_law_rules"] (spR (Strm (T2 PC PR)) K (mChanged (T2 PC PR) C)) :=
  FnRc F hco sc_L_changed_right (fun ds g Kk h => by obtain ⟨_, rfl, _⟩ := h; rfl) fun A outer s H Fz Z E hr => by
  have tr : ∀ {params : Arguments} {body : Expr} {scope : Scope} {w' : WEX (Strm (T2 PC PR))} {p lpos pos : Pos}, LamX.LamS (defScope s_L_changed_right) scope → defaultsOf params (bodyX P w K mg base N_sc_L_changed_right "_law_changed_right" s_L_changed_right f (.ref co) A outer s H E).env = ([], []) →
      (∀ (q : Str) (cl : List (Str × Addr)) (pm cv ctv : Value), bindArgs (PySem.W.kla_fn "<lambda>" q params body scope cl pm cv ctv) ⟨[], []⟩ = pure []) →
      (∀ (A' : Around) (outer' : List Env) (s' : Shared) (H' : Hp) (E' : XK) (f' c' : Addr), Room 13 (A'.deeper (LamX.lamEnv (bodyX P w K mg base N_sc_L_changed_right "_law_changed_right" s_L_changed_right f (.ref co) A outer s H E) scope s'.heap.objs.size f' c')) →
        DX (LamX.lamCx (bodyX P w K mg base N_sc_L_changed_right "_law_changed_right" s_L_changed_right f (.ref co) A outer s H E) A' outer' s' H' E' scope f' c') ⟨K, Strm (T2 PC PR), H, Fz, Z⟩ body w' E') →
      DE (bodyX P w K mg base N_sc_L_changed_right "_law_changed_right" s_L_changed_right f (.ref co) A outer s H E) ⟨K, Strm (T2 PC PR), H, Fz, Z⟩ false false (.Call (.Name "_law_tried" p) [.Lambda params body scope lpos] [] pos) (wTold (clsL CB CE CU CN) "told" w') := fun L nodef hbind hbody =>
    de_told (n := 0) (k := 13) (cs := clsL CB CE CU CN) (T := T2 PC PR) hmT FT bT sc_L_tried rfl (by first | exact .inl rfl | exact .inr (.inl rfl) | exact .inr (.inr rfl)) rfl (fun cdg s H => clauses_L RE cdg s H) (fun f => rfl) (fun k hk => by
      simp only [clsL, List.mem_cons, List.not_mem_nil, or_false] at hk
      rcases hk with rfl | rfl | rfl | rfl <;> (show 1 < 2; decide)) (fun k hk k' hk' => RE.kd k.C (by
      simp only [clsL, List.mem_cons, List.not_mem_nil, or_false] at hk
      rcases hk with rfl | rfl | rfl | rfl <;> simp) k'.C (by
      simp only [clsL, List.mem_cons, List.not_mem_nil, or_false] at hk'
      rcases hk' with rfl | rfl | rfl | rfl <;> simp)) TB rfl (List.mem_cons_self) (fun p hp e => by
        rcases List.mem_cons.mp hp with rfl | hp
        · rfl
        · rw [List.mem_singleton.mp hp] at e
          exact absurd e.symm hPP) (lam_strm _) hr L nodef hbind hbody
  refine ⟨_, 
(ds_cons (ds_for (di_rng T.b_range (de_len T.b_len (de_v (i := 2)))) (dg_name (i := 3) sc_L_changed_right.nd)
  (ds_one (ds_if (dt_not (dt_ownE I ⟨O_ex, O_ne⟩ hr (DX.de (dx_meth M_without passF hr (de_v (i := 1)) (da_cons (de_v (i := 3)) da_nil))) (DX.de (dx_make C_Rules passF hr (da_cons (de_add (de_sl (de_v (i := 2)) dp_no (dp_at (de_v (i := 3)))) (de_sl (de_v (i := 2)) (dp_at (de_add (de_v (i := 3)) de_int)) dp_no)) da_nil))))) (ds_one (ds_ret de_bl)) ds_nil)))
 (ds_cons (ds_for (di_seq (de_tup (da_cons de_non (da_cons (de_neg de_int) (da_cons (de_len T.b_len (de_v (i := 2))) (da_cons de_bl (da_cons de_str (da_cons (FE.de (fe_lst (da_cons de_int da_nil))) (da_cons (FE.de fe_d0) da_nil))))))))) (dg_name (i := 4) sc_L_changed_right.nd)
  (ds_one (ds_if (dt_not (dt_truth (de_call C__law_same hr (da_cons (tr (LamX.lamS_by (by decide +kernel)) rfl (fun _ _ _ _ _ => rfl) (fun A outer s H E f c' room => (dx_meth M_without pass_lam room (de_v (i := 1)) (da_cons (de_v (i := 4)) da_nil)))) (da_cons (de_tup (da_cons de_str (da_cons (de_v (i := 4)) da_nil))) da_nil))))) (ds_one (ds_ret de_bl)) ds_nil)))
 (ds_cons (ds_setP (i := 5) (ps_lc (own := [("_law_k", 6)]) sc_L_changed_right.nd (di_rng T.b_range (de_callR C__law_draw hr (da_cons (de_v (i := 0)) (da_cons de_int da_nil)))) (blkOk_by (own := [("_law_k", 6)]) (N := N_sc_L_changed_right) (sc := defScope s_L_changed_right) (by decide +kernel)) (fun _ _ _ _ _ => (dg_name (i := 6) sc_L_changed_right.nd)) (fun _ _ _ _ _ => dts_nil) (fun _ _ _ _ _ => (de_callR C__law_wild_rule hr (da_cons (de_v (i := 0)) da_nil))) (sw_true rfl rfl rfl (by decide +kernel))))
 (ds_cons (ds_if (dt_not (dt_truth (de_call C__law_same hr (da_cons (FE.de (fe_meth M_listed hr (DX.de (dx_op ⟨I.cls, hsf, OR_ex⟩ passF hr (de_v (i := 1)) (DX.de (dx_make C_Rules passF hr (da_cons (de_v (i := 5)) da_nil))))))) (da_cons (de_add (de_v (i := 2)) (de_v (i := 5))) da_nil))))) (ds_one (ds_ret de_bl)) ds_nil)
 (ds_cons (ds_set (i := 4) sc_L_changed_right.nd (DX.de (dx_make C_Rules passF hr (da_cons (FE.de (fe_lst (da_cons (de_tup (da_cons (de_tup (da_cons de_str da_nil)) (da_cons (de_tup (da_cons (de_tup (da_cons de_str (da_cons de_str da_nil))) da_nil)) da_nil))) da_nil))) da_nil))))
 (ds_one (ds_ret (de_or (de_cm (c_eq hr) (de_v (i := 2)) (FE.de (fe_lst da_nil))) (de_one (de_call C__law_same hr (da_cons (tr (LamX.lamS_by (by decide +kernel)) rfl (fun _ _ _ _ _ => rfl) (fun A outer s H E f c' room => (dx_op ⟨I.cls, hsf, OR_ex⟩ pass_lam room (de_v (i := 1)) (de_v (i := 4))))) (da_cons (de_tup (da_cons de_str (da_cons (de_len T.b_len (de_v (i := 2))) (da_cons de_str da_nil)))) da_nil))))))))))))
  , fun ds g Kk h => ?_⟩
  obtain ⟨rs, rfl, hl, hg, hc, k⟩ := h
  have hsafe : ∀ r ∈ rs, safeR r := fun r hr => (hg r hr).safe
  have rok : okRs rs := ⟨fun r hr => (hg r hr).ok, by omega⟩
  obtain ⟨rd1, rd2⟩ := rules_dat hg
  let mk : Nat → Option DV → Option DV → Option DV → DS (Strm (T2 PC PR)) := fun c x3 x4 x5 => ⟨(⟨g.st, g.L, c⟩ : SG), [some (.fz (.raw (.ref g.st))), some (.fz (oRules C rs)), some (.fz (.lst rs)), x3, x4, x5, none]⟩
  refine ⟨_, rfl, .int (rs.length : Nat), rfl, (rs.length : Nat), rfl, by omega, by omega, ?_⟩
  refine forGo_ind (fun rest ρ => ∃ x3, (∀ d ∈ rest, ∃ i : Nat, i < rs.length ∧ d = .int (i : Nat)) ∧ ρ = mk g.c x3 none none) ?_ ?_ _ _ ⟨none, fun d hd => ?_, rfl⟩
  · rintro d rest N ρ hN ⟨x3, hr, rfl⟩
    obtain ⟨i, hi, rfl⟩ := hr d List.mem_cons_self
    have sub : ∀ r ∈ rs.take i ++ rs.drop (i + 1), r ∈ rs := fun r h => by
      rcases List.mem_append.mp h with h | h
      · exact List.mem_of_mem_take h
      · exact List.mem_of_mem_drop h
    have sl : (rs.take i ++ rs.drop (i + 1)).length ≤ 50 := by
      rw [List.length_append, List.length_take, List.length_drop]
      omega
    have ssafe : ∀ r ∈ rs.take i ++ rs.drop (i + 1), safeR r := fun r h => hsafe r (sub r h)
    obtain ⟨sd1, sd2⟩ := rules_dat fun r h => hg r (sub r h)
    have hn : isNum (.int (i : Nat)) rs.length = true := by
      simp only [isNum, Bool.and_eq_true, decide_eq_true_eq]
      omega
    refine ⟨_, rfl, ⟨_, _, rfl, by decide⟩, _, rfl, rs, .int (i : Nat), rfl, rok, trivial, ?_⟩
    rw [if_pos hn]
    refine ⟨i, rfl, init_rules rfl ssafe sl ?_⟩
    refine ⟨_, rfl, _, rfl, _, rfl, rfl, .lst (rs.take i), by rw [← cut_take rs i (by omega)]; rfl, ?_⟩
    refine ⟨_, rfl, _, rfl, .int ((i + 1 : Nat) : Int), by simp [addD], _, rfl, rfl, .lst (rs.drop (i + 1)), by rw [← cut_drop rs (i + 1) (by omega)]; rfl, ?_⟩
    refine ⟨.lst (rs.take i ++ rs.drop (i + 1)), by rw [ad_lst, if_pos (by rw [← List.length_append]; omega)], ?_⟩
    refine wNil_k ?_
    refine init_rules rfl ssafe sl ?_
    refine ⟨⟨_, _, rfl⟩, .inl ⟨_, _, rfl⟩, _, _, true, rfl, sd1, by omega, .inl ⟨_, rfl, sd1, (deqs_self sd1).symm⟩, true, rfl, true, rfl, itF (hN _ ⟨_, fun q hq => hr q (List.mem_cons_of_mem _ hq), rfl⟩)⟩
  · rintro ρ ⟨x3, _, rfl⟩
    let os : List D := [.non, .int (-1), .int (rs.length : Nat), .bl true, .str "0", .lst [.int 0], .dct [] []]
    have hos : ∀ x ∈ os, tame x ∧ isNum x rs.length = false ∧ isDe x = true ∧ wid x = true ∧ depE x ≤ 2 := by
      intro x hx
      simp only [os, List.mem_cons, List.not_mem_nil, or_false] at hx
      rcases hx with rfl | rfl | rfl | rfl | rfl | rfl | rfl
      · exact ⟨trivial, rfl, rfl, rfl, by decide⟩
      · exact ⟨trivial, rfl, rfl, rfl, Nat.zero_le _⟩
      · exact ⟨trivial, by simp [isNum], rfl, rfl, Nat.zero_le _⟩
      · exact ⟨trivial, rfl, rfl, rfl, by decide⟩
      · exact ⟨by show ("0" : Str).length ≤ 100000; decide, rfl, rfl, rfl, by decide⟩
      · exact ⟨trivial, rfl, rfl, rfl, by decide⟩
      · exact ⟨trivial, rfl, rfl, rfl, by decide⟩
    refine ⟨.int (-1), rfl, _, rfl, .int (rs.length : Nat), rfl, by simp, by simp, os, rfl, ?_⟩
    refine forGo_ind (fun rest ρ => ∃ x4, (∀ x ∈ rest, x ∈ os) ∧ ρ = mk g.c x3 x4 none) ?_ ?_ _ _ ⟨none, fun x h => h, rfl⟩
    · rintro x rest N ρ hN ⟨x4, hsub, rfl⟩
      obtain ⟨t1, t2, t3, t4, t5⟩ := hos x (hsub x List.mem_cons_self)
      refine ⟨_, rfl, ⟨_, _, rfl, by decide⟩, _, rfl, rs, x, rfl, rok, t1, ?_⟩
      rw [if_neg (by rw [t2]; decide)]
      refine cl_number RE.bN RE.eN RE.uN ?_
      refine ⟨_, rfl, by simp, .tup [.str "number", x], rfl, ?_, ?_, ?_, true, rfl, itF (hN _ ⟨_, fun q hq => hsub q (List.mem_cons_of_mem _ hq), rfl⟩)⟩
      · show max 0 (max (depE x) 0) + 1 < 9
        omega
      · simp [wid, wids, t4]
      · simp [isDe, isDes, t3]
    · rintro ρ ⟨x4, _, rfl⟩
      refine ⟨_, rfl, 3, rfl, by show g.c ≤ _; omega, by decide, by decide, fun m m0 m3 => ⟨m, rfl, by omega, by omega, ?_⟩⟩
      refine ⟨by simp [rngD]; omega, fun i mm d' q => ?_, ?_⟩
      · have e : i = 6 := by simpa using mm
        subst e
        cases q
      refine lcGo_ind (fun rest acc ρ => ∃ c', acc.length + rest.length ≤ 2 ∧ (∀ r ∈ acc, gRule r) ∧ c' ≤ g.c + 1 + 60 * acc.length ∧ ρ = mk c' x3 x4 none) ?_ ?_ _ _ _ ⟨g.c + 1, by simp [rngD]; omega, by simp, by simp, rfl⟩
      · rintro d rest acc N ρ hN ⟨c', h2, hacc, hc', rfl⟩
        rw [List.length_cons] at h2
        refine ⟨_, rfl, rfl, by show c' ≤ _; omega, fun r c2 hr h3 => ?_⟩
        have h3 : c2 ≤ c' + 60 := h3
        refine hN _ _ ⟨c2, by simp; omega, fun q hq => ?_, by simp; omega, rfl⟩
        rcases List.mem_append.mp hq with h | h
        · exact hacc q h
        · rw [List.mem_singleton.mp h]; exact hr
      rintro ms ρ ⟨c', h2, hms, hc', rfl⟩
      have hml : ms.length ≤ 2 := by simpa using h2
      have hmsafe : ∀ r ∈ ms, safeR r := fun r hr => (hms r hr).safe
      have hall : ∀ r ∈ rs ++ ms, gRule r := fun r hr => by
        rcases List.mem_append.mp hr with h | h
        · exact hg r h
        · exact hms r h
      have hal : (rs ++ ms).length ≤ 7 := by rw [List.length_append]; omega
      obtain ⟨w1, w2, w3⟩ := rules_w hall (by omega)
      have we := isDat_e w1
      refine ⟨_, rfl, _, rfl, ?_⟩
      refine wNil_k ?_
      refine init_rules rfl hmsafe (by omega) ?_
      refine ⟨⟨_, _, rfl⟩, ⟨_, _, rfl⟩, rs, ms, rfl, rok, ⟨fun r hr => (hms r hr).ok, by omega⟩, init_rules rfl (fun r hr => (hall r hr).safe) (by omega) ?_⟩
      refine ⟨_, _, rfl, by decide, rs ++ ms, rfl, ⟨fun r hr => (hall r hr).ok, by omega⟩, ?_⟩
      refine ⟨_, rfl, _, rfl, .lst (rs ++ ms), by rw [ad_lst, if_pos (by omega)], .lst (rs ++ ms), rfl, by omega, w3, we.1, true, rfl, itF ?_⟩
      refine ⟨by simp, by simp, by simp, by simp, by simp, ?_⟩
      refine wNil_k ?_
      refine init_odd ?_
      refine ⟨_, rfl, by simp, .bl (deqs rs []), ?_, deqs rs [], rfl, ?_⟩
      · unfold eqD
        rw [if_pos ⟨by simpa [isDat] using rd1, by simp [isDat, isDats], by simp [dep, deps]⟩, eq_lst_lst]
        cases deqs rs [] <;> rfl
      · have hcr : c' ≤ g.c + 200 := by omega
        by_cases hr0 : rs = []
        · have e : deqs rs [] = true := by rw [hr0]; simp
          rw [e]
          exact itT (k c' hcr)
        · have e : deqs rs [] = false := by
            obtain ⟨r0, rr, rfl⟩ := List.exists_cons_of_ne_nil hr0
            simp
          rw [e]
          refine itF ?_
          obtain ⟨r0, rr, hrs⟩ := List.exists_cons_of_ne_nil hr0
          have pseen : ∀ g' : Ar, (∀ q ∈ rs, ∀ a ∈ atomsR q, seenA g' (nmA a)) → seenA g' "p" := fun g' hs => by
            have h0 : r0 ∈ rs := by rw [hrs]; exact List.mem_cons_self
            obtain ⟨h, body, rfl, oh, ob, nb, lb, ⟨a, ha, oa, ea⟩, _⟩ := hg r0 h0
            have : atomP a = a := by
              obtain ⟨z, ts, rfl, hz, _⟩ := oa
              have nz := name_not hz
              have nu := (nm_not (name_nm z hz)).2
              simp [atomP, nz, nu]
            have hm : a ∈ atomsR (.tup [h, .tup body]) := List.mem_cons_of_mem _ (List.mem_filter.mpr ⟨List.mem_map.mpr ⟨a, ha, this⟩, by obtain ⟨z, ts, rfl, _⟩ := oa; rfl⟩)
            have := hs _ h0 a hm
            rw [ea] at this
            exact this
          have hokall : ∀ r ∈ rs ++ [oddT], okRule r := fun r hr => by
            rcases List.mem_append.mp hr with h | h
            · exact (hg r h).ok
            · rw [List.mem_singleton.mp h]; exact oddT_ok
          refine ⟨_, rfl, _, rfl, ⟨_, _, rfl⟩, ⟨_, _, rfl⟩, rs, [oddT], rfl, rok, ⟨fun r hr => by rw [List.mem_singleton.mp hr]; exact oddT_ok, by decide⟩, ?_⟩
          refine ⟨.tup (rs ++ [oddT]), rfl, (tmB_seq (tmBs_iff.mpr fun t ht => (hokall t ht).tm) (by simp; omega)).2, fun ys ey => ?_, ?_⟩
          · cases ey
            exact ⟨by simp; omega, fun t ht => (hokall t ht).small⟩
          refine res_uneven (rs := rs) (r := oddT) (ss := []) rfl (map_norm hokall) (fun r hr => (hsafe r hr).1) (fun q hq => by rw [List.mem_singleton.mp hq]; exact oddT_ok) (fun g' ha hs => odd_last ha (pseen g' hs)) ?_
          refine cl_uneven RE.bE ?_
          refine ⟨_, rfl, .int (rs.length : Nat), rfl, by simp, .tup [.str "uneven", .int (rs.length : Nat), .str "p"], rfl, ?_, ?_, ?_, k c' hcr⟩
          · show max 0 (max 0 (max 0 0)) + 1 < 9
            omega
          · simp [wid, wids]
          · simp [isDe, isDes]
  · obtain ⟨i, hi, rfl⟩ := List.mem_map.mp hd
    exact ⟨i, by simpa using hi, by simp⟩
end
end L03

set_option Elab.async false
set_option linter.all false
set_option maxRecDepth 100000
set_option maxHeartbeats 8000000
namespace L03
open PySem PySem.Spec PyProof.Rows L2 Q
def mRefused (TT : TbL) : WMR (Strm TT) := fun ds g Kk => ∃ rs, ds = [.raw (.ref g.st), .lst rs] ∧ rs.length ≤ 5 ∧ (∀ r ∈ rs, gRule r) ∧ g.c ≤ 700000 ∧ ∀ c' : Nat, c' ≤ g.c + 200 → Kk (.bl true) (⟨g.st, g.L, c'⟩ : SG)
theorem ne_self {d : D} (h : isDat d = true) (h2 : dep d ≤ 60) : eqD true d d = some (.bl false) := by
  unfold eqD
  rw [if_pos ⟨h, h, by omega⟩, deq_self h]
  rfl
theorem eq_self {d : D} (h : isDat d = true) (h2 : dep d ≤ 60) : eqD false d d = some (.bl true) := by
  unfold eqD
  rw [if_pos ⟨h, h, by omega⟩, deq_self h]
  rfl
theorem isNon_eq {d : D} (h : isNon d = true) : d = .non := by cases d <;> first | rfl | (cases h)
/-! written rules -/
def kA (d : D) : Prop := ∃ z ts, d = .tup (.str z :: ts) ∧ strNm z = true ∧ ts.length ≤ 6 ∧ ts.all isTm = true ∧ ts.length + 1 = arN z
def kP (p : D) : Prop := kA p ∨ (∃ a, kA a ∧ p = .tup [.str "not", a]) ∨ ∃ t u, isTm t = true ∧ isTm u = true ∧ p = .tup [.str "unlike", t, u]
theorem kP.ok {p : D} (h : kP p) : okPart p := by
  rcases h with ⟨z, ts, rfl, h1, h2, h3, _⟩ | ⟨a, ⟨z, ts, rfl, h1, h2, h3, _⟩, rfl⟩ | ⟨t, u, ht, hu, rfl⟩
  · exact .inl ⟨_, rfl, z, ts, rfl, h1, h2, h3⟩
  · exact .inr (.inl ⟨_, rfl, z, ts, rfl, h1, h2, h3⟩)
  · exact .inr (.inr ⟨t, u, rfl, ht, hu⟩)
theorem kA.ln {a : D} (h : kA a) : lnA a = arN (nmA a) := by
  obtain ⟨z, ts, rfl, _, _, _, hl⟩ := h
  exact hl
theorem kP.atom {p : D} (h : kP p) : atomP p = .non ∨ kA (atomP p) := by
  rcases h with ⟨z, ts, rfl, h1, h⟩ | ⟨a, ⟨z, ts, rfl, h1, h⟩, rfl⟩ | ⟨t, u, ht, hu, rfl⟩
  · obtain ⟨nz, nu⟩ := nm_not h1
    have ea : atomP (.tup (.str z :: ts)) = .tup (.str z :: ts) := by simp [atomP, nz, nu]
    rw [ea]
    exact .inr ⟨z, ts, rfl, h1, h⟩
  · have ea : atomP (.tup [.str "not", .tup (.str z :: ts)]) = .tup (.str z :: ts) := by simp [atomP]
    rw [ea]
    exact .inr ⟨z, ts, rfl, h1, h⟩
  · exact .inl (by simp [atomP, ne_un])
theorem good_of {h : D} {body : List D} (hh : kA h) (hb : ∀ p ∈ body, kP p) (hl : body.length ≤ 900) : goodR (.tup [h, .tup body]) := by
  have hl2 := hh.ln
  refine ⟨?_, fun a ha => ?_⟩
  · obtain ⟨z, ts, rfl, h1, h2, h3, _⟩ := hh
    exact ⟨_, body, rfl, ⟨z, ts, rfl, h1, h2, h3⟩, fun p hp => (hb p hp).ok, hl⟩
  · rcases List.mem_cons.mp ha with rfl | ha
    · exact hl2
    · obtain ⟨h1, h2⟩ := List.mem_filter.mp ha
      obtain ⟨p, hp, rfl⟩ := List.mem_map.mp h1
      rcases (hb p hp).atom with h | h
      · rw [h] at h2; cases h2
      · exact h.ln
def unsL : List (D × Str) := [(.tup [.tup [.str "s"], .tup [.tup [.str "not", .tup [.str "q", .str "K"]]]], "K"), (.tup [.tup [.str "way", .str "X", .str "M"], .tup [.tup [.str "q", .str "X"]]], "M"),
  (.tup [.tup [.str "s"], .tup [.tup [.str "q", .str "X"], .tup [.str "unlike", .str "X", .str "L2"], .tup [.str "not", .tup [.str "q", .str "B"]]]], "L2")]
theorem kAs {z : Str} {ts : List D} (h1 : strNm z = true) (h2 : ts.length + 1 = arN z) (h3 : ts.all isTm = true) : kA (.tup (.str z :: ts)) := ⟨z, ts, rfl, h1, by have := arN_le z; omega, h3, h2⟩
theorem unsL_ok : ∀ p ∈ unsL, goodR p.1 ∧ ∃ zr, looseR p.1 = p.2 :: zr := by
  intro p hp
  simp only [unsL, List.mem_cons, List.not_mem_nil, or_false] at hp
  rcases hp with rfl | rfl | rfl
  · refine ⟨good_of (kAs (by decide +kernel) (by decide) (by decide +kernel)) (fun p hp => ?_) (by decide), ?_⟩
    · rw [List.mem_singleton.mp hp]
      exact .inr (.inl ⟨_, kAs (by decide +kernel) (by decide) (by decide +kernel), rfl⟩)
    · exact ⟨[], by decide +kernel⟩
  · refine ⟨good_of (kAs (by decide +kernel) (by decide) (by decide +kernel)) (fun p hp => ?_) (by decide), ?_⟩
    · rw [List.mem_singleton.mp hp]
      exact .inl (kAs (by decide +kernel) (by decide) (by decide +kernel))
    · exact ⟨[], by decide +kernel⟩
  · refine ⟨good_of (kAs (by decide +kernel) (by decide) (by decide +kernel)) (fun p hp => ?_) (by decide), ?_⟩
    · simp only [List.mem_cons, List.not_mem_nil, or_false] at hp
      rcases hp with rfl | rfl | rfl
      · exact .inl (kAs (by decide +kernel) (by decide) (by decide +kernel))
      · exact .inr (.inr ⟨_, _, by decide +kernel, by decide +kernel, rfl⟩)
      · exact .inr (.inl ⟨_, kAs (by decide +kernel) (by decide) (by decide +kernel), rfl⟩)
    · exact ⟨["B"], by decide +kernel⟩
def unvL : List (D × Str) := [(.tup [.tup [.str "way", .str "a"], .tup []], "way"), (.tup [.tup [.str "s"], .tup [.tup [.str "not", .tup [.str "q", .int 1, .int 2]]]], "q")]
theorem bad_first {g : Ar} {a : D} {as : List D} (h : ag g) (hs : seenA g (nmA a)) (hl : lnA a ≠ arN (nmA a)) : (unevA g (a :: as)).1 = some (nmA a) := by
  have hb : badA g a = true := by
    unfold badA
    cases e : g (nmA a) with
    | none => exact absurd e hs
    | some n =>
      have h1 := h _ _ e
      have h2 : ¬ n = lnA a := by rw [h1]; exact fun q => hl q.symm
      simp [h2]
  rw [unevA, hb, if_pos rfl]
theorem good_first {g : Ar} {a : D} {as : List D} (h : ag g) (hl : lnA a = arN (nmA a)) : unevA g (a :: as) = unevA (seeA g a) as ∧ ag (seeA g a) ∧ ∀ z, seenA g z → seenA (seeA g a) z := by
  have hb : badA g a = false := by
    unfold badA
    cases e : g (nmA a) with
    | none => rfl
    | some n =>
      have h1 := h _ _ e
      have h2 : n = lnA a := by rw [h1]; exact hl.symm
      simp [h2]
  refine ⟨by rw [unevA, hb, if_neg (by decide)], fun z n e => ?_, fun z hz => ?_⟩
  · unfold seeA at e
    by_cases q : z = nmA a
    · rw [if_pos q] at e
      cases e
      rw [q]; exact hl
    · rw [if_neg q] at e
      exact h z n e
  · unfold seenA seeA
    by_cases q : z = nmA a
    · rw [if_pos q]; exact fun z => by cases z
    · rw [if_neg q]; exact hz
theorem unvL_ok : ∀ p ∈ unvL, okRule p.1 ∧ ∀ g : Ar, ag g → seenA g "way" → seenA g "q" → (unevA g (atomsR p.1)).1 = some p.2 := by
  intro p hp
  simp only [unvL, List.mem_cons, List.not_mem_nil, or_false] at hp
  rcases hp with rfl | rfl
  · refine ⟨⟨_, _, rfl, ⟨"way", [.str "a"], rfl, by decide +kernel, by decide, by decide +kernel⟩, (fun p hp => nomatch hp), by decide⟩, fun g h1 h2 h3 => ?_⟩
    exact bad_first (a := .tup [.str "way", .str "a"]) (as := []) h1 h2 (by decide)
  · refine ⟨⟨_, _, rfl, ⟨"s", [], rfl, by decide +kernel, by decide, by decide⟩, fun p hp => ?_, by decide⟩, fun g h1 h2 h3 => ?_⟩
    · rw [List.mem_singleton.mp hp]
      exact .inr (.inl ⟨_, rfl, "q", [.int 1, .int 2], rfl, by decide +kernel, by decide, by decide +kernel⟩)
    · have ea : atomsR (.tup [.tup [.str "s"], .tup [.tup [.str "not", .tup [.str "q", .int 1, .int 2]]]]) = [.tup [.str "s"], .tup [.str "q", .int 1, .int 2]] := by simp [atomsR, atomP, isNon]
      obtain ⟨e, a1, a2⟩ := good_first (a := .tup [.str "s"]) (as := [.tup [.str "q", .int 1, .int 2]]) h1 (by decide)
      rw [ea, e]
      exact bad_first (a := .tup [.str "q", .int 1, .int 2]) (as := []) a1 (a2 _ h3) (by decide)
def lastR : D := .tup [.tup [.str "way", .str "a", .str "b"], .tup [.tup [.str "q", .str "c"]]]
theorem lastR_good : goodR lastR := good_of (kAs (by decide +kernel) (by decide) (by decide +kernel)) (fun p hp => by
  rw [List.mem_singleton.mp hp]
  exact .inl (kAs (by decide +kernel) (by decide) (by decide +kernel))) (by decide)
theorem lastR_seen {g : Ar} (h : ∀ a ∈ atomsR lastR, seenA g (nmA a)) : seenA g "way" ∧ seenA g "q" := by
  have h1 : ¬ ("q" : Str) = "not" := by decide
  have h2 : ¬ ("q" : Str) = "unlike" := by decide
  have ea : atomsR lastR = [.tup [.str "way", .str "a", .str "b"], .tup [.str "q", .str "c"]] := by simp [atomsR, lastR, atomP, isNon, h1, h2]
  rw [ea] at h
  exact ⟨h (.tup [.str "way", .str "a", .str "b"]) (by simp), h (.tup [.str "q", .str "c"]) (by simp)⟩
def oddsR : List D := [.non, .int 5, .str "p", .tup [], .tup [.tup [.str "p"]], .tup [.tup [.str "p"], .tup [], .tup []], .tup [.tup [.str "P"], .tup []], .tup [.tup [.str "p"], .tup [.str "q"]], .tup [.tup [.str "p"], .non], .dct [] []]
theorem oddsR_ok : ∀ x ∈ oddsR ++ [.lst [.lst [], .lst []]], isNon (asRule x) = true ∧ tmB x = true := by
  have : ((oddsR ++ [D.lst [.lst [], .lst []]]).all fun x => isNon (asRule x) && tmB x) = true := by decide +kernel
  intro x hx
  have := List.all_eq_true.mp this x hx
  rw [Bool.and_eq_true] at this
  exact this
section
variable {P : Program} {w : World} {K : PySem.W.Frag} {mg : Str → Option Value} {base : Heap} {f g : Addr} {fd gd : FuncData} {C CB CE CU CN co PC PR : Addr}
-- _law_refused_right: slots 0 _law_stream, 1 _law_rules, 2 _law_at, 3 _law_unsafe, 4 _law_full, 5 _law_odds, 6 _law_odd, 7 _law_loose, 8 _law_letter, 9 _law_uneven, 10 _law_name
abbrev s_L_refused_right : Stmt := (top 58)
abbrev N_sc_L_refused_right : List Str := ["_law_stream", "_law_rules", "_law_at", "_law_unsafe", "_law_full", "_law_odds", "_law_odd", "_law_loose", "_law_letter", "_law_uneven", "_law_name"]
theorem sc_L_refused_right : FnScope N_sc_L_refused_right ["_law_stream", "_law_rules"] (defScope s_L_refused_right) := ⟨rfl, rfl, rfl, by decide +kernel, rfl, by decide +kernel, by decide +kernel⟩
theorem ok_L_refused_right (F : FnP K "_law_refused_right" "_law_refused_right" s_L_refused_right f fd) (hco : fd.code = .ref co) (T : Tx K mg) (RE : Er K mg CB CE CU CN) (C_Rules : CalK P w K mg base "Rules" C 10 ["self", "rules"] (mInit CB CE CU C))
    (hmT : mg "_law_tried" = some (.ref g)) (FT : FnP K "_law_tried" "_law_tried" s_L_tried g gd) (bT : L2.Binds K gd ["_law_ask"] []) (TB : LamX.TabB base mg co PR) (hPP : PC ≠ PR)
    (C__law_draw : Cal P w K mg base "_law_draw" 1 ["_law_stream", "_law_many"] (spR (Strm (T2 PC PR)) K (mDraw (T2 PC PR)))) (C__law_pick : Cal P w K mg base "_law_pick" 2 ["_law_stream", "_law_some"] (spR (Strm (T2 PC PR)) K (mPick (T2 PC PR)))) :
    FnOk P w K mg base CX0 16 f fd ["_law_stream", "_law_rules"] (spR (Strm (T2 PC PR)) K (mRefused (T2 PC PR))) :=
  FnRc F hco sc_L_refused_right (fun ds g Kk h => by obtain ⟨_, rfl, _⟩ := h; rfl) fun A outer s H Fz Z E hr => by
  have cs1 : ∀ k ∈ clsL CB CE CU CN, k.i < 2 := fun k hk => by
    simp only [clsL, List.mem_cons, List.not_mem_nil, or_false] at hk
    rcases hk with rfl | rfl | rfl | rfl <;> (show 1 < 2; decide)
  have cs2 : ∀ k ∈ clsL CB CE CU CN, ∀ k' ∈ clsL CB CE CU CN, PySem.W.exmOne K (.ref k.C) (.ref k'.C) = some (decide (k.C = k'.C)) := fun k hk k' hk' => RE.kd k.C (by
      simp only [clsL, List.mem_cons, List.not_mem_nil, or_false] at hk
      rcases hk with rfl | rfl | rfl | rfl <;> simp) k'.C (by
      simp only [clsL, List.mem_cons, List.not_mem_nil, or_false] at hk'
      rcases hk' with rfl | rfl | rfl | rfl <;> simp)
  have uni : ∀ p ∈ T2 PC PR, p.1 = PR → p.2 = qR := fun p hp e => by
    rcases List.mem_cons.mp hp with rfl | hp
    · exact absurd e hPP
    · rw [List.mem_singleton.mp hp]
  have tr : ∀ {params : Arguments} {body : Expr} {scope : Scope} {w' : WEX (Strm (T2 PC PR))} {p lpos pos : Pos}, LamX.LamS (defScope s_L_refused_right) scope → defaultsOf params (bodyX P w K mg base N_sc_L_refused_right "_law_refused_right" s_L_refused_right f (.ref co) A outer s H E).env = ([], []) →
      (∀ (q : Str) (cl : List (Str × Addr)) (pm cv ctv : Value), bindArgs (PySem.W.kla_fn "<lambda>" q params body scope cl pm cv ctv) ⟨[], []⟩ = pure []) →
      (∀ (A' : Around) (outer' : List Env) (s' : Shared) (H' : Hp) (E' : XK) (f' c' : Addr), Room 13 (A'.deeper (LamX.lamEnv (bodyX P w K mg base N_sc_L_refused_right "_law_refused_right" s_L_refused_right f (.ref co) A outer s H E) scope s'.heap.objs.size f' c')) →
        DX (LamX.lamCx (bodyX P w K mg base N_sc_L_refused_right "_law_refused_right" s_L_refused_right f (.ref co) A outer s H E) A' outer' s' H' E' scope f' c') ⟨K, Strm (T2 PC PR), H, Fz, Z⟩ body w' E') →
      DE (bodyX P w K mg base N_sc_L_refused_right "_law_refused_right" s_L_refused_right f (.ref co) A outer s H E) ⟨K, Strm (T2 PC PR), H, Fz, Z⟩ false false (.Call (.Name "_law_tried" p) [.Lambda params body scope lpos] [] pos) (wTold (clsL CB CE CU CN) "told" w') := fun L nodef hbind hbody =>
    de_told (n := 0) (k := 13) (cs := clsL CB CE CU CN) (T := T2 PC PR) hmT FT bT sc_L_tried rfl (.inl rfl) rfl (fun cdg s H => clauses_L RE cdg s H) (fun f => rfl) cs1 cs2 TB rfl (List.mem_cons_of_mem _ List.mem_cons_self) uni (lam_strm _) hr L nodef hbind hbody
  refine ⟨_, 
(ds_cons (ds_set (i := 2) sc_L_refused_right.nd (de_callR C__law_draw hr (da_cons (de_v (i := 0)) (da_cons (de_add (de_len T.b_len (de_v (i := 1))) de_int) da_nil))))
 (ds_cons (ds_new (i := 3) sc_L_refused_right.nd (fe_lst (da_cons (de_tup (da_cons (de_tup (da_cons (de_tup (da_cons de_str da_nil)) (da_cons (de_tup (da_cons (de_tup (da_cons de_str (da_cons (de_tup (da_cons de_str (da_cons de_str da_nil))) da_nil))) da_nil)) da_nil))) (da_cons de_str da_nil))) (da_cons (de_tup (da_cons (de_tup (da_cons (de_tup (da_cons de_str (da_cons de_str (da_cons de_str da_nil)))) (da_cons (de_tup (da_cons (de_tup (da_cons de_str (da_cons de_str da_nil))) da_nil)) da_nil))) (da_cons de_str da_nil))) da_nil))))
 (ds_cons (ds_app (i := 3) (de_tup (da_cons (de_tup (da_cons (de_tup (da_cons de_str da_nil)) (da_cons (de_tup (da_cons (de_tup (da_cons de_str (da_cons de_str da_nil))) (da_cons (de_tup (da_cons de_str (da_cons de_str (da_cons de_str da_nil)))) (da_cons (de_tup (da_cons de_str (da_cons (de_tup (da_cons de_str (da_cons de_str da_nil))) da_nil))) da_nil)))) da_nil))) (da_cons de_str da_nil))))
 (ds_cons (ds_asg (de_callR C__law_pick hr (da_cons (de_v (i := 0)) (da_cons (de_o (i := 3)) da_nil))) (dg_tup (n := 2) (dgs_cons (dg_name (i := 7) sc_L_refused_right.nd) (dgs_cons (dg_name (i := 8) sc_L_refused_right.nd) dgs_nil))))
 (ds_cons (ds_asg (de_callR C__law_pick hr (da_cons (de_v (i := 0)) (da_cons (FE.de (fe_lst (da_cons (de_tup (da_cons (de_tup (da_cons (de_tup (da_cons de_str (da_cons de_str da_nil))) (da_cons (de_tup da_nil) da_nil))) (da_cons de_str da_nil))) (da_cons (de_tup (da_cons (de_tup (da_cons (de_tup (da_cons de_str da_nil)) (da_cons (de_tup (da_cons (de_tup (da_cons de_str (da_cons (de_tup (da_cons de_str (da_cons de_int (da_cons de_int da_nil)))) da_nil))) da_nil)) da_nil))) (da_cons de_str da_nil))) da_nil)))) da_nil))) (dg_tup (n := 2) (dgs_cons (dg_name (i := 9) sc_L_refused_right.nd) (dgs_cons (dg_name (i := 10) sc_L_refused_right.nd) dgs_nil))))
 (ds_cons (ds_set (i := 4) sc_L_refused_right.nd (de_add (de_v (i := 1)) (FE.de (fe_lst (da_cons (de_tup (da_cons (de_tup (da_cons de_str (da_cons de_str (da_cons de_str da_nil)))) (da_cons (de_tup (da_cons (de_tup (da_cons de_str (da_cons de_str da_nil))) da_nil)) da_nil))) da_nil)))))
 (ds_cons (ds_set (i := 5) sc_L_refused_right.nd (FE.de (fe_lst (da_cons de_non (da_cons de_int (da_cons de_str (da_cons (de_tup da_nil) (da_cons (de_tup (da_cons (de_tup (da_cons de_str da_nil)) da_nil)) (da_cons (de_tup (da_cons (de_tup (da_cons de_str da_nil)) (da_cons (de_tup da_nil) (da_cons (de_tup da_nil) da_nil)))) (da_cons (de_tup (da_cons (de_tup (da_cons de_str da_nil)) (da_cons (de_tup da_nil) da_nil))) (da_cons (de_tup (da_cons (de_tup (da_cons de_str da_nil)) (da_cons (de_tup (da_cons de_str da_nil)) da_nil))) (da_cons (de_tup (da_cons (de_tup (da_cons de_str da_nil)) (da_cons de_non da_nil))) (da_cons (FE.de fe_d0) da_nil)))))))))))))
 (ds_cons (ds_for (di_seq (de_add (de_v (i := 5)) (FE.de (fe_lst (da_cons (FE.de (fe_lst (da_cons (FE.de (fe_lst da_nil)) (da_cons (FE.de (fe_lst da_nil)) da_nil)))) da_nil))))) (dg_name (i := 6) sc_L_refused_right.nd)
  (ds_one (ds_if (dt_cm (c_ne hr) (tr (LamX.lamS_by (by decide +kernel)) rfl (fun _ _ _ _ _ => rfl) (fun A outer s H E f c' room => (dx_make C_Rules pass_lam room (da_cons (de_add (de_add (de_sl (de_v (i := 1)) dp_no (dp_at (de_v (i := 2)))) (FE.de (fe_lst (da_cons (de_v (i := 6)) (da_cons (de_v (i := 9)) (da_cons (de_v (i := 7)) da_nil)))))) (de_sl (de_v (i := 1)) (dp_at (de_v (i := 2))) dp_no)) da_nil)))) (de_tup (da_cons de_str (da_cons (de_v (i := 2)) da_nil)))) (ds_one (ds_ret de_bl)) ds_nil)))
 (ds_cons (ds_if (dt_cm (c_ne hr) (tr (LamX.lamS_by (by decide +kernel)) rfl (fun _ _ _ _ _ => rfl) (fun A outer s H E f c' room => (dx_make C_Rules pass_lam room (da_cons (de_add (de_add (FE.de (fe_lst (da_cons (de_v (i := 7)) da_nil))) (de_v (i := 4))) (FE.de (fe_lst (da_cons (de_v (i := 9)) da_nil)))) da_nil)))) (de_tup (da_cons de_str (da_cons (de_add (de_len T.b_len (de_v (i := 4))) de_int) (da_cons (de_v (i := 10)) da_nil))))) (ds_one (ds_ret de_bl)) ds_nil)
 (ds_cons (ds_if (dt_cm (c_ne hr) (tr (LamX.lamS_by (by decide +kernel)) rfl (fun _ _ _ _ _ => rfl) (fun A outer s H E f c' room => (dx_make C_Rules pass_lam room (da_cons (de_add (de_add (de_sl (de_v (i := 1)) dp_no (dp_at (de_v (i := 2)))) (FE.de (fe_lst (da_cons (de_v (i := 7)) da_nil)))) (de_sl (de_v (i := 1)) (dp_at (de_v (i := 2))) dp_no)) da_nil)))) (de_tup (da_cons de_str (da_cons (de_v (i := 2)) (da_cons (de_v (i := 8)) da_nil))))) (ds_one (ds_ret de_bl)) ds_nil)
 (ds_one (ds_ret (de_cm (c_eq hr) (FE.de (fe_lc (own := [("_law_odd", 6)]) sc_L_refused_right.nd (di_seq (de_tup (da_cons de_non (da_cons de_int (da_cons de_str (da_cons (FE.de fe_d0) (da_cons de_bl da_nil))))))) (blkOk_by (own := [("_law_odd", 6)]) (N := N_sc_L_refused_right) (sc := defScope s_L_refused_right) (by decide +kernel)) (fun _ _ _ _ _ => (dg_name (i := 6) sc_L_refused_right.nd)) (fun _ _ _ _ _ => dts_nil) (fun _ _ _ _ _ => (de_told (n := 0) (k := 13) (cs := clsL CB CE CU CN) (T := T2 PC PR) hmT FT bT sc_L_tried rfl (.inl rfl) rfl (fun cdg s H => clauses_L RE cdg s H) (fun f => rfl) cs1 cs2 TB rfl (List.mem_cons_of_mem _ List.mem_cons_self) uni (lam_strm _) hr (LamX.lamS_by rfl) rfl (fun _ _ _ _ _ => rfl) (fun A outer s H E f c' room => (dx_make C_Rules pass_lam room (da_cons (de_v (i := 6)) da_nil))))))) (de_mul (FE.de (fe_lst (da_cons (de_tup (da_cons de_str (da_cons de_int da_nil))) da_nil))) de_int))))))))))))))
  , fun ds g Kk h => ?_⟩
  obtain ⟨rs, rfl, hl, hg, hc, k⟩ := h
  have hsafe : ∀ r ∈ rs, safeR r := fun r hr => (hg r hr).safe
  have hokr : ∀ r ∈ rs, okRule r := fun r hr => (hg r hr).ok
  refine ⟨_, rfl, _, rfl, .int (rs.length : Nat), rfl, .int ((rs.length + 1 : Nat) : Int), by simp [addD], ((rs.length + 1 : Nat) : Int), rfl, by show g.c ≤ _; omega, by omega, by omega, fun i i0 i1 => ?_⟩
  obtain ⟨n, rfl⟩ : ∃ n : Nat, i = n := ⟨i.toNat, by omega⟩
  have hn : n ≤ rs.length := by omega
  refine ⟨by simp, by simp, by simp, by simp, by simp, by simp, by simp, by simp, by simp, by simp, by simp, by simp, ?_⟩
  refine ⟨⟨_, rfl⟩, by simp, by simp, by simp, by simp, by simp, by simp, by simp, by simp, _, rfl, by simp, ?_⟩
  refine ⟨_, rfl, .inr ⟨_, rfl, ⟨_, unsL.map fun p => .tup [p.1, .str p.2], rfl, rfl, by simp [unsL], by simp [unsL], by show g.c + 1 ≤ _; omega, fun y hy => ?_⟩⟩⟩
  obtain ⟨⟨lo, lz⟩, hlo, rfl⟩ := List.mem_map.mp hy
  obtain ⟨log, zr, lol⟩ := unsL_ok _ hlo
  have log : goodR lo := log
  have lol : looseR lo = lz :: zr := lol
  refine ⟨_, rfl, rfl, _, _, rfl, _, _, rfl, rfl, ?_⟩
  refine ⟨_, rfl, ?_⟩
  refine ⟨by simp, by simp, by simp, by simp, by simp, by simp, by simp, by simp, by simp, by simp, by simp, ⟨_, unvL.map fun p => .tup [p.1, .str p.2], rfl, rfl, by simp [unvL], by simp [unvL], by show g.c + 1 + 1 ≤ _; omega, fun y2 hy2 => ?_⟩⟩
  obtain ⟨⟨uo, uz⟩, huo, rfl⟩ := List.mem_map.mp hy2
  obtain ⟨uok, uun⟩ := unvL_ok _ huo
  have uok : okRule uo := uok
  have uun : ∀ g : Ar, ag g → seenA g "way" → seenA g "q" → (unevA g (atomsR uo)).1 = some uz := uun
  refine ⟨_, rfl, rfl, _, _, rfl, _, _, rfl, rfl, ?_⟩
  refine ⟨_, rfl, by simp, by simp, by simp, by simp, by simp, .lst (rs ++ [lastR]), by rw [ad_lst, if_pos (by simp; omega)]; rfl, ?_⟩
  refine ⟨by simp, by simp, by simp, by simp, by simp, by simp, by simp, by simp, by simp, by simp, by simp, by simp, by simp, by simp, by simp, by simp, ?_⟩
  refine ⟨_, rfl, by simp, by simp, by simp, by simp, .lst (oddsR ++ [.lst [.lst [], .lst []]]), by rfl, _, rfl, ?_⟩
  let ods : List D := oddsR ++ [.lst [.lst [], .lst []]]
  let mk : Option DV → DS (Strm (T2 PC PR)) := fun x6 => ⟨(⟨g.st, g.L, g.c + 1 + 1 + 1⟩ : SG), [some (.fz (.raw (.ref g.st))), some (.fz (.lst rs)), some (.fz (.int (n : Nat))), some (.fz (.lst (unsL.map fun p => .tup [p.1, .str p.2]))), some (.fz (.lst (rs ++ [lastR]))), some (.fz (.lst oddsR)), x6, some (.fz lo), some (.fz (.str lz)), some (.fz uo), some (.fz (.str uz))]⟩
  have htl : (rs.take n).length = n := by rw [List.length_take]; omega
  have hdl : (rs.drop n).length = rs.length - n := List.length_drop ..
  have htk : ∀ r ∈ rs.take n, r ∈ rs := fun r h => List.mem_of_mem_take h
  have hdk : ∀ r ∈ rs.drop n, r ∈ rs := fun r h => List.mem_of_mem_drop h
  have ct : slD none (some (n : Nat)) (.lst rs) = some (.lst (rs.take n)) := by rw [← cut_take rs n hn]; rfl
  have cd : slD (some (n : Nat)) none (.lst rs) = some (.lst (rs.drop n)) := by rw [← cut_drop rs n hn]; rfl
  have tmA : ∀ xs : List D, (∀ t ∈ xs, tmB t = true) → xs.length ≤ 50 → tmB (.lst xs) = true := fun xs h hl => (tmB_seq (tmBs_iff.mpr h) (by omega)).1
  refine forGo_ind (fun rest ρ => ∃ x6, (∀ x ∈ rest, x ∈ ods) ∧ (∀ d, x6 ≠ some (.own d)) ∧ ρ = mk x6) ?_ ?_ _ _ ⟨none, fun x h => h, (fun d h => by cases h), rfl⟩
  · rintro x rest N ρ hN ⟨x6, hsub, hno, rfl⟩
    obtain ⟨q1, q2⟩ := oddsR_ok x (hsub x List.mem_cons_self)
    have q3 := isNon_eq q1
    refine ⟨_, rfl, _, rfl, _, rfl, rfl, _, ct, _, rfl, _, rfl, _, rfl, by simp, .lst (rs.take n ++ [x, uo, lo]), by rw [ad_lst, if_pos (by simp; omega)], ?_⟩
    refine ⟨_, rfl, _, rfl, _, rfl, rfl, _, cd, .lst (rs.take n ++ x :: uo :: lo :: rs.drop n), by rw [ad_lst, if_pos (by simp; omega)]; simp, ?_⟩
    refine wNil_k ?_
    have hm : ∀ t ∈ rs.take n ++ x :: uo :: lo :: rs.drop n, tmB t = true ∧ smallR t := fun t ht => by
      rcases List.mem_append.mp ht with h | h
      · exact ⟨(hokr t (htk t h)).tm, (hokr t (htk t h)).small⟩
      · rcases List.mem_cons.mp h with rfl | h
        · exact ⟨q2, fun hd body e => by rw [q3] at e; cases e⟩
        · rcases List.mem_cons.mp h with rfl | h
          · exact ⟨uok.tm, uok.small⟩
          · rcases List.mem_cons.mp h with rfl | h
            · exact ⟨log.1.tm, log.1.small⟩
            · exact ⟨(hokr t (hdk t h)).tm, (hokr t (hdk t h)).small⟩
    have hlen : (rs.take n ++ x :: uo :: lo :: rs.drop n).length ≤ 50 := by simp; omega
    refine ⟨_, rfl, tmA _ (fun t ht => (hm t ht).1) hlen, fun ys e => ?_, ?_⟩
    · cases e
      exact ⟨hlen, fun t ht => (hm t ht).2⟩
    refine res_bad (ys := rs.take n) (o := x) (zs := uo :: lo :: rs.drop n) rfl (fun y hy => hokr y (htk y hy)) q3 ?_
    refine cl_rule ?_
    rw [htl]
    exact ⟨_, rfl, by simp, .bl false, ne_self (by simp [isDat, isDats]) (by simp [dep, deps]), false, rfl, itF (hN _ ⟨_, fun q hq => hsub q (List.mem_cons_of_mem _ hq), (fun d h => by cases h), rfl⟩)⟩
  · rintro ρ ⟨x6, _, hno, rfl⟩
    have hfull : ∀ q ∈ lo :: (rs ++ [lastR]), goodR q := fun q hq => by
      rcases List.mem_cons.mp hq with rfl | hq
      · exact log
      · rcases List.mem_append.mp hq with h | h
        · exact (hsafe q h).1
        · rw [List.mem_singleton.mp h]; exact lastR_good
    refine ⟨_, rfl, by simp, _, rfl, .lst (lo :: (rs ++ [lastR])), by rw [ad_lst, if_pos (by simp; omega)]; rfl, _, rfl, by simp, .lst (lo :: (rs ++ [lastR]) ++ [uo]), by rw [ad_lst, if_pos (by simp; omega)], ?_⟩
    refine wNil_k ?_
    have hm : ∀ t ∈ lo :: (rs ++ [lastR]) ++ [uo], okRule t := fun t ht => by
      rcases List.mem_append.mp ht with h | h
      · exact (hfull t h).1
      · rw [List.mem_singleton.mp h]; exact uok
    have hlen : (lo :: (rs ++ [lastR]) ++ [uo]).length ≤ 50 := by simp; omega
    refine ⟨_, rfl, tmA _ (fun t ht => (hm t ht).tm) hlen, fun ys e => ?_, ?_⟩
    · cases e
      exact ⟨hlen, fun t ht => (hm t ht).small⟩
    refine res_uneven (z := uz) (rs := lo :: (rs ++ [lastR])) (r := uo) (ss := []) rfl (map_norm hm) hfull (fun q hq => by rw [List.mem_singleton.mp hq]; exact uok) (fun g' ha hs => ?_) ?_
    · obtain ⟨s1, s2⟩ := lastR_seen (g := g') fun a ha' => hs lastR (by simp) a ha'
      exact uun g' ha s1 s2
    refine cl_uneven RE.bE ?_
    have hfl : (lo :: (rs ++ [lastR])).length = (rs ++ [lastR]).length + 1 := rfl
    refine ⟨_, rfl, .int ((rs ++ [lastR]).length : Nat), rfl, .int (((rs ++ [lastR]).length + 1 : Nat) : Int), by simp [addD], _, rfl, by simp, .bl false, ne_self (by simp [isDat, isDats]) (by simp [dep, deps]), false, rfl, itF ?_⟩
    refine ⟨_, rfl, _, rfl, _, rfl, rfl, _, ct, _, rfl, by simp, .lst (rs.take n ++ [lo]), by rw [ad_lst, if_pos (by simp; omega)], ?_⟩
    refine ⟨_, rfl, _, rfl, _, rfl, rfl, _, cd, .lst (rs.take n ++ lo :: rs.drop n), by rw [ad_lst, if_pos (by simp; omega)]; simp, ?_⟩
    refine wNil_k ?_
    have hgd : ∀ q ∈ lo :: rs.drop n, goodR q := fun q hq => by
      rcases List.mem_cons.mp hq with rfl | hq
      · exact log
      · exact (hsafe q (hdk q hq)).1
    have hm2 : ∀ t ∈ rs.take n ++ lo :: rs.drop n, okRule t := fun t ht => by
      rcases List.mem_append.mp ht with h | h
      · exact hokr t (htk t h)
      · exact (hgd t h).1
    have hlen2 : (rs.take n ++ lo :: rs.drop n).length ≤ 50 := by simp; omega
    refine ⟨_, rfl, tmA _ (fun t ht => (hm2 t ht).tm) hlen2, fun ys e => ?_, ?_⟩
    · cases e
      exact ⟨hlen2, fun t ht => (hm2 t ht).small⟩
    refine res_unsafe (z := lz) (rs := rs.take n) (r := lo) (ss := rs.drop n) rfl (map_norm hm2) (fun r hr => hsafe r (htk r hr)) hgd lol ?_
    refine cl_unsafe RE.bU RE.eU ?_
    rw [htl]
    refine ⟨_, rfl, _, rfl, by simp, .bl false, ne_self (by simp [isDat, isDats]) (by simp [dep, deps]), false, rfl, itF ?_⟩
    let r0 : D := .tup [.str "rule", .int 0]
    let five : List D := [.non, .int 5, .str "p", .dct [] [], .bl true]
    have hfive : ∀ x ∈ five, sqOf x = none ∧ tmB x = true := by
      intro x hx
      simp only [five, List.mem_cons, List.not_mem_nil, or_false] at hx
      rcases hx with rfl | rfl | rfl | rfl | rfl <;> exact ⟨rfl, by decide +kernel⟩
    refine ⟨by simp, five, rfl, by simp [five], fun i m d' q => ?_, ?_⟩
    · have e : i = 6 := by simpa using m
      subst e
      exact hno _ (Option.some.inj q)
    refine lcGo_ind (fun rest acc ρ => ∃ j, acc = List.replicate j r0 ∧ j + rest.length = 5 ∧ (∀ x ∈ rest, x ∈ five) ∧ ρ = mk none) ?_ ?_ _ _ _ ⟨0, rfl, rfl, fun x h => h, rfl⟩
    · rintro x rest acc N ρ hN ⟨j, rfl, hj, hsub, rfl⟩
      rw [List.length_cons] at hj
      obtain ⟨f1, f2⟩ := hfive x (hsub x List.mem_cons_self)
      refine ⟨_, rfl, ?_⟩
      refine wNil_k ?_
      refine ⟨x, rfl, f2, (fun ys e => by rw [f1] at e; cases e), res_none f1 ?_⟩
      refine cl_rule ?_
      exact hN _ _ ⟨j + 1, by rw [List.replicate_succ'], by omega, fun q hq => hsub q (List.mem_cons_of_mem _ hq), rfl⟩
    · rintro acc ρ ⟨j, rfl, hj, _, rfl⟩
      have hj : j = 5 := by simpa using hj
      subst hj
      refine ⟨by simp, by simp, .lst (List.replicate 5 r0), by simp [mulD, r0], .bl true, eq_self ?_ ?_, k _ (by show g.c + 1 + 1 + 1 ≤ _; omega)⟩
      · show isDat (.lst [r0, r0, r0, r0, r0]) = true
        simp [r0, isDat, isDats]
      · show dep (.lst [r0, r0, r0, r0, r0]) ≤ 60
        simp [r0, dep, deps]
end
end L03

set_option Elab.async false
set_option linter.all false
set_option maxRecDepth 100000
set_option maxHeartbeats 8000000
namespace L03
open PySem PySem.Spec PyProof.Rows L2 Q
theorem deqs_len : ∀ {xs ys : List D}, deqs xs ys = true → xs.length = ys.length
  | [], [], _ => rfl
  | [], _ :: _, h => by simp [deqs] at h
  | _ :: _, [], h => by simp [deqs] at h
  | x :: xs, y :: ys, h => by
    rw [deqs, Bool.and_eq_true] at h
    rw [List.length_cons, List.length_cons, deqs_len h.2]
theorem deqs_ne {xs ys : List D} (h : xs.length ≠ ys.length) : deqs xs ys = false := by
  cases q : deqs xs ys with
  | false => rfl
  | true => exact absurd (deqs_len q) h
theorem deqs_snoc {a b : D} : ∀ {xs ys : List D}, deq a b = false → xs.length = ys.length → deqs (xs ++ [a]) (ys ++ [b]) = false
  | [], [], h, _ => by simp [h]
  | [], _ :: _, _, h => by cases h
  | _ :: _, [], _, h => by cases h
  | x :: xs, y :: ys, h, hl => by
    rw [List.cons_append, List.cons_append, deqs, deqs_snoc h (by simpa using hl), Bool.and_false]
theorem okRule.dat {r : D} (h : okRule r) : isDat r = true := by
  obtain ⟨hd, body, rfl, o, ob, lb⟩ := h
  have h1 := o.dat.1
  have h2 : isDats body = true := isDats_iff.mpr fun p hp => (ob p hp).dat.1
  simp [isDat, isDats, h1, h2]
def x7P : D := .tup [.str "p", .str "X7", .str "X7"]
def longR : D → D
  | .tup [h, .tup body] => .tup [h, .tup (body ++ [x7P])]
  | d => d
theorem gRule.long {r : D} (h : gRule r) : safeR (longR r) ∧ deq r (longR r) = false := by
  have hs := h.safe
  obtain ⟨hd, body, rfl, oh, ob, nb, lb, _, cov⟩ := h
  have xok : kP x7P := .inl (kAs (by decide +kernel) (by decide) (by decide +kernel))
  have e0 : longR (.tup [hd, .tup body]) = .tup [hd, .tup (body ++ [x7P])] := rfl
  rw [e0]
  obtain ⟨z, ts, e1, hz, hl, ht⟩ := id oh
  have hk : kA hd := ⟨z, ts, e1, name_nm z hz, by have := arN_le z; omega, List.all_eq_true.mpr fun t htt => dTerm_tm t (ht t htt), hl⟩
  have bk : ∀ p ∈ body, kP p := fun p hp => by
    rcases ob p hp with ⟨z, ts, rfl, hz, hl2, ht⟩ | ⟨a, ⟨z, ts, rfl, hz, hl2, ht⟩, rfl⟩ | ⟨t, u, ht, hu, rfl⟩
    · exact .inl ⟨z, ts, rfl, name_nm z hz, by have := arN_le z; omega, List.all_eq_true.mpr fun t htt => dTerm_tm t (ht t htt), hl2⟩
    · exact .inr (.inl ⟨_, ⟨z, ts, rfl, name_nm z hz, by have := arN_le z; omega, List.all_eq_true.mpr fun t htt => dTerm_tm t (ht t htt), hl2⟩, rfl⟩)
    · exact .inr (.inr ⟨t, u, dTerm_tm t ht, dTerm_tm u hu, rfl⟩)
  refine ⟨⟨good_of hk (fun p hp => ?_) (by simp; omega), ?_⟩, ?_⟩
  · rcases List.mem_append.mp hp with h | h
    · exact bk p h
    · rw [List.mem_singleton.mp h]; exact xok
  · have xpl : plainP x7P = true := by decide +kernel
    show (lettersP (hd :: (body ++ [x7P]).filter fun p => !plainP p)).filter (fun z => !decide (z ∈ lettersP ((body ++ [x7P]).filter plainP))) = []
    rw [List.filter_eq_nil_iff]
    intro z hz
    obtain ⟨p, hp, h1, h2⟩ := (lettersP_mem _ z).mp hz
    have hp' : p = hd ∨ p ∈ body := by
      rcases List.mem_cons.mp hp with h | h
      · exact .inl h
      · obtain ⟨q1, q2⟩ := List.mem_filter.mp h
        rcases List.mem_append.mp q1 with q | q
        · exact .inr q
        · rw [List.mem_singleton.mp q, xpl] at q2
          cases q2
    obtain ⟨q, hq, q1, q2⟩ := cov p hp' _ h1 h2
    have : z ∈ lettersP ((body ++ [x7P]).filter plainP) := (lettersP_mem _ z).mpr ⟨q, List.mem_filter.mpr ⟨List.mem_append_left _ hq, q1⟩, q2, h2⟩
    rw [decide_eq_true this]
    decide
  · rw [eq_tup_tup]
    have : deq (.tup body) (.tup (body ++ [x7P])) = false := by
      rw [eq_tup_tup]
      exact deqs_ne (by simp)
    simp [deqs, this]
theorem cut_last {xs : List D} {a : D} : Q.cutD (xs ++ [a]) (some (-1)) none = [a] := by
  simp [Q.cutD, HT.sIx]
  have : (-1 + ((xs.length : Int) + 1)).toNat = xs.length := by omega
  rw [this]
  simp
theorem cut_init {xs : List D} {a : D} : Q.cutD (xs ++ [a]) none (some (-1)) = xs := by
  simp [Q.cutD, HT.sIx]
  have : (-1 + ((xs.length : Int) + 1)).toNat = xs.length := by omega
  rw [this]
  simp
theorem cut_nil0 (a b : Option Int) : Q.cutD [] a b = [] := by simp [Q.cutD]
theorem tAny_k {R : Rgn} {ρ : DS R} {w : WE R} {K : Bool → DS R → Prop} (h : w ρ fun x ρ1 => ∃ z, anyD x = some z ∧ ∃ b, truD z = some b ∧ K b ρ1) : wTruth (wUn anyD w) ρ K := h
theorem any_no : ∀ {acc : List D}, (∀ a ∈ acc, a = .bl false) → anyD (.lst acc) = some (.bl false)
  | [], _ => rfl
  | a :: as, h => by
    have e := h a List.mem_cons_self
    subst e
    have ih := any_no (acc := as) fun b hb => h b (List.mem_cons_of_mem _ hb)
    have h2 : (blsD as).map (fun bs => D.bl (bs.any id)) = some (.bl false) := ih
    obtain ⟨bs, h3, h4⟩ := Option.map_eq_some_iff.mp h2
    show ((blsD as).map fun bs => false :: bs).map (fun bs => D.bl (bs.any id)) = some (.bl false)
    rw [h3]
    simpa using h4
theorem sIf_no {R : Rgn} {wt : WB R} {w1 w2 : WS R} {D : DEnds R} {ρ ρ' : DS R} (h : ∀ K : Bool → DS R → Prop, K false ρ' → wt ρ K) (k : w2 D ρ') : sIf wt w1 w2 D ρ := h _ (itF k)
theorem sNext_k {R : Rgn} {D : DEnds R} {ρ : DS R} (h : D.nx ρ) : sNext D ρ := h
theorem sSeq_k {R : Rgn} {w1 w2 : WS R} {D : DEnds R} {ρ : DS R} (h : w1 { D with nx := fun ρ' => w2 D ρ' } ρ) : sSeq w1 w2 D ρ := h
theorem sSet_k {R : Rgn} {i : Nat} {we : WE R} {D : DEnds R} {ρ : DS R} (h : we ρ fun d ρ1 => D.nx (ρ1.put i (some (.fz d)))) : sSet i we D ρ := h
-- law: slots 0 _law_script, 1 _law_stream, 2 _law_turn, 3 _law_rules, 4 _law_handed, 5 _law_made, 6 _law_rule, 7 _law_longer, 8 _law_k, 9 _law_head, 10 _law_body, 11 _law_thing
abbrev s_law : Stmt := (top 59)
abbrev N_sc_law : List Str := ["_law_script", "_law_stream", "_law_turn", "_law_rules", "_law_handed", "_law_made", "_law_rule", "_law_longer", "_law_k", "_law_head", "_law_body", "_law_thing"]
theorem sc_law : FnScope N_sc_law ["_law_script"] (defScope s_law) := ⟨rfl, rfl, rfl, by decide +kernel, rfl, by decide +kernel, by decide +kernel⟩
def forB : List Stmt := match (defBody s_law).getD 1 (.Pass ⟨0, 0, 0, 0⟩) with
  | .For _ _ b _ _ => b
  | _ => []
section
variable {P : Program} {w : World} {K : PySem.W.Frag} {mg : Str → Option Value} {base : Heap} {f : Addr} {C CB CE CU CN co PC PR : Addr}
abbrev mkL (C : Addr) (PC PR st L a0 : Addr) (rs : List D) (c : Nat) (x2 x4 x6 x7 : Option DV) : DS (Strm (T2 PC PR)) := ⟨(⟨st, L, c⟩ : SG), [some (.fz (.raw (.ref a0))), some (.fz (.raw (.ref st))), x2, some (.fz (.lst rs)), x4, some (.fz (oRules C rs)), x6, x7, none, none, none, none]⟩
theorem law_b (T : Tx K mg) (I : IsC K C) (O_ex : ∃ g, PySem.W.findIn K (.ref C) "__eq__" = some (some (.ref g)) ∧ PySem.W.isFn K (.ref g) = true ∧ L2.FnR P w K mg base CX0 1 g (spD K (mEqR C)))
    (O_ne : PySem.W.findIn K (.ref C) "__ne__" = some (some (.builtin "object.__ne__")))
    (M_listed : CalM P w K mg base C "listed" 1 ["self"] (spF K (mOwnR C .lst))) (C_Rules : CalK P w K mg base "Rules" C 10 ["self", "rules"] (mInit CB CE CU C))
    (C__law_told_right : Cal P w K mg base "_law_told_right" 12 ["_law_made", "_law_rules"] (spD K (mTold C))) (C__law_changed_right : Cal P w K mg base "_law_changed_right" 16 ["_law_stream", "_law_made", "_law_rules"] (spR (Strm (T2 PC PR)) K (mChanged (T2 PC PR) C)))
    (C__law_refused_right : Cal P w K mg base "_law_refused_right" 16 ["_law_stream", "_law_rules"] (spR (Strm (T2 PC PR)) K (mRefused (T2 PC PR))))
    {A : Around} {outer : List Env} {s : Shared} {H F0 H0 : Hp} {Z0 : Addr → Prop} {E : XK} (hr : Room 17 (A.deeper (envOfC "law" (defScope s_law) s.heap.objs.size f (.ref co)))) :
    ∃ w' : WS (Strm (T2 PC PR)), DSs (bodyX P w K mg base N_sc_law "law" s_law f (.ref co) A outer s H E) ⟨K, Strm (T2 PC PR), H0, F0, Z0⟩ false (forB.drop 5) w' ∧
      ∀ (Dk : DEnds (Strm (T2 PC PR))) (st L a0 : Addr) (rs : List D) (c : Nat) (x2 x4 x6 x7 : Option DV), (∀ r ∈ rs, gRule r) → rs.length ≤ 5 → c ≤ 600000 → (∀ c' x7', c' ≤ c + 400 → Dk.nx (mkL C PC PR st L a0 rs c' x2 x4 x6 x7')) → w' Dk (mkL C PC PR st L a0 rs c x2 x4 x6 x7) := by
  refine ⟨_, 
(ds_cons (ds_if (DW.dt (dw_or (dt_not (dt_truth (de_call C__law_told_right hr (da_cons (de_v (i := 5)) (da_cons (de_v (i := 3)) da_nil))))) (dw_or1 (dt_not (dt_truth (de_callR C__law_changed_right hr (da_cons (de_v (i := 1)) (da_cons (de_v (i := 5)) (da_cons (de_v (i := 3)) da_nil))))))))) (ds_one (ds_ret de_bl)) ds_nil)
 (ds_cons (ds_if (DW.dt (dw_or (dt_not (dt_ownE I ⟨O_ex, O_ne⟩ hr (de_v (i := 5)) (DX.de (dx_make C_Rules passF hr (da_cons (de_v (i := 3)) da_nil))))) (dw_or1 (dt_truth (de_any T.b_any (FE.de (fe_lc (own := [("_law_thing", 11)]) sc_law.nd (di_seq (de_tup (da_cons de_non (da_cons de_int (da_cons (de_v (i := 3)) (da_cons de_str (da_cons (FE.de (fe_lst da_nil)) (da_cons (FE.de (fe_meth M_listed hr (de_v (i := 5)))) da_nil)))))))) (blkOk_by (own := [("_law_thing", 11)]) (N := N_sc_law) (sc := defScope s_law) (by decide +kernel)) (fun _ _ _ _ _ => (dg_name (i := 11) sc_law.nd)) (fun _ _ _ _ _ => dts_nil) (fun _ _ _ _ _ => (de_ownE I ⟨O_ex, O_ne⟩ hr (de_v (i := 5)) (de_v (i := 11))))))))))) (ds_one (ds_ret de_bl)) ds_nil)
 (ds_cons (ds_if (DW.dt (dw_and (dt_cm (c_ne hr) (de_v (i := 3)) (FE.de (fe_rev (de_v (i := 3))))) (dw_and1 (dt_ownE I ⟨O_ex, O_ne⟩ hr (de_v (i := 5)) (DX.de (dx_make C_Rules passF hr (da_cons (FE.de (fe_rev (de_v (i := 3)))) da_nil))))))) (ds_one (ds_ret de_bl)) ds_nil)
 (ds_cons (ds_setP (i := 7) (ps_lc (own := [("_law_head", 9), ("_law_body", 10)]) sc_law.nd (di_seq (de_sl (de_v (i := 3)) (dp_at (de_neg de_int)) dp_no)) (blkOk_by (own := [("_law_head", 9), ("_law_body", 10)]) (N := N_sc_law) (sc := defScope s_law) (by decide +kernel)) (fun _ _ _ _ _ => (dg_tup (n := 2) (dgs_cons (dg_name (i := 9) sc_law.nd) (dgs_cons (dg_name (i := 10) sc_law.nd) dgs_nil)))) (fun _ _ _ _ _ => dts_nil) (fun _ _ _ _ _ => (de_tup (da_cons (de_v (i := 9)) (da_cons (de_add (de_v (i := 10)) (de_tup (da_cons (de_tup (da_cons de_str (da_cons de_str (da_cons de_str da_nil)))) da_nil))) da_nil)))) (sw_true rfl rfl rfl (by decide +kernel))))
 (ds_cons (ds_if (DW.dt (dw_and (dt_cm (c_ne hr) (de_v (i := 3)) (FE.de (fe_lst da_nil))) (dw_and1 (dt_ownE I ⟨O_ex, O_ne⟩ hr (de_v (i := 5)) (DX.de (dx_make C_Rules passF hr (da_cons (de_add (de_sl (de_v (i := 3)) dp_no (dp_at (de_neg de_int))) (de_v (i := 7))) da_nil))))))) (ds_one (ds_ret de_bl)) ds_nil)
 (ds_one (ds_if (dt_not (dt_truth (de_callR C__law_refused_right hr (da_cons (de_v (i := 1)) (da_cons (de_v (i := 3)) da_nil))))) (ds_one (ds_ret de_bl)) ds_nil)))))))
  , fun Dk st L a0 rs c x2 x4 x6 x7 hg hl hc k => ?_⟩
  have hsafe : ∀ r ∈ rs, safeR r := fun r hr => (hg r hr).safe
  have rok : okRs rs := ⟨fun r hr => (hg r hr).ok, by omega⟩
  obtain ⟨rd1, rd2⟩ := rules_dat hg
  refine ⟨_, rfl, _, rfl, rs, rfl, hg, by omega, true, rfl, itF ?_⟩
  refine ⟨_, rfl, _, rfl, _, rfl, rs, rfl, hl, hg, by show c ≤ _; omega, fun c1 hc1 => ⟨true, rfl, itF ?_⟩⟩
  have hc1 : c1 ≤ c + 200 := hc1
  refine ⟨_, rfl, _, rfl, ?_⟩
  refine wNil_k ?_
  refine init_rules rfl hsafe (by omega) ?_
  refine ⟨⟨_, _, rfl⟩, .inl ⟨_, _, rfl⟩, rs, _, true, rfl, rd1, by omega, .inl ⟨_, rfl, rd1, (deqs_self rd1).symm⟩, true, rfl, true, rfl, itF ?_⟩
  refine tAny_k ?_
  let things : List D := [.non, .int 5, .lst rs, .str "p", .lst [], .lst rs]
  have hth : ∀ x ∈ things, ∃ t, kD2 x = some t := by
    intro x hx
    simp only [things, List.mem_cons, List.not_mem_nil, or_false] at hx
    rcases hx with rfl | rfl | rfl | rfl | rfl | rfl <;> exact ⟨_, rfl⟩
  refine ⟨_, rfl, by simp, _, rfl, _, _, rfl, by decide, rs, rfl, rok, by simp, things, rfl, by simp [things], fun i m d' q => ?_, ?_⟩
  · have e : i = 11 := by simpa using m
    subst e
    cases q
  refine lcGo_ind (fun rest acc ρ => (∀ a ∈ acc, a = .bl false) ∧ (∀ x ∈ rest, x ∈ things) ∧ ρ = mkL C PC PR st L a0 rs c1 x2 x4 x6 x7) ?_ ?_ _ _ _ ⟨by simp, fun x h => h, rfl⟩
  · rintro x rest acc N ρ hN ⟨hacc, hsub, rfl⟩
    have ht := hth x (hsub x List.mem_cons_self)
    refine ⟨_, rfl, x, rfl, ⟨_, _, rfl⟩, .inr ht, rs, x, false, rfl, rd1, by omega, .inr ⟨ht, rfl⟩, false, rfl, hN _ _ ⟨fun a ha => ?_, fun q hq => hsub q (List.mem_cons_of_mem _ hq), rfl⟩⟩
    rcases List.mem_append.mp ha with h | h
    · exact hacc a h
    · exact List.mem_singleton.mp h
  rintro acc ρ ⟨hacc, _, rfl⟩
  refine ⟨_, any_no hacc, false, rfl, itF ?_⟩
  -- the rules turned round
  have hrev : ∀ r ∈ rs.reverse, safeR r := fun r hr => hsafe r (List.mem_reverse.mp hr)
  obtain ⟨rv1, rv2⟩ := rules_dat (rs := rs.reverse) fun r hr => hg r (List.mem_reverse.mp hr)
  have eqr : eqD true (.lst rs) (.lst rs.reverse) = some (.bl (!deqs rs rs.reverse)) := by
    unfold eqD
    rw [if_pos ⟨by simpa [isDat] using rd1, by simpa [isDat] using rv1, by simp only [dep]; omega⟩, eq_lst_lst]
    cases deqs rs rs.reverse <;> rfl
  let ρ1 := mkL C PC PR st L a0 rs c1 x2 x4 x6 x7
  simp only [sNext, sSeq]
  refine sIf_no (ρ' := ρ1) (fun K kk => ?_) ?_
  · refine ⟨_, rfl, _, rfl, .lst rs.reverse, rfl, _, eqr, _, rfl, ?_⟩
    cases hdr : deqs rs rs.reverse with
    | true => exact itF kk
    | false =>
      refine itT ⟨_, rfl, _, rfl, .lst rs.reverse, rfl, ?_⟩
      refine wNil_k ?_
      refine init_rules rfl hrev (by rw [List.length_reverse]; omega) ?_
      exact ⟨⟨_, _, rfl⟩, .inl ⟨_, _, rfl⟩, rs, _, false, rfl, rd1, by omega, .inl ⟨_, rfl, rv1, hdr.symm⟩, false, rfl, false, rfl, kk⟩
  have hcut : ∃ ls, slD (some (-1)) none (.lst rs) = some (.lst ls) ∧ (∀ r ∈ ls, gRule r) ∧ ls.length ≤ 1 ∧ ((rs = [] ∧ ls = []) ∨ ∃ xs a, rs = xs ++ [a] ∧ ls = [a]) := by
    rcases List.eq_nil_or_concat rs with e | ⟨xs, a, e⟩
    · exact ⟨[], by rw [e]; rfl, (fun r h => nomatch h), by simp, .inl ⟨e, rfl⟩⟩
    · refine ⟨[a], by rw [e, ← cut_last (xs := xs) (a := a), List.concat_eq_append]; rfl, fun r hr => ?_, by simp, .inr ⟨xs, a, by rw [e, List.concat_eq_append], rfl⟩⟩
      rw [List.mem_singleton.mp hr]
      exact hg a (by rw [e, List.concat_eq_append]; simp)
  obtain ⟨ls, hls, hlg, hll, hcase⟩ := hcut
  refine ⟨_, rfl, .int (-1), rfl, _, rfl, rfl, _, hls, ls, rfl, by omega, fun i m d' q => ?_, ?_⟩
  · have e : i = 9 ∨ i = 10 := by simpa using m
    rcases e with rfl | rfl <;> cases q
  refine lcGo_ind (fun rest acc ρ => acc ++ rest.map longR = ls.map longR ∧ (∀ r ∈ rest, gRule r) ∧ ρ = ρ1) ?_ ?_ _ _ _ ⟨rfl, hlg, rfl⟩
  · rintro d rest acc N ρ hN ⟨hf, hok, rfl⟩
    obtain ⟨h, body, rfl, _, _, _, _, _, lb⟩ := (hok d List.mem_cons_self).parts
    refine ⟨_, rfl, rfl, _, _, rfl, _, _, rfl, rfl, ?_⟩
    refine ⟨_, rfl, _, rfl, by simp, by simp, .tup (body ++ [x7P]), ?_, by simp, hN _ _ ⟨?_, fun q hq => hok q (List.mem_cons_of_mem _ hq), rfl⟩⟩
    · rw [ad_tup, if_pos (by simp; omega)]
      rfl
    · rw [List.append_assoc]
      exact hf
  rintro acc ρ ⟨hf, _, rfl⟩
  have hf : acc = ls.map longR := by rw [← hf]; exact (List.append_nil _).symm
  subst hf
  let ρ2 := mkL C PC PR st L a0 rs c1 x2 x4 x6 (some (.fz (.lst (ls.map longR))))
  dsimp only
  refine sIf_no (ρ' := ρ2) (fun K kk => ?_) ?_
  · have eq0 : eqD true (.lst rs) (.lst []) = some (.bl (!deqs rs [])) := by
      unfold eqD
      rw [if_pos ⟨by simpa [isDat] using rd1, by simp [isDat, isDats], by simp [dep, deps]⟩, eq_lst_lst]
      cases deqs rs [] <;> rfl
    refine ⟨_, rfl, by simp, _, eq0, _, rfl, ?_⟩
    rcases hcase with ⟨e, e2⟩ | ⟨xs, a, e, e2⟩
    · have : deqs rs [] = true := by rw [e]; simp
      rw [this]
      exact itF kk
    · have : deqs rs [] = false := deqs_ne (by rw [e]; simp)
      rw [this]
      have ha : gRule a := hg a (by rw [e]; simp)
      obtain ⟨sl, dl⟩ := ha.long
      have hxs : ∀ r ∈ xs, gRule r := fun r h => hg r (by rw [e]; exact List.mem_append_left _ h)
      have hall : ∀ r ∈ xs ++ [longR a], safeR r := fun r hr => by
        rcases List.mem_append.mp hr with h | h
        · exact (hxs r h).safe
        · rw [List.mem_singleton.mp h]; exact sl
      have hxl : xs.length + 1 ≤ 5 := by rw [e] at hl; simpa using hl
      refine itT ⟨_, rfl, _, rfl, .int (-1), rfl, _, rfl, rfl, .lst xs, ?_, ?_⟩
      · rw [e]
        show some (D.lst (Q.cutD (xs ++ [a]) none (some (-1)))) = _
        rw [cut_init]
      · refine ⟨_, rfl, .lst (xs ++ [longR a]), ?_, ?_⟩
        · rw [e2, ad_lst, if_pos (by simp; omega)]
          rfl
        refine wNil_k ?_
        refine init_rules rfl hall (by simp; omega) ?_
        have hd1 : isDats (xs ++ [longR a]) = true := isDats_iff.mpr fun r hr => (hall r hr).1.1.dat
        refine ⟨⟨_, _, rfl⟩, .inl ⟨_, _, rfl⟩, rs, _, false, rfl, rd1, by omega, .inl ⟨_, rfl, hd1, ?_⟩, false, rfl, false, rfl, kk⟩
        rw [e]
        exact (deqs_snoc dl rfl).symm
  refine ⟨_, rfl, _, rfl, rs, rfl, hl, hg, by show c1 ≤ _; omega, fun c2 hc2 => ⟨true, rfl, itF ?_⟩⟩
  exact k c2 _ (by have hc2 : c2 ≤ c1 + 200 := hc2; omega)
end
end L03

set_option Elab.async false
set_option linter.all false
set_option maxRecDepth 100000
set_option maxHeartbeats 4000000
/-! lists of the data that are changed: lent out, taken back; a loop over a fresh list -/
namespace Q
open PySem PySem.Spec PyProof.Rows L2
theorem relV_one {x y : V} {u : Value} (h : L2.RelV x u) (h' : L2.RelV y u) : x = y := by
  cases x <;> cases y <;> simp only [L2.RelV] at h h' <;> first
    | rfl
    | (subst h; cases h'; rfl)
    | (obtain ⟨_, h⟩ := h; obtain ⟨_, e⟩ := h'; rw [h] at e; cases e; rfl)
    | (obtain ⟨_, h⟩ := h; obtain ⟨_, e⟩ := h'; rw [h] at e; cases e; done)
    | (obtain ⟨_, h⟩ := h; rw [h] at h'; cases h'; done)
    | (obtain ⟨_, e⟩ := h'; rw [h] at e; cases e; done)
    | (rw [h] at h'; cases h'; done)
theorem vals_one : ∀ {xs ys : List V} {its : List Value}, Vals xs its → Vals ys its → xs = ys
  | _, _, _, .nil, .nil => rfl
  | _, _, _, .cons h t, .cons h' t' => by rw [relV_one h h', vals_one t t']
/-- what a tuple holds is one list of values; no list is a tuple -/
structure Uq (K : PySem.W.Frag) (H : Hp) : Prop where
  one : ∀ a xs ys, SqT K H a xs → SqT K H a ys → xs = ys
  no : ∀ a us xs, H a = some (.lst us) → SqT K H a xs → False
theorem uq_of {X : Cx} {pins : List (Addr × Obj)} {σ : L2.St} {H : Hp} {s : Shared} (I : L2.Inv X pins σ H s) : Uq X.K H := by
  refine ⟨fun a xs ys h h' => ?_, fun a us xs h h' => ?_⟩
  · obtain ⟨i1, v1, t1, _⟩ := I.tuple h
    obtain ⟨i2, v2, t2, _⟩ := I.tuple h'
    have : i1 = i2 := by
      obtain ⟨o, g1, _, n, d1⟩ := t1
      obtain ⟨o', g2, _, n', d2⟩ := t2
      rw [g1] at g2
      cases g2
      rw [d1] at d2
      cases d2
      rfl
    subst this
    exact vals_one v1 v2
  · obtain ⟨i1, v1, ⟨o, n, g1, c1, _⟩, _⟩ := I.list (SqL.of h)
    obtain ⟨i2, v2, ⟨o', g2, c2, _⟩, _⟩ := I.tuple h'
    rw [g1] at g2
    cases g2
    rw [c1] at c2
    exact absurd (Value.type.inj c2) (by decide)
/-! out of the data, and back -/
def wo (F : Hp) (O : List Addr) : Hp := fun b => if b ∈ O then none else F b
def wi (F : Hp) (O : List Addr) (H : Hp) : Hp := fun b => if b ∈ O then H b else F b
theorem wo_in {F : Hp} {O : List Addr} {b : Addr} (h : b ∈ O) : wo F O b = none := if_pos h
theorem wo_out {F : Hp} {O : List Addr} {b : Addr} (h : b ∉ O) : wo F O b = F b := if_neg h
theorem wi_in {F H : Hp} {O : List Addr} {b : Addr} (h : b ∈ O) : wi F O H b = H b := if_pos h
theorem wi_out {F H : Hp} {O : List Addr} {b : Addr} (h : b ∉ O) : wi F O H b = F b := if_neg h
theorem wo_same (F : Hp) (O : List Addr) : Same (wo F O) F := fun b o h => by
  by_cases e : b ∈ O
  · rw [wo_in e] at h; cases h
  · rw [wo_out e] at h; exact h
section
variable {c : Ctx} {F H : Hp} {O : List Addr} {σ : L2.St} {ρ : DS c.R}
theorem St.lend {sl' : List (Option DV)} (S : St c F [] σ ρ H) (hO : ∀ q ∈ O, F q ≠ none ∧ c.F0 q = none) (hl : sl'.length = ρ.sl.length) (hs : ∀ i : Nat, SlotOk c.K (wo F O) H σ i sl'[i]?) (hown : ∀ (i : Nat) (d : D), sl'[i]? = some (some (DV.own d)) → ρ.sl[i]? = some (some (DV.own d))) :
    St c (wo F O) O σ ⟨ρ.g, sl'⟩ H := by
  have own : ∀ i a, Owns σ sl' i a → Owns σ ρ.sl i a := fun i a ⟨h, d, e⟩ => ⟨h, d, hown i d e⟩
  refine ⟨by rw [S.len]; exact hl.symm, (wo_same F O).trans S.sub, fun b o h => ?_, fun b n e => ?_, S.keep, S.live, hs, fun i a h => ?_, fun i j a h h' => S.inj i j a (own i a h) (own j a h'), fun a ha => ?_, ?_⟩
  · rw [wo_out (fun m => by rw [(hO b m).2] at h; cases h)]
    exact S.old _ _ h
  · refine S.new b (fun z => n ?_) e
    by_cases m : b ∈ O
    · exact wo_in m
    · rw [wo_out m]; exact z
  · obtain ⟨m1, m2, m3⟩ := S.mine i a (own i a h)
    have na : a ∉ O := fun m => (hO a m).1 m1
    exact ⟨by rw [wo_out na]; exact m1, m2, na⟩
  · obtain ⟨q1, q2⟩ := hO a ha
    refine ⟨wo_in ha, S.new a q1 q2, fun z => q1 ?_⟩
    cases e : F a with
    | none => rfl
    | some o => rw [S.sub _ _ e] at z; cases z
  · obtain ⟨Z, r, z1, z2, z3, z4⟩ := S.reg
    refine ⟨Z, r, fun b hb => ?_, z2, fun a ha hz => (hO a ha).1 (z1 a hz), fun i a h => z4 i a (own i a h)⟩
    by_cases m : b ∈ O
    · exact wo_in m
    · rw [wo_out m]; exact z1 b hb
theorem St.retake {sl' : List (Option DV)} (S : St c F O σ ρ H) (hl : sl'.length = ρ.sl.length) (hs : ∀ i : Nat, SlotOk c.K (wi F O H) H σ i sl'[i]?) (hown : ∀ (i : Nat) (d : D), sl'[i]? = some (some (DV.own d)) → ρ.sl[i]? = some (some (DV.own d))) :
    St c (wi F O H) [] σ ⟨ρ.g, sl'⟩ H := by
  have own : ∀ i a, Owns σ sl' i a → Owns σ ρ.sl i a := fun i a ⟨h, d, e⟩ => ⟨h, d, hown i d e⟩
  refine ⟨by rw [S.len]; exact hl.symm, fun b o h => ?_, fun b o h => ?_, fun b n e => ?_, S.keep, S.live, hs, fun i a h => ?_, fun i j a h h' => S.inj i j a (own i a h) (own j a h'), (fun a ha => by cases ha), ?_⟩
  · by_cases m : b ∈ O
    · rw [wi_in m] at h; exact h
    · rw [wi_out m] at h; exact S.sub _ _ h
  · have h' := S.old _ _ h
    rw [wi_out (fun m => by rw [(S.out b m).1] at h'; cases h')]
    exact h'
  · by_cases m : b ∈ O
    · exact (S.out b m).2.1
    · rw [wi_out m] at n; exact S.new b n e
  · obtain ⟨m1, m2, m3⟩ := S.mine i a (own i a h)
    exact ⟨by rw [wi_out m3]; exact m1, m2, by simp⟩
  · obtain ⟨Z, r, z1, z2, z3, z4⟩ := S.reg
    refine ⟨Z, r, fun b hb => ?_, z2, (fun a ha => by cases ha), fun i a h => z4 i a (own i a h)⟩
    rw [wi_out (fun m => z3 b m hb)]
    exact z1 b hb
end
/-! data without lists -/
mutual
def noM : D → Bool
  | .tup xs => noMs xs
  | .ins _ _ xs => noMs xs
  | .dct _ xs => noMs xs
  | .non => true
  | .bl _ => true
  | .int _ => true
  | .str _ => true
  | .raw _ => true
  | _ => false
def noMs : List D → Bool
  | [] => true
  | x :: xs => noM x && noMs xs
end
theorem noMs_iff : ∀ {xs : List D}, noMs xs = true ↔ ∀ x ∈ xs, noM x = true
  | [] => by simp [noMs]
  | x :: xs => by rw [noMs, Bool.and_eq_true, noMs_iff (xs := xs)]; simp
section
variable {K : PySem.W.Frag} {F : Hp} {O : List Addr}
theorem wo_at {b : Addr} {o : HO} (hO : ∀ q ∈ O, ∃ us, F q = some (.lst us)) (h : F b = some o) (n : ∀ us, o ≠ .lst us) : wo F O b = some o := by
  rw [wo_out fun m => ?_]
  · exact h
  · obtain ⟨us, e⟩ := hO b m
    rw [h] at e
    cases e
    exact n us rfl
theorem SqT.wo {a : Addr} {vs : List V} (hO : ∀ q ∈ O, ∃ us, F q = some (.lst us)) (h : SqT K F a vs) : SqT K (wo F O) a vs := by
  rcases h with (h | ⟨o, h⟩) | h
  · exact .inl (.inl (wo_at hO h fun us e => by cases e))
  · exact .inl (.inr ⟨o, wo_at hO h fun us e => by cases e⟩)
  · exact .inr h
mutual
theorem Rep.wo (hO : ∀ q ∈ O, ∃ us, F q = some (.lst us)) : ∀ {v : V} {d : D}, Rep K F v d → noM d = true → Rep K (Q.wo F O) v d
  | _, _, .non, _ => .non
  | _, _, .bl b, _ => .bl b
  | _, _, .int i, _ => .int i
  | _, _, .str x, _ => .str x
  | _, _, .lst _ _, n => by simp [noM] at n
  | _, _, .tup h r, n => .tup (SqT.wo hO h) (Reps.wo hO r (by simpa [noM] using n))
  | _, _, .dK h e r, n => .dK (wo_at hO h fun us e => by cases e) e (Reps.wo hO r (by simpa [noM] using n))
  | _, _, .dT _ _ _, n => by simp [noM] at n
  | _, _, .ins h e r, n => .ins (wo_at hO h fun us e => by cases e) e (Reps.wo hO r (by simpa [noM] using n))
  | _, _, .raw v, _ => .raw v
theorem Reps.wo (hO : ∀ q ∈ O, ∃ us, F q = some (.lst us)) : ∀ {vs : List V} {ds : List D}, Reps K F vs ds → noMs ds = true → Reps K (Q.wo F O) vs ds
  | _, _, .nil, _ => .nil
  | _, _, .cons r rs, n => by
    rw [noMs, Bool.and_eq_true] at n
    exact .cons (Rep.wo hO r n.1) (Reps.wo hO rs n.2)
end
end
end Q

set_option Elab.async false
set_option linter.all false
set_option maxRecDepth 100000
set_option maxHeartbeats 4000000
/-! for x in e, e a fresh list: what is so between the turns may be anything -/
namespace Q
open PySem PySem.Spec PyProof.Rows L2
theorem pi_uq {X : Cx} {tg e : Expr} {te : TE} (he : PE X e te) : PI X tg e (fun σ H R => te σ H fun x H1 => Uq X.K H1 → rWalk X.K x H1 R) :=
  ⟨fun pins s σ H R I q => thn (he.run pins s σ H _ I q) fun v s1 ⟨x, H1, I1, r1, q1⟩ => vi_walk.run pins s1 σ H1 x v R I1 r1 (q1 (uq_of I1))⟩
def tForF (c : Ctx) (k : Nat) (we : WE c.R) (tb : TS) : TS := fun E σ H => ∃ (ρ : DS c.R) (F : Hp) (Kk : D → DS c.R → Prop), St c F [] σ ρ H ∧ we ρ Kk ∧
  ∀ d ρ1 p o F1 H1, Kk d ρ1 → St c F1 [] σ ρ1 H1 → Same F F1 → H1 p = none → ObjD c.K F1 o d → Uq c.K (upd H1 p o) →
    ∃ vs, o = .lst vs ∧ ∃ W : Nat → L2.St → Hp → Prop, W 0 σ (upd H1 p o) ∧ ∀ i σ' H', W i σ' H' → H' p = some (.lst vs) ∧
      (∀ v, vs[i]? = some v → tb { E with nx := W (i + 1), ct := W (i + 1), bk := E.nx } (σ'.set k (some v)) H') ∧ (vs.length ≤ i → E.nx σ' H')
section
variable {X : Cx} {c : Ctx} {iter : Expr} {body : List Stmt} {pa : Bool} {we : WE c.R} {tb : TS} {k : Nat} {x : Str} {p1 pos : Pos}
theorem ps_forF (he : FE X c pa iter we) (hb : PSs X body tb) (hN : X.N.Nodup) (hi : X.N[k]? = some x := by rfl) (hx : Loc X.env.scope x := by first | exact Or.inl rfl | exact Or.inr rfl)
    (hf : X.fn x = true ∨ X.env.scope.names.lookup x = some .local := by first | exact .inl rfl | exact .inr rfl | assumption)
    (hp : PassesOwn (model X.prog X.w) X.A X.env X.xe := by exact PassesOwn.never) (hc : X.calm = true := by rfl) (hsi : ∀ y, foldedSetIterable iter X.env y = pure y := by intro _; rfl) :
    PS X (.For (.Name x p1) iter body [] pos) (tForF c k we tb) := by
  refine (ps_for hp hc (pi_uq he.pe) (pg_name hN hi hx hf) hb hsi).imp fun E σ H ⟨ρ, F, Kk, S, w, next⟩ => ?_
  refine ⟨ρ, F, [], Kk, S, w, fun d ρ1 p o F1 H1 hk S1 fs1 _ _ hp1 ob U => ?_⟩
  rw [he.kk] at U ⊢
  obtain ⟨vs, rfl, W, w0, step⟩ := next d ρ1 p o F1 H1 hk S1 fs1 hp1 ob U
  refine .inl ⟨p, vs, rfl, SqL.of upd_same, ?_⟩
  refine ⟨fun i m σ' H' => W i σ' H' ∧ m = vs.length - i, ⟨_, w0, rfl⟩, ?_⟩
  rintro i m σ' H' ⟨hw, rfl⟩
  obtain ⟨hat, go, stop⟩ := step i σ' H' hw
  cases hv : vs[i]? with
  | none =>
    have hl : vs.length ≤ i := List.getElem?_eq_none_iff.mp hv
    exact .inl ⟨⟨vs, SqL.of hat, hl⟩, stop hl⟩
  | some v =>
    have hl : i < vs.length := (List.getElem?_eq_some_iff.mp hv).1
    refine .inr ⟨⟨vs, v, SqL.of hat, hv⟩, W (i + 1), fun σ2 H2 h2 => ⟨vs.length - (i + 1), by omega, h2, rfl⟩, fun y H2 ⟨e, hy⟩ => ?_⟩
    subst e
    have := hy vs (SqL.of hat)
    rw [hv] at this
    cases this
    exact go v hv
end
end Q

set_option Elab.async false
set_option linter.all false
set_option maxRecDepth 100000
set_option maxHeartbeats 8000000
namespace L03
open PySem PySem.Spec PyProof.Rows L2 Q
theorem St.outs {c : Q.Ctx} {F H : Hp} {O O' : List Addr} {σ : L2.St} {ρ : DS c.R} (S : Q.St c F O σ ρ H) (h : ∀ a ∈ O', a ∈ O) : Q.St c F O' σ ρ H :=
  ⟨S.len, S.sub, S.old, S.new, S.keep, S.live, S.slots, fun i a q => ⟨(S.mine i a q).1, (S.mine i a q).2.1, fun m => (S.mine i a q).2.2 (h a m)⟩, S.inj, fun a m => S.out a (h a m), S.reg.imp fun Z ⟨r, z1, z2, z3, z4⟩ => ⟨r, z1, z2, fun a m => z3 a (h a m), z4⟩⟩
def st3 : Stmt := forB.getD 3 (.Pass ⟨0, 0, 0, 0⟩)
def st4 : Stmt := forB.getD 4 (.Pass ⟨0, 0, 0, 0⟩)
/-! the addresses of values -/
def adr : V → List Addr
  | .ref a => [a]
  | _ => []
def isLs : D → Bool
  | .lst _ => true
  | _ => false
def isTp : D → Bool
  | .tup _ => true
  | _ => false
/-- a list, not too long -/
def Lst (F : Hp) (a : Addr) : Prop := ∃ us, F a = some (.lst us) ∧ us.length ≤ 50
def P2 (r : Addr) (F : Hp) (e : D) : Prop := (∃ a b, e = .tup [.raw (.ref a), .raw (.ref b)] ∧ a ≠ r ∧ b ≠ r ∧ Lst F a ∧ Lst F b) ∨ ∃ x y, e = .lst [.raw x, .raw y]
abbrev slM (a0 st C : Addr) (rs : List D) (i2 : Int) (x4 : Option DV) : List (Option DV) := [some (.fz (.raw (.ref a0))), some (.fz (.raw (.ref st))), some (.fz (.int i2)), some (.fz (.lst rs)), x4, some (.fz (oRules C rs)), none, none, none, none, none, none]
section
variable {K : PySem.W.Frag} {F : Hp} {vs : List V} {ds : List D}
theorem reps_pick {F2 : Hp} {Pe : D → Prop} {Q : D → Prop} (h : ∀ v e, Rep K F v e → Q e → ∃ e2, Rep K F2 v e2 ∧ Pe e2) : ∀ {vs : List V} {es : List D}, Reps K F vs es → (∀ e ∈ es, Q e) → ∃ es2, Reps K F2 vs es2 ∧ (∀ e ∈ es2, Pe e) ∧ es2.length = es.length
  | _, _, .nil, _ => ⟨[], .nil, (fun e h => nomatch h), rfl⟩
  | _, _, .cons r t, q => by
    obtain ⟨e2, r2, p2⟩ := h _ _ r (q _ List.mem_cons_self)
    obtain ⟨es2, rs2, ps2, l2⟩ := reps_pick h t fun e m => q e (List.mem_cons_of_mem _ m)
    refine ⟨e2 :: es2, .cons r2 rs2, fun e m => ?_, by rw [List.length_cons, List.length_cons, l2]⟩
    rcases List.mem_cons.mp m with rfl | m
    · exact p2
    · exact ps2 e m
theorem reps_mem {v : V} : ∀ {vs : List V} {es : List D}, Reps K F vs es → v ∈ vs → ∃ e ∈ es, Rep K F v e
  | _, _, .nil, h => nomatch h
  | _, _, .cons r t, h => by
    rcases List.mem_cons.mp h with rfl | h
    · exact ⟨_, List.mem_cons_self, r⟩
    · obtain ⟨e, m, q⟩ := reps_mem t h
      exact ⟨e, List.mem_cons_of_mem _ m, q⟩
/-- a tuple that begins with a text is none that begins with a tuple -/
theorem tup_ne {H : Hp} (U : Uq K H) (s : Same F H) {v : V} {z : Str} {ts hd ys : List D} (h : Rep K F v (.tup (.str z :: ts))) (h' : Rep K F v (.tup (.tup hd :: ys))) : False := by
  cases h with
  | tup q1 r1 => cases h' with
    | tup q2 r2 =>
      have e := U.one _ _ _ (SqT.same s q1) (SqT.same s q2)
      subst e
      cases r1 with
      | cons a _ => cases r2 with
        | cons b _ => cases a; cases b
theorem tup_ne2 {H : Hp} (U : Uq K H) (s : Same F H) {v : V} {z : Str} {ts hd ys : List D} (h : Rep K F v (.tup (.str z :: ts))) (h' : Rep K F v (.tup (.lst hd :: ys))) : False := by
  cases h with
  | tup q1 r1 => cases h' with
    | tup q2 r2 =>
      have e := U.one _ _ _ (SqT.same s q1) (SqT.same s q2)
      subst e
      cases r1 with
      | cons a _ => cases r2 with
        | cons b _ => cases a; cases b
theorem tup_lst {H : Hp} (U : Uq K H) (s : Same F H) {v : V} {xs ys : List D} (h : Rep K F v (.tup xs)) (h' : Rep K F v (.lst ys)) : False := by
  cases h with
  | tup q1 r1 => cases h' with
    | lst q2 r2 => exact U.no _ _ _ (s _ _ q2) (SqT.same s q1)
/-- the rules' list is none of the handed ones -/
theorem not_r {H : Hp} (U : Uq K H) (s : Same F H) {r : Addr} {vr : List V} {rs xs : List D} (hr : F r = some (.lst vr)) (rr : Reps K F vr rs) (hg : ∀ q ∈ rs, gRule q) (hne : rs ≠ []) {a : Addr} (h : Rep K F (.ref a) (.lst xs))
    (hx : ∃ x0 xr, xs = x0 :: xr ∧ ((∃ z, x0 = .str z) ∨ (∃ z ts, x0 = .tup (.str z :: ts)) ∨ ∃ ys, x0 = .lst ys)) : a ≠ r := by
  rintro rfl
  obtain ⟨x0, xr, rfl, hx⟩ := hx
  cases h with
  | lst q1 r1 =>
    rw [hr] at q1
    cases q1
    obtain ⟨r0, rs0, rfl⟩ := List.exists_cons_of_ne_nil hne
    obtain ⟨hd, body, e, _⟩ := (hg r0 List.mem_cons_self).parts
    subst e
    cases rr with
    | cons b _ => cases r1 with
      | cons c _ =>
        rcases hx with ⟨z, rfl⟩ | ⟨z, ts, rfl⟩ | ⟨ys, rfl⟩
        · cases c; cases b
        · exact tup_ne U s c b
        · exact tup_lst U s b c
end
theorem handP.shape {p q : D} (h : handP p q) : (∃ z ts, q = .tup (.str z :: ts)) ∨ ∃ ys, q = .lst ys := by
  obtain ⟨o, h⟩ := h
  rcases h with rfl | ⟨xs, rfl, rfl⟩ | ⟨xs, rfl, rfl⟩
  · obtain ⟨z, r, rfl⟩ := o.ok.first
    exact .inl ⟨z, r, rfl⟩
  · exact .inr ⟨_, rfl⟩
  · exact .inr ⟨_, rfl⟩
/-- what a handed rule is made of -/
theorem handR.shape {r e : D} (h : handR r e) : (∃ z ts q0 qs, e = .tup [.lst (.str z :: ts), .lst (q0 :: qs)] ∧ (.str z :: ts : List D).length ≤ 3 ∧ (q0 :: qs).length ≤ 6 ∧ ((∃ z ts, q0 = .tup (.str z :: ts)) ∨ ∃ ys, q0 = .lst ys)) ∨ ∃ z ts parts, e = .lst [.tup (.str z :: ts), .tup parts] := by
  obtain ⟨g, hd, body, parts, rfl, hp, he⟩ := h
  obtain ⟨hd', body', e1, oh, ⟨z, ts, rfl, _⟩, lh, ob, nb, lb⟩ := g.parts
  cases e1
  rcases he with rfl | rfl
  · cases hp with
    | nil => exact absurd rfl nb
    | cons h0 t =>
      rename_i q0 _ qs
      refine .inl ⟨z, ts, q0, qs, rfl, lh, ?_, h0.shape⟩
      rw [List.length_cons, ← t.len]
      rw [List.length_cons] at lb
      exact lb
  · exact .inr ⟨z, ts, parts, rfl⟩
theorem noM_tm {t : D} (h : isTm t = true) : noM t = true := by
  cases t <;> first | rfl | (simp [isTm, isTh, isInt, isNm, isLt] at h)
theorem okRow.noM {xs : List D} (h : okRow xs) : noMs xs = true := by
  obtain ⟨z, ts, rfl, h1, h2, h3⟩ := h
  rw [noMs_iff]
  intro x hx
  rcases List.mem_cons.mp hx with rfl | hx
  · rfl
  · exact noM_tm (List.all_eq_true.mp h3 x hx)
theorem okPart.noM {p : D} (h : okPart p) : noM p = true := by
  rcases h with ⟨xs, rfl, o⟩ | ⟨xs, rfl, o⟩ | ⟨a, b, rfl, h1, h2⟩
  · simpa [Q.noM] using o.noM
  · have := o.noM
    simp [Q.noM, noMs, this]
  · simp [Q.noM, noMs, noM_tm h1, noM_tm h2]
theorem okRule.noM {r : D} (h : okRule r) : noM r = true := by
  obtain ⟨hd, body, rfl, orow, ob, lb⟩ := h
  have h1 := orow.noM
  have h2 : noMs body = true := noMs_iff.mpr fun p hp => (ob p hp).noM
  simp [Q.noM, noMs, h1, h2]
theorem rules_noM {rs : List D} (h : ∀ r ∈ rs, gRule r) : noMs rs = true := noMs_iff.mpr fun r hr => (h r hr).ok.noM
theorem made_noM {C : Addr} {rs : List D} (h : ∀ r ∈ rs, gRule r) : noM (oRules C rs) = true := by
  simp [Q.noM, noMs, oRules, rules_noM h]
theorem slot_wo {K : PySem.W.Frag} {F H : Hp} {σ : L2.St} {i : Nat} {d : D} {O : List Addr} (hO : ∀ q ∈ O, ∃ us, F q = some (.lst us)) (h : SlotOk K F H σ i (some (some (.fz d)))) (n : noM d = true) : SlotOk K (wo F O) H σ i (some (some (.fz d))) := by
  obtain ⟨v, h1, h2⟩ := h
  exact ⟨v, h1, Rep.wo hO h2 n⟩
theorem slot_at {K : PySem.W.Frag} {F F' H H' : Hp} {σ σ' : L2.St} {i : Nat} {d : D} (h : SlotOk K F H σ i (some (some (.fz d)))) (e : σ'[i]? = σ[i]?) (s : Same F F') : SlotOk K F' H' σ' i (some (some (.fz d))) := by
  obtain ⟨v, h1, h2⟩ := h
  exact ⟨v, by rw [e]; exact h1, h2.same s⟩
theorem adr_mem {l : Addr} {vs : List V} (h : l ∈ vs.flatMap adr) : V.ref l ∈ vs := by
  obtain ⟨v, hv, hl⟩ := List.mem_flatMap.mp h
  cases v <;> simp only [adr, List.mem_singleton, List.not_mem_nil] at hl
  rw [hl]; exact hv
theorem mem_adr {l : Addr} {vs : List V} (h : V.ref l ∈ vs) : l ∈ vs.flatMap adr := List.mem_flatMap.mpr ⟨_, h, List.mem_singleton.mpr rfl⟩
theorem slM_own {a0 st C : Addr} {rs : List D} {i2 : Int} {x4 : Option DV} (h4 : ∀ d, x4 ≠ some (.own d)) (i : Nat) (d : D) (h : (slM a0 st C rs i2 x4)[i]? = some (some (.own d))) : False := by
  have m := List.mem_of_getElem? h
  simp at m
  exact h4 d m.symm
def In1 (K : PySem.W.Frag) (PC PR : Addr) (H0 : Hp) (Z0 : Addr → Prop) (C st L a0 : Addr) (rs : List D) (n : Nat) (i2 : Int) (σ : L2.St) (H : Hp) : Prop :=
  ∃ F d, St ⟨K, Strm (T2 PC PR), H0, fun _ => none, Z0⟩ F [] σ ⟨(⟨st, L, n⟩ : SG), slM a0 st C rs i2 (some (.fz d))⟩ H ∧ gHand rs d ∧ (∀ r ∈ rs, gRule r) ∧ rs.length ≤ 5
def Md (K : PySem.W.Frag) (PC PR : Addr) (H0 : Hp) (Z0 : Addr → Prop) (C st L a0 : Addr) (rs : List D) (n : Nat) (i2 : Int) (σ : L2.St) (H : Hp) : Prop :=
  ∃ F d es r, St ⟨K, Strm (T2 PC PR), H0, fun _ => none, Z0⟩ F [] σ ⟨(⟨st, L, n⟩ : SG), slM a0 st C rs i2 (some (.fz d))⟩ H ∧ (d = .lst es ∨ d = .tup es) ∧ es.length ≤ 5 ∧ σ[3]? = some (some (.ref r)) ∧ (∃ vr, F r = some (.lst vr) ∧ Reps K F vr rs) ∧ (∀ e ∈ es, P2 r F e) ∧ (∀ r ∈ rs, gRule r) ∧ rs.length ≤ 5
def En (K : PySem.W.Frag) (PC PR : Addr) (H0 : Hp) (Z0 : Addr → Prop) (C st L a0 : Addr) (rs : List D) (n : Nat) (i2 : Int) (σ : L2.St) (H : Hp) : Prop :=
  ∃ F, St ⟨K, Strm (T2 PC PR), H0, fun _ => none, Z0⟩ F [] σ ⟨(⟨st, L, n⟩ : SG), slM a0 st C rs i2 none⟩ H
section
variable {P : Program} {w : World} {K : PySem.W.Frag} {mg : Str → Option Value} {base : Heap} {f : Addr} {C co PC PR st L a0 : Addr} {rs : List D} {n : Nat} {i2 : Int}
theorem loop1 (T : Tx K mg) {A : Around} {outer : List Env} {s : Shared} {H H0 : Hp} {Z0 : Addr → Prop} {E : XK} :
    PS (bodyX P w K mg base N_sc_law "law" s_law f (.ref co) A outer s H E) st3 (fun E' σ H' => In1 K PC PR H0 Z0 C st L a0 rs n i2 σ H' ∧ ∀ σ2 H2, Md K PC PR H0 Z0 C st L a0 rs n i2 σ2 H2 → E'.nx σ2 H2) := by
  refine (ps_forF (c := ⟨K, Strm (T2 PC PR), H0, fun _ => none, Z0⟩) (k := 6) (fe_lc (own := [("_law_rule", 6)]) sc_law.nd (di_seq (de_v (i := 4))) (blkOk_by (own := [("_law_rule", 6)]) (N := N_sc_law) (sc := defScope s_law) (by decide +kernel)) (fun _ _ _ _ _ => (dg_name (i := 6) sc_law.nd)) (fun _ _ _ _ _ => (dts_one (dt_truth (de_is1 T.b_isinstance (TyN.mk (t := .list) (by rfl) T.b_list (by decide +kernel) (by decide) (by decide)) (de_v (i := 6)))))) (fun _ _ _ _ _ => (de_v (i := 6))))
    (pss_one (ps_asg (pe_tup (pa_cons pe_str pa_nil)) (pg_sub (pe_var (i := 6) (by rfl) (by first | exact .inl rfl | exact .inr (.inl rfl) | exact .inr (.inr rfl)) (by decide) (by decide)) pe_int set_list (by intro _; rfl)) (by rfl) (by rfl))) sc_law.nd).imp fun E' σ H' ⟨⟨F, d, S, hd, hg, hl⟩, next⟩ => ?_
  obtain ⟨es, ha, hd⟩ := hd
  have hel := ha.len
  let ρ : DS (Strm (T2 PC PR)) := ⟨(⟨st, L, n⟩ : SG), slM a0 st C rs i2 (some (.fz d))⟩
  refine ⟨ρ, F, fun y ρ1 => y = .lst (es.filter isLs) ∧ ρ1 = ρ, S, ?_, ?_⟩
  · have hsq : seqD d = some es := by rcases hd with rfl | rfl <;> rfl
    refine wLc_filter (ds := es) (f := fun d => d) (p := isLs) (x := none) (fun K k => ⟨_, rfl, es, hsq, k⟩) (by omega) rfl (fun _ h => by cases h) (fun e he K k => ?_) (fun d hd _ K k => ⟨d, rfl, k⟩) _ ?_
    · obtain ⟨r0, hr0, hh⟩ := ha.of_mem he
      rcases hh.shape with ⟨z, ts, q0, qs, rfl, _⟩ | ⟨z, ts, parts, rfl⟩
      · exact ⟨_, rfl, .bl false, by simp [isaD], false, rfl, k⟩
      · exact ⟨_, rfl, .bl true, by simp [isaD], true, rfl, k⟩
    · rw [List.map_id']
      exact ⟨rfl, rfl⟩
  rintro y ρ1 p o F1 H1 ⟨rfl, rfl⟩ S1 fs1 hp1 ob U
  let c : Q.Ctx := ⟨K, Strm (T2 PC PR), H0, fun _ => none, Z0⟩
  have hU : Same F1 (upd H1 p o) := fun b u e => by rw [upd_ne (ne_of_none (S1.sub _ _ e) hp1)]; exact S1.sub _ _ e
  obtain ⟨vs, rfl, rv⟩ : ∃ vs, o = .lst vs ∧ Reps K F1 vs (es.filter isLs) := by
    cases o <;> simp only [ObjD] at ob
    exact ⟨_, rfl, ob⟩
  have s0 := S1.slots 0
  have s1 := S1.slots 1
  have s2 := S1.slots 2
  have s5 := S1.slots 5
  obtain ⟨v3, h3, r3⟩ : SlotOk K F1 H1 σ 3 (some (some (.fz (.lst rs)))) := S1.slots 3
  obtain ⟨v4, h4, r4⟩ : SlotOk K F1 H1 σ 4 (some (some (.fz d))) := S1.slots 4
  obtain ⟨r, rfl, vr, hr, rr⟩ : ∃ r, v3 = .ref r ∧ ∃ vr, F1 r = some (.lst vr) ∧ Reps K F1 vr rs := by
    cases r3 with
    | lst q1 q2 => exact ⟨_, rfl, _, q1, q2⟩
  have hne : ∀ e ∈ es, rs ≠ [] := fun e he z => by
    rw [z] at hel
    have := List.length_pos_of_mem he
    simp at hel
    omega
  have hO1 : ∀ l ∈ vs.flatMap adr, (∃ u w z ts, F1 l = some (.lst [u, w]) ∧ Rep K F1 u (.tup (.str z :: ts))) ∧ l ≠ r := fun l hlm => by
    obtain ⟨e, he, re⟩ := reps_mem rv (adr_mem hlm)
    obtain ⟨he1, he2⟩ := List.mem_filter.mp he
    obtain ⟨r0, hr0, hh⟩ := ha.of_mem he1
    rcases hh.shape with ⟨z, ts, q0, qs, rfl, _⟩ | ⟨z, ts, parts, rfl⟩
    · cases he2
    · refine ⟨?_, not_r U hU hr rr hg (hne _ he1) re ⟨_, _, rfl, .inr (.inl ⟨z, ts, rfl⟩)⟩⟩
      cases re with
      | lst q1 q2 =>
        cases q2 with
        | cons a t => cases t with
          | cons b t2 =>
            cases t2
            exact ⟨_, _, _, _, q1, a⟩
  have hOl : ∀ q ∈ vs.flatMap adr, ∃ us, F1 q = some (.lst us) := fun q hq => by
    obtain ⟨⟨u, w, _, _, h, _⟩, _⟩ := hO1 q hq
    exact ⟨_, h⟩
  have rO : r ∉ vs.flatMap adr := fun m => (hO1 r m).2 rfl
  have sl3 : ∀ {F' : Hp}, Same (wo F1 (vs.flatMap adr)) F' → F' r = some (.lst vr) ∧ Reps K F' vr rs := fun e => ⟨e _ _ (by rw [wo_out rO]; exact hr), (Reps.wo hOl rr (rules_noM hg)).same e⟩
  have S2 : St c (wo F1 (vs.flatMap adr)) (vs.flatMap adr) σ ⟨(⟨st, L, n⟩ : SG), slM a0 st C rs i2 none⟩ H1 := by
    refine S1.lend (sl' := slM a0 st C rs i2 none) (fun q hq => ⟨(by obtain ⟨us, e⟩ := hOl q hq; rw [e]; exact (fun z => by cases z)), rfl⟩) rfl (fun i => ?_) fun i d' h => (slM_own (fun _ z => by cases z) i d' h).elim
    match i with
    | 0 => exact slot_wo hOl s0 rfl
    | 1 => exact slot_wo hOl s1 rfl
    | 2 => exact slot_wo hOl s2 rfl
    | 3 => exact ⟨.ref r, h3, .lst (sl3 (Same.refl _)).1 (sl3 (Same.refl _)).2⟩
    | 4 => trivial
    | 5 => exact slot_wo hOl s5 (made_noM hg)
    | 6 => trivial
    | 7 => trivial
    | 8 => trivial
    | 9 => trivial
    | 10 => trivial
    | 11 => trivial
    | i + 12 => trivial
  have S3 := S2.protect (o := .lst vs) hp1
  have big : 100010 < sizeLine := by rw [sizeLine_eq]; decide
  refine ⟨vs, rfl, fun i σ' H' => ∃ F' x6, St c F' (p :: vs.flatMap adr) σ' ⟨(⟨st, L, n⟩ : SG), (slM a0 st C rs i2 none).set 6 x6⟩ H' ∧ (∀ d, x6 ≠ some (.own d)) ∧ Same (wo F1 (vs.flatMap adr)) F' ∧ σ'[3]? = σ[3]? ∧ σ'[4]? = σ[4]? ∧ H' p = some (.lst vs) ∧ ∀ l ∈ vs.flatMap adr, ∃ u w, H' l = some (.lst [u, w]),
    ⟨_, none, S3, (fun d h => by cases h), Same.refl _, rfl, rfl, upd_same, fun l hl => ?_⟩, ?_⟩
  · obtain ⟨⟨u, w, _, _, h, _⟩, _⟩ := hO1 l hl
    exact ⟨u, w, hU _ _ h⟩
  rintro i σ' H2 ⟨F', x6, S', hx6, fs', e3, e4, hp', hl'⟩
  refine ⟨hp', fun v hv => ?_, fun hle => ?_⟩
  · have hvm := List.mem_of_getElem? hv
    obtain ⟨e, he, re⟩ := reps_mem rv hvm
    obtain ⟨l, rfl⟩ : ∃ l, v = .ref l := by
      have := (List.mem_filter.mp he).2
      cases e <;> simp [isLs] at this
      cases re
      exact ⟨_, rfl⟩
    have hlO := mem_adr hvm
    have hlen : 6 < σ'.length := by rw [S'.len]; show 6 < 12; decide
    have S4 := S'.setF (.raw (.ref l)) 6
    obtain ⟨u, w, hat⟩ := hl' l hlO
    refine ⟨by show 1 ≤ sizeLine; omega, fun q hq => ?_⟩
    have gr : Grow F' H2 F' (upd H2 q (.tup [.str "late"])) := ⟨Same.refl _, fun b u e => by rw [upd_ne (ne_of_none (S'.sub _ _ e) hq)]; exact S'.sub _ _ e, fun b u e => by rw [upd_ne (ne_of_none e hq)]; exact e, fun b h => .inl h⟩
    have S5 := (S4.grow gr).writeO (p := l) (o := .lst [.ref q, w]) (List.mem_cons_of_mem _ hlO)
    have pl : p ≠ l := fun e => by
      have := (S2.out l hlO).2.2
      rw [← e] at this
      exact this hp1
    refine ⟨.ref l, by rw [List.getElem?_set_self hlen], l, [u, w], 0, 0, rfl, rfl, gr.hs _ _ hat, rfl, ?_⟩
    refine ⟨F', some (.fz (.raw (.ref l))), S5, (fun d h => by cases h), fs', by rw [List.getElem?_set_ne (by decide)]; exact e3, by rw [List.getElem?_set_ne (by decide)]; exact e4, ?_, fun l' hl2 => ?_⟩
    · rw [upd_ne pl]
      exact gr.hs _ _ hp'
    · by_cases z : l' = l
      · rw [z, upd_same]
        exact ⟨_, _, rfl⟩
      · rw [upd_ne z]
        obtain ⟨u', w', h⟩ := hl' l' hl2
        exact ⟨u', w', gr.hs _ _ h⟩
  · have S6 := St.outs (O' := vs.flatMap adr) S' fun a m => List.mem_cons_of_mem _ m
    have sF2 : Same F' (wi F' (vs.flatMap adr) H2) := fun b u e => by
      rw [wi_out fun m => by rw [(S6.out b m).1] at e; cases e]
      exact e
    have s2F := fs'.trans sF2
    have lst2 : ∀ {a : Addr} {ua : List V} {xs : List D}, F1 a = some (.lst ua) → Reps K F1 ua xs → xs.length ≤ 50 → Lst (wi F' (vs.flatMap adr) H2) a := fun {a ua xs} q1 q2 q3 => by
      by_cases m : a ∈ vs.flatMap adr
      · obtain ⟨u, w, h⟩ := hl' a m
        exact ⟨[u, w], by rw [wi_in m]; exact h, by show 2 ≤ 50; decide⟩
      · exact ⟨ua, s2F _ _ (by rw [wo_out m]; exact q1), by rw [q2.length]; exact q3⟩
    have pick : ∀ v e, Rep K F1 v e → e ∈ es → ∃ e2, Rep K (wi F' (vs.flatMap adr) H2) v e2 ∧ P2 r (wi F' (vs.flatMap adr) H2) e2 := fun v e re he => by
      obtain ⟨r0, hr0, hh⟩ := ha.of_mem he
      rcases hh.shape with ⟨z, ts, q0, qs, rfl, l1, l2, hq⟩ | ⟨z, ts, parts, rfl⟩
      · cases re with
        | tup q1 q2 =>
          cases q2 with
          | cons ra t => cases t with
            | cons rb t2 =>
              cases t2
              have na := fun a => not_r (a := a) U hU hr rr hg (hne _ he) (xs := .str z :: ts)
              have nb := fun a => not_r (a := a) U hU hr rr hg (hne _ he) (xs := q0 :: qs)
              cases ra with
              | lst a1 a2 => cases rb with
                | lst b1 b2 =>
                  refine ⟨.tup [.raw (.ref _), .raw (.ref _)], .tup (SqT.same s2F (SqT.wo hOl q1)) (.cons (.raw _) (.cons (.raw _) .nil)), .inl ⟨_, _, rfl, na _ (.lst a1 a2) ⟨_, _, rfl, .inl ⟨z, rfl⟩⟩, nb _ (.lst b1 b2) ⟨_, _, rfl, .inr hq⟩, lst2 a1 a2 (by omega), lst2 b1 b2 (by omega)⟩⟩
      · cases re with
        | lst q1 q2 =>
          rename_i l us
          obtain ⟨u, w, rfl⟩ : ∃ u w, us = [u, w] := by
            cases q2 with
            | cons a t => cases t with
              | cons b t2 => cases t2; exact ⟨_, _, rfl⟩
          by_cases m : l ∈ vs.flatMap adr
          · obtain ⟨u', w', h⟩ := hl' l m
            exact ⟨.lst [.raw u', .raw w'], .lst (by rw [wi_in m]; exact h) (.cons (.raw _) (.cons (.raw _) .nil)), .inr ⟨_, _, rfl⟩⟩
          · exact ⟨.lst [.raw u, .raw w], .lst (s2F _ _ (by rw [wo_out m]; exact q1)) (.cons (.raw _) (.cons (.raw _) .nil)), .inr ⟨_, _, rfl⟩⟩
    obtain ⟨es2, d2, hd2, hl2, hp2, r42⟩ : ∃ es2 d2, (d2 = .lst es2 ∨ d2 = .tup es2) ∧ es2.length = es.length ∧ (∀ e ∈ es2, P2 r (wi F' (vs.flatMap adr) H2) e) ∧ Rep K (wi F' (vs.flatMap adr) H2) v4 d2 := by
      rcases hd with rfl | rfl
      · cases r4 with
        | lst q1 q2 =>
          rename_i t vs4
          obtain ⟨es2, k1, k2, k3⟩ := reps_pick pick q2 fun e h => h
          refine ⟨es2, _, .inl rfl, k3, k2, .lst (s2F _ _ ?_) k1⟩
          rw [wo_out fun m => ?_]
          · exact q1
          · obtain ⟨⟨u, w, z, ts, h, ru⟩, _⟩ := hO1 t m
            rw [q1] at h
            cases h
            cases hes : es with
            | nil => rw [hes] at q2; cases q2
            | cons e1 er =>
              have he1 : e1 ∈ es := by rw [hes]; exact List.mem_cons_self
              rw [hes] at q2
              cases q2 with
              | cons re _ =>
                obtain ⟨r0, hr0, hh⟩ := ha.of_mem he1
                rcases hh.shape with ⟨z', ts', q0, qs, rfl, _⟩ | ⟨z', ts', parts, rfl⟩
                · exact tup_ne2 U hU ru re
                · exact tup_lst U hU ru re
      · cases r4 with
        | tup q1 q2 =>
          obtain ⟨es2, k1, k2, k3⟩ := reps_pick pick q2 fun e h => h
          exact ⟨es2, _, .inr rfl, k3, k2, .tup (SqT.same s2F (SqT.wo hOl q1)) k1⟩
    have S7 : St c (wi F' (vs.flatMap adr) H2) [] σ' ⟨(⟨st, L, n⟩ : SG), slM a0 st C rs i2 (some (.fz d2))⟩ H2 := by
      refine S6.retake (sl' := slM a0 st C rs i2 (some (.fz d2))) rfl (fun i => ?_) fun i d' h => (slM_own (fun _ z => by cases z) i d' h).elim
      match i with
      | 0 => exact slot_at (S'.slots 0) rfl sF2
      | 1 => exact slot_at (S'.slots 1) rfl sF2
      | 2 => exact slot_at (S'.slots 2) rfl sF2
      | 3 => exact ⟨.ref r, by rw [e3]; exact h3, .lst (sl3 s2F).1 (sl3 s2F).2⟩
      | 4 => exact ⟨v4, by rw [e4]; exact h4, r42⟩
      | 5 => exact slot_at (S'.slots 5) rfl sF2
      | 6 => trivial
      | 7 => trivial
      | 8 => trivial
      | 9 => trivial
      | 10 => trivial
      | 11 => trivial
      | i + 12 => trivial
    exact next σ' H2 ⟨_, d2, es2, r, S7, hd2, by omega, by rw [e3]; exact h3, ⟨vr, (sl3 s2F).1, (sl3 s2F).2⟩, hp2, hg, hl⟩
end
end L03

set_option Elab.async false
set_option linter.all false
set_option maxRecDepth 100000
set_option maxHeartbeats 8000000
namespace L03
open PySem PySem.Spec PyProof.Rows L2 Q
def adrs : D → List Addr
  | .tup [.raw (.ref a), .raw (.ref b)] => [a, b]
  | _ => []
section
variable {P : Program} {w : World} {K : PySem.W.Frag} {mg : Str → Option Value} {base : Heap} {f : Addr} {C co PC PR st L a0 : Addr} {rs : List D} {n : Nat} {i2 : Int}
theorem loop2 (T : Tx K mg) {A : Around} {outer : List Env} {s : Shared} {H H0 : Hp} {Z0 : Addr → Prop} {E : XK} :
    PS (bodyX P w K mg base N_sc_law "law" s_law f (.ref co) A outer s H E) st4 (fun E' σ H' => Md K PC PR H0 Z0 C st L a0 rs n i2 σ H' ∧ ∀ σ2 H2, En K PC PR H0 Z0 C st L a0 rs n i2 σ2 H2 → E'.nx σ2 H2) := by
  refine (ps_forF (c := ⟨K, Strm (T2 PC PR), H0, fun _ => none, Z0⟩) (k := 6) (fe_lc (own := [("_law_rule", 6)]) sc_law.nd (di_seq (de_v (i := 4))) (blkOk_by (own := [("_law_rule", 6)]) (N := N_sc_law) (sc := defScope s_law) (by decide +kernel)) (fun _ _ _ _ _ => (dg_name (i := 6) sc_law.nd)) (fun _ _ _ _ _ => (dts_one (dt_truth (de_is1 T.b_isinstance (TyN.mk (t := .tuple) (by rfl) T.b_tuple (by decide +kernel) (by decide) (by decide)) (de_v (i := 6)))))) (fun _ _ _ _ _ => (de_v (i := 6))))
    (pss_cons (ps_expr (pe_bm PySem.F.plainAttrs_list PySem.F.slot_list_append PySem.F.type_list_append mt_append (de_ixA (c := ⟨K, Strm (T2 PC PR), H0, fun _ => none, Z0⟩) (de_v (i := 6)) de_int).pe (pa_cons pe_str pa_nil (by rfl)) (by rfl) (by rfl) (by rfl) (by rfl) (by rfl)) (by rfl))
      (pss_one (ps_expr (pe_bm PySem.F.plainAttrs_list PySem.F.slot_list_append PySem.F.type_list_append mt_append (de_ixA (c := ⟨K, Strm (T2 PC PR), H0, fun _ => none, Z0⟩) (de_v (i := 6)) de_int).pe (pa_cons (pe_tup (pa_cons pe_str pa_nil)) pa_nil (by rfl)) (by rfl) (by rfl) (by rfl) (by rfl) (by rfl)) (by rfl)))) sc_law.nd).imp fun E' σ H' ⟨⟨F, d, es, r, S, hd, hel, hr3, ⟨vr, hr, rr⟩, hP, hg, hl⟩, next⟩ => ?_
  let c : Q.Ctx := ⟨K, Strm (T2 PC PR), H0, fun _ => none, Z0⟩
  let ρ : DS (Strm (T2 PC PR)) := ⟨(⟨st, L, n⟩ : SG), slM a0 st C rs i2 (some (.fz d))⟩
  refine ⟨ρ, F, fun y ρ1 => y = .lst (es.filter isTp) ∧ ρ1 = ρ, S, ?_, ?_⟩
  · have hsq : seqD d = some es := by rcases hd with rfl | rfl <;> rfl
    refine wLc_filter (ds := es) (f := fun d => d) (p := isTp) (x := none) (fun K k => ⟨_, rfl, es, hsq, k⟩) (by omega) rfl (fun _ h => by cases h) (fun e he K k => ?_) (fun d hd _ K k => ⟨d, rfl, k⟩) _ ?_
    · rcases hP e he with ⟨a, b, rfl, _⟩ | ⟨x, y, rfl⟩
      · exact ⟨_, rfl, .bl true, by simp [isaD], true, rfl, k⟩
      · exact ⟨_, rfl, .bl false, by simp [isaD], false, rfl, k⟩
    · rw [List.map_id']
      exact ⟨rfl, rfl⟩
  rintro y ρ1 p o F1 H1 ⟨rfl, rfl⟩ S1 fs1 hp1 ob U
  have hU : Same F1 (upd H1 p o) := fun b u e => by rw [upd_ne (ne_of_none (S1.sub _ _ e) hp1)]; exact S1.sub _ _ e
  obtain ⟨vs, rfl, rv⟩ : ∃ vs, o = .lst vs ∧ Reps K F1 vs (es.filter isTp) := by
    cases o <;> simp only [ObjD] at ob
    exact ⟨_, rfl, ob⟩
  have hvl : vs.length ≤ 5 := by
    rw [rv.length]
    exact Nat.le_trans (List.length_filter_le _ _) hel
  let O2 := (es.filter isTp).flatMap adrs
  have hO2 : ∀ q ∈ O2, Lst F1 q ∧ q ≠ r := fun q hq => by
    obtain ⟨e, he, hqe⟩ := List.mem_flatMap.mp hq
    rcases hP e (List.mem_filter.mp he).1 with ⟨a, b, rfl, n1, n2, ⟨ua, q1, q2⟩, ⟨ub, q3, q4⟩⟩ | ⟨x, y, rfl⟩
    · have hqe : q ∈ [a, b] := hqe
      rcases List.mem_cons.mp hqe with rfl | hqe
      · exact ⟨⟨ua, fs1 _ _ q1, q2⟩, n1⟩
      · rw [List.mem_singleton.mp hqe]
        exact ⟨⟨ub, fs1 _ _ q3, q4⟩, n2⟩
    · cases hqe
  have hOl : ∀ q ∈ O2, ∃ us, F1 q = some (.lst us) := fun q hq => by
    obtain ⟨⟨us, h, _⟩, _⟩ := hO2 q hq
    exact ⟨us, h⟩
  have rO : r ∉ O2 := fun m => (hO2 r m).2 rfl
  have s0 := S1.slots 0
  have s1 := S1.slots 1
  have s2 := S1.slots 2
  have s5 := S1.slots 5
  have S2 : St c (wo F1 O2) O2 σ ⟨(⟨st, L, n⟩ : SG), slM a0 st C rs i2 none⟩ H1 := by
    refine S1.lend (sl' := slM a0 st C rs i2 none) (fun q hq => ⟨(by obtain ⟨us, e⟩ := hOl q hq; rw [e]; exact (fun z => by cases z)), rfl⟩) rfl (fun i => ?_) fun i d' h => (slM_own (fun _ z => by cases z) i d' h).elim
    match i with
    | 0 => exact slot_wo hOl s0 rfl
    | 1 => exact slot_wo hOl s1 rfl
    | 2 => exact slot_wo hOl s2 rfl
    | 3 => exact ⟨.ref r, hr3, .lst (by rw [wo_out rO]; exact fs1 _ _ hr) (Reps.wo hOl (rr.same fs1) (rules_noM hg))⟩
    | 4 => trivial
    | 5 => exact slot_wo hOl s5 (made_noM hg)
    | 6 => trivial
    | 7 => trivial
    | 8 => trivial
    | 9 => trivial
    | 10 => trivial
    | 11 => trivial
    | i + 12 => trivial
  have S3 := S2.protect (o := .lst vs) hp1
  have big : 100010 < sizeLine := by rw [sizeLine_eq]; decide
  refine ⟨vs, rfl, fun i σ' H' => ∃ F' x6, St c F' (p :: O2) σ' ⟨(⟨st, L, n⟩ : SG), (slM a0 st C rs i2 none).set 6 x6⟩ H' ∧ (∀ d, x6 ≠ some (.own d)) ∧ Same (wo F1 O2) F' ∧ H' p = some (.lst vs) ∧ i ≤ vs.length ∧ ∀ q ∈ O2, ∃ us, H' q = some (.lst us) ∧ us.length ≤ 50 + 2 * i,
    ⟨_, none, S3, (fun d h => by cases h), Same.refl _, upd_same, Nat.zero_le _, fun q hq => ?_⟩, ?_⟩
  · obtain ⟨⟨us, h, h2⟩, _⟩ := hO2 q hq
    exact ⟨us, hU _ _ h, by omega⟩
  rintro i σ' H2 ⟨F', x6, S', hx6, fs', hp', hil, hl'⟩
  refine ⟨hp', fun v hv => ?_, fun hle => ?_⟩
  · obtain ⟨e, he, re⟩ := reps_mem rv (List.mem_of_getElem? hv)
    have hi1 : i < vs.length := (List.getElem?_eq_some_iff.mp hv).1
    obtain ⟨a, b, rfl⟩ : ∃ a b, e = .tup [.raw (.ref a), .raw (.ref b)] := by
      obtain ⟨h1, h2⟩ := List.mem_filter.mp he
      rcases hP e h1 with ⟨a, b, rfl, _⟩ | ⟨x, y, rfl⟩
      · exact ⟨a, b, rfl⟩
      · cases h2
    have haO : a ∈ O2 := List.mem_flatMap.mpr ⟨_, he, by simp [adrs]⟩
    have hbO : b ∈ O2 := List.mem_flatMap.mpr ⟨_, he, by simp [adrs]⟩
    have S4 := S'.setF ((Rep.wo hOl re rfl).same fs') 6
    let e0 : D := .tup [.raw (.ref a), .raw (.ref b)]
    let ρ4 : DS (Strm (T2 PC PR)) := ⟨(⟨st, L, n⟩ : SG), ((slM a0 st C rs i2 none).set 6 x6).set 6 (some (.fz e0))⟩
    have pne : ∀ {q : Addr}, q ∈ O2 → p ≠ q := fun {q} hq e => by
      have := (S2.out q hq).2.2
      rw [← e] at this
      exact this hp1
    have mO : ∀ {q : Addr}, q ∈ O2 → q ∈ p :: O2 := fun h => List.mem_cons_of_mem _ h
    refine ⟨ρ4, F', p :: O2, fun d ρ1 => d = .raw (.ref a) ∧ ρ1 = ρ4, S4, ⟨_, rfl, .raw (.ref a), rfl, rfl, rfl⟩, fun d ρ' v' F5 H5 ⟨e1, e2⟩ S5 fs5 ko5 _ r5 => ?_⟩
    subst e1 e2
    have r5' : Rep K F5 v' (.raw (.ref a)) := r5
    have hv' : v' = .ref a := by cases r5'; rfl
    subst hv'
    obtain ⟨ua, ha, hal⟩ := hl' a haO
    have ha5 : H5 a = some (.lst ua) := by rw [ko5 a (mO haO)]; exact ha
    refine ⟨.inl ⟨rfl, ua, SqL.of ha5⟩, a, ua, .str "late", rfl, rfl, ha5, by omega, ?_⟩
    have S6 := S5.writeO (p := a) (o := .lst (ua ++ [.str "late"])) (mO haO)
    have l6 : ∀ q ∈ O2, ∃ us, upd H5 a (.lst (ua ++ [.str "late"])) q = some (.lst us) ∧ us.length ≤ 50 + 2 * i + 1 := fun q hq => by
      by_cases z : q = a
      · rw [z, upd_same]
        exact ⟨_, rfl, by simp; omega⟩
      · rw [upd_ne z, ko5 q (mO hq)]
        obtain ⟨us, h1, h2⟩ := hl' q hq
        exact ⟨us, h1, by omega⟩
    have p6 : upd H5 a (.lst (ua ++ [.str "late"])) p = some (.lst vs) := by
      rw [upd_ne (pne haO), ko5 p List.mem_cons_self]
      exact hp'
    refine ⟨ρ4, F5, p :: O2, fun d ρ1 => d = .raw (.ref b) ∧ ρ1 = ρ4, S6, ⟨_, rfl, .raw (.ref b), rfl, rfl, rfl⟩, fun d ρ' v'' F7 H7 ⟨e1, e2⟩ S7 fs7 ko7 _ r7 => ?_⟩
    subst e1 e2
    have r7' : Rep K F7 v'' (.raw (.ref b)) := r7
    have hv'' : v'' = .ref b := by cases r7'; rfl
    subst hv''
    obtain ⟨ub, hb, hbl⟩ := l6 b hbO
    have hb7 : H7 b = some (.lst ub) := by rw [ko7 b (mO hbO)]; exact hb
    refine ⟨.inl ⟨rfl, ub, SqL.of hb7⟩, by show 1 ≤ sizeLine; omega, fun q hq => ?_⟩
    have gr : Grow F7 H7 F7 (upd H7 q (.tup [.str "late"])) := ⟨Same.refl _, fun b u e => by rw [upd_ne (ne_of_none (S7.sub _ _ e) hq)]; exact S7.sub _ _ e, fun b u e => by rw [upd_ne (ne_of_none e hq)]; exact e, fun b h => .inl h⟩
    have S8 := (S7.grow gr).writeO (p := b) (o := .lst (ub ++ [.ref q])) (mO hbO)
    refine ⟨b, ub, .ref q, rfl, rfl, gr.hs _ _ hb7, by omega, ?_⟩
    refine ⟨F7, some (.fz e0), ?_, (fun d h => by cases h), fs'.trans (fs5.trans fs7), ?_, by omega, fun q' hq' => ?_⟩
    · have : ρ4 = ⟨(⟨st, L, n⟩ : SG), (slM a0 st C rs i2 none).set 6 (some (.fz e0))⟩ := rfl
      rw [← this]
      exact S8
    · rw [upd_ne (pne hbO)]
      exact gr.hs _ _ (by rw [ko7 p List.mem_cons_self]; exact p6)
    · by_cases z : q' = b
      · rw [z, upd_same]
        exact ⟨_, rfl, by simp; omega⟩
      · rw [upd_ne z]
        obtain ⟨us, h1, h2⟩ := l6 q' hq'
        exact ⟨us, gr.hs _ _ (by rw [ko7 q' (mO hq')]; exact h1), by omega⟩
  · have S6 := St.outs (O' := []) S' fun a m => by cases m
    refine next σ' H2 ⟨_, S6.lend (O := []) (sl' := slM a0 st C rs i2 none) (fun q hq => nomatch hq) rfl (fun i => ?_) fun i d' h => (slM_own (fun _ z => by cases z) i d' h).elim⟩
    have e : wo F' [] = F' := by funext b; exact wo_out (fun h => nomatch h)
    rw [e]
    match i with
    | 0 => exact S'.slots 0
    | 1 => exact S'.slots 1
    | 2 => exact S'.slots 2
    | 3 => exact S'.slots 3
    | 4 => trivial
    | 5 => exact S'.slots 5
    | 6 => trivial
    | 7 => trivial
    | 8 => trivial
    | 9 => trivial
    | 10 => trivial
    | 11 => trivial
    | i + 12 => trivial
end
end L03

set_option Elab.async false
set_option linter.all false
set_option maxRecDepth 100000
set_option maxHeartbeats 8000000
namespace L03
open PySem PySem.Spec PyProof.Rows L2 Q
/-- the law, its tables empty -/
def spLaw (K : PySem.W.Frag) (PC PR : Addr) : Sp := fun vs H Q _ => ∃ (a : Addr) (ns : List Int), vs = [.ref a] ∧ SqL K H a (ns.map V.int) ∧ ns.length ≤ 63 ∧ H PC = some (.tbl #[]) ∧ H PR = some (.tbl #[]) ∧ ∀ H', Q (.bl true) H'
abbrev slS (a0 st : Addr) : List (Option DV) := [some (.fz (.raw (.ref a0))), some (.fz (.raw (.ref st))), none, none, none, none, none, none, none, none, none, none]
theorem slS_own {a0 st : Addr} (i : Nat) (d : D) (h : (slS a0 st)[i]? = some (some (.own d))) : False := by
  have m := List.mem_of_getElem? h
  simp at m
theorem St.bare {K : PySem.W.Frag} {T : TbL} {H0 : Hp} {Z0 : Addr → Prop} {F H : Hp} {σ : L2.St} {a0 st : Addr} {g : SG} {sl : List (Option DV)} (S : St ⟨K, Strm T, H0, fun _ => none, Z0⟩ F [] σ ⟨g, sl⟩ H) (hl : sl.length = 12) (h0 : sl[0]? = some (some (.fz (.raw (.ref a0))))) (h1 : sl[1]? = some (some (.fz (.raw (.ref st))))) :
    St ⟨K, Strm T, H0, fun _ => none, Z0⟩ F [] σ ⟨g, slS a0 st⟩ H := by
  have e : wo F [] = F := by funext b; exact wo_out (fun h => nomatch h)
  have := S.lend (O := []) (sl' := slS a0 st) (fun q hq => nomatch hq) hl.symm (fun i => ?_) fun i d' h => (slS_own i d' h).elim
  · rw [e] at this
    exact this
  · rw [e]
    have s0 := S.slots 0
    have s1 := S.slots 1
    match i with
    | 0 =>
      have s0 : SlotOk K F H σ 0 sl[0]? := s0
      rw [h0] at s0
      exact s0
    | 1 =>
      have s1 : SlotOk K F H σ 1 sl[1]? := s1
      rw [h1] at s1
      exact s1
    | 2 => trivial
    | 3 => trivial
    | 4 => trivial
    | 5 => trivial
    | 6 => trivial
    | 7 => trivial
    | 8 => trivial
    | 9 => trivial
    | 10 => trivial
    | 11 => trivial
    | i + 12 => trivial
section
variable {P : Program} {w : World} {K : PySem.W.Frag} {mg : Str → Option Value} {base : Heap} {f : Addr} {fd : FuncData} {C CB CE CU CN co PC PR : Addr}
theorem ok_law (F : FnP K "law" "law" s_law f fd) (hco : fd.code = .ref co) (hPP : PC ≠ PR) (T : Tx K mg) (I : IsC K C) (O_ex : ∃ g, PySem.W.findIn K (.ref C) "__eq__" = some (some (.ref g)) ∧ PySem.W.isFn K (.ref g) = true ∧ L2.FnR P w K mg base CX0 1 g (spD K (mEqR C)))
    (O_ne : PySem.W.findIn K (.ref C) "__ne__" = some (some (.builtin "object.__ne__")))
    (M_listed : CalM P w K mg base C "listed" 1 ["self"] (spF K (mOwnR C .lst))) (C_Rules : CalK P w K mg base "Rules" C 10 ["self", "rules"] (mInit CB CE CU C))
    (C__law_start : Cal P w K mg base "_law_start" 1 ["_law_script"] (spStart K)) (C__law_draw : Cal P w K mg base "_law_draw" 1 ["_law_stream", "_law_many"] (spR (Strm (T2 PC PR)) K (mDraw (T2 PC PR)))) (C__law_wild_rule : Cal P w K mg base "_law_wild_rule" 3 ["_law_stream"] (spR (Strm (T2 PC PR)) K (mWild (T2 PC PR))))
    (C__law_handed_rules : Cal P w K mg base "_law_handed_rules" 3 ["_law_stream", "_law_rules"] (spR (Strm (T2 PC PR)) K (mHanded (T2 PC PR))))
    (C__law_told_right : Cal P w K mg base "_law_told_right" 12 ["_law_made", "_law_rules"] (spD K (mTold C))) (C__law_changed_right : Cal P w K mg base "_law_changed_right" 16 ["_law_stream", "_law_made", "_law_rules"] (spR (Strm (T2 PC PR)) K (mChanged (T2 PC PR) C)))
    (C__law_refused_right : Cal P w K mg base "_law_refused_right" 16 ["_law_stream", "_law_rules"] (spR (Strm (T2 PC PR)) K (mRefused (T2 PC PR)))) :
    FnOk P w K mg base CX0 18 f fd ["_law_script"] (spLaw K PC PR) := by
  obtain ⟨oc, od, dV, kV, doc, pm, an, cdv, ct, osl, rfl, lk, hcd, _, _⟩ := F.ex
  have hco : cdv = .ref co := hco
  subst hco
  refine fn_of lk hcd sc_law (fun vs H Q E h => ?_) fun A outer s H vs QQ E hr h => ?_
  · obtain ⟨_, _, rfl, _⟩ := h
    rfl
  · obtain ⟨a, ns, rfl, hS, hl, hT1, hT2, k⟩ := h
    let Z0 : Addr → Prop := fun b => b = PC ∨ b = PR
    let c : Q.Ctx := ⟨K, Strm (T2 PC PR), H, fun _ => none, Z0⟩
    obtain ⟨w', hw, run⟩ := law_b (co := co) (f := f) (H0 := H) (F0 := fun _ => none) (Z0 := Z0) T I O_ex O_ne M_listed C_Rules C__law_told_right C__law_changed_right C__law_refused_right (A := A) (outer := outer) (s := s) (H := H) (E := E) hr
    refine ⟨_, PSs.nox (pss_cons (ps_set (i := 1) sc_law.nd rfl (by first | exact Or.inl rfl | exact Or.inr rfl) (pe_cal C__law_start hr (pa_cons (pv 0) pa_nil)))
      (pss_cons (ps_for PassesOwn.never rfl (pi_range1 (by rfl) T.b_range (pa_cons pe_int pa_nil)) (pg_name (i := 2) sc_law.nd rfl (by first | exact Or.inl rfl | exact Or.inr rfl))
        (pss_cons (DS1.ps (c := c) (fr := false) (ds_setP (i := 3) (ps_lc (own := [("_law_k", 8)]) sc_law.nd (di_rng T.b_range (de_callR C__law_draw hr (da_cons (de_v (i := 1)) (da_cons de_int da_nil)))) (blkOk_by (own := [("_law_k", 8)]) (N := N_sc_law) (sc := defScope s_law) (by decide +kernel)) (fun _ _ _ _ _ => (dg_name (i := 8) sc_law.nd)) (fun _ _ _ _ _ => dts_nil) (fun _ _ _ _ _ => (de_callR C__law_wild_rule hr (da_cons (de_v (i := 1)) da_nil))) (sw_true rfl rfl rfl (by decide +kernel)))))
        (pss_cons (DS1.ps (c := c) (fr := false) (ds_set (i := 4) sc_law.nd (de_callR C__law_handed_rules hr (da_cons (de_v (i := 1)) (da_cons (de_v (i := 3)) da_nil)))))
        (pss_cons (DS1.ps (c := c) (fr := false) (ds_set (i := 5) sc_law.nd (DX.de (dx_make C_Rules passF hr (da_cons (de_v (i := 4)) da_nil)))))
        (pss_cons (t := fun E' σ H' => ∃ (rs : List D) (st L a0 : Addr) (n : Nat) (i2 : Int), In1 K PC PR H Z0 C st L a0 rs n i2 σ H' ∧ ∀ σ2 H2, Md K PC PR H Z0 C st L a0 rs n i2 σ2 H2 → E'.nx σ2 H2) ⟨fun pins s σ H' D I ⟨rs, st, L, a0, n, i2, h⟩ => (loop1 (rs := rs) (st := st) (L := L) (a0 := a0) (n := n) (i2 := i2) (C := C) T).run pins s σ H' D I h⟩
        (pss_cons (t := fun E' σ H' => ∃ (rs : List D) (st L a0 : Addr) (n : Nat) (i2 : Int), Md K PC PR H Z0 C st L a0 rs n i2 σ H' ∧ ∀ σ2 H2, En K PC PR H Z0 C st L a0 rs n i2 σ2 H2 → E'.nx σ2 H2) ⟨fun pins s σ H' D I ⟨rs, st, L, a0, n, i2, h⟩ => (loop2 (rs := rs) (st := st) (L := L) (a0 := a0) (n := n) (i2 := i2) (C := C) T).run pins s σ H' D I h⟩
          hw.ps)))))) (pss_one (ps_ret pe_bl)))), ?_⟩
    refine ⟨_, rfl, a, ns, rfl, hS, hl, fun H' st L e sm hst hL => ?_⟩
    have t1 : H' PC = some (.tbl #[]) := (dat_sub (e _ _ hT1)).1
    have t2 : H' PR = some (.tbl #[]) := (dat_sub (e _ _ hT2)).1
    have keep : ∀ b o, H b = some o → H' b = some o := fun b o q => (dat_sub (e _ _ q)).1
    obtain ⟨ne, cell, n0, seed, cs, h1, h2, _⟩ := id sm
    have okT : ∀ p ∈ T2 PC PR, H' p.1 = some (.tbl #[]) := fun p hp => by
      rcases List.mem_cons.mp hp with rfl | hp
      · exact t1
      · rw [List.mem_singleton.mp hp]; exact t2
    have ok : SmOk (T2 PC PR) ⟨st, L, 0⟩ (fun b => Z0 b ∨ b = st ∨ b = L) H' := by
      refine ⟨sm, .inr (.inl rfl), .inr (.inr rfl), fun p hp => ⟨#[], okT p hp, by simp [TriplesOk], fun pos cv am => by simp [codeAmong] at am⟩, fun p hp => ?_, fun p hp ps pos d q am => ?_, fun b hb => ?_⟩
      · rcases List.mem_cons.mp hp with rfl | hp
        · exact .inl (.inl rfl)
        · rw [List.mem_singleton.mp hp]; exact .inl (.inr rfl)
      · have := okT p hp
        rw [q] at this
        cases this
        simp [codeAmong] at am
      · rcases hb with (rfl | rfl) | rfl | rfl
        · rw [t1]; exact fun z => by cases z
        · rw [t2]; exact fun z => by cases z
        · rw [h1]; exact fun z => by cases z
        · rw [h2]; exact fun z => by cases z
    have noOwn : ∀ σ i b, ¬ Owns σ (slS a st) i b := fun σ i b ⟨_, d, q⟩ => slS_own i d q
    have S : St c (fun _ => none) [] ((L2.start N_sc_law [.ref a]).set 1 (some (.ref st))) ⟨(⟨st, L, 0⟩ : SG), slS a st⟩ H' := by
      refine ⟨rfl, (fun b o q => by cases q), (fun b o q => by cases q), fun b n => absurd rfl n, fun b o q _ => keep b o q, fun b n => ?_, fun i => ?_, fun i b h => absurd h (noOwn _ i b), fun i j b h => absurd h (noOwn _ i b), (fun b h => by cases h), ⟨_, ok, fun b _ => rfl, fun b hb n => ?_, (fun b h => by cases h), fun i b h => absurd h (noOwn _ i b)⟩⟩
      · cases q : H b with
        | none => exact absurd q n
        | some o => rw [keep b o q]; exact fun z => by cases z
      · match i with
        | 0 => exact ⟨.ref a, rfl, .raw _⟩
        | 1 => exact ⟨.ref st, rfl, .raw _⟩
        | 2 => trivial
        | 3 => trivial
        | 4 => trivial
        | 5 => trivial
        | 6 => trivial
        | 7 => trivial
        | 8 => trivial
        | 9 => trivial
        | 10 => trivial
        | 11 => trivial
        | i + 12 => trivial
      · rcases hb with hb | rfl | rfl
        · exact absurd hb n
        · exact hst
        · exact hL
    refine ⟨3, rfl, by decide, by decide, fun i m σ' H2 => m = 3 - i ∧ i ≤ 3 ∧ ∃ F n, St c F [] σ' ⟨(⟨st, L, n⟩ : SG), slS a st⟩ H2 ∧ n ≤ 2000 * i, ⟨3, rfl, Nat.zero_le _, _, 0, S, Nat.le_refl _⟩, ?_⟩
    rintro i m σ' H2 ⟨rfl, hi, F2, n, S2, hn⟩
    by_cases hlt : i < 3
    · refine .inr ⟨hlt, fun σ3 H3 => ∃ F n, St c F [] σ3 ⟨(⟨st, L, n⟩ : SG), slS a st⟩ H3 ∧ n ≤ 2000 * (i + 1), fun σ3 H3 h => ⟨3 - (i + 1), by omega, rfl, hlt, h⟩, fun y H3 ⟨e1, ey⟩ => ?_⟩
      subst e1 ey
      have S3 := S2.setF (.int (0 + (i : Nat))) 2
      let i2 : Int := 0 + (i : Nat)
      let mk : Nat → Option DV → Option DV → DS (Strm (T2 PC PR)) := fun n x3 x4 => ⟨(⟨st, L, n⟩ : SG), [some (.fz (.raw (.ref a))), some (.fz (.raw (.ref st))), some (.fz (.int i2)), x3, x4, none, none, none, none, none, none, none]⟩
      refine ⟨mk n none none, F2, { nx := fun ρ1 => ∃ rs n', (∀ r ∈ rs, gRule r) ∧ rs.length ≤ 5 ∧ n' ≤ n + 400 ∧ ρ1 = mk n' (some (.fz (.lst rs))) none, rt := fun _ _ => False }, S3, ?_, fun ρ1 σ4 F4 H4 ⟨rs, n4, hg, hrl, hn4, e4⟩ S4 fs4 => ?_, (fun _ _ _ _ h => h.elim), (fun _ _ _ _ h => h.elim), fun _ _ h => h.elim⟩
      · refine ⟨_, rfl, 6, rfl, by show n ≤ _; omega, by decide, by decide, fun m m0 m6 => ⟨m, rfl, by omega, by omega, ?_⟩⟩
        refine ⟨by simp [rngD]; omega, fun j mm d' q => ?_, ?_⟩
        · have e : j = 8 := by simpa using mm
          subst e
          cases q
        refine lcGo_ind (fun rest acc ρ => ∃ c', acc.length + rest.length ≤ 5 ∧ (∀ r ∈ acc, gRule r) ∧ c' ≤ n + 1 + 60 * acc.length ∧ ρ = mk c' none none) ?_ ?_ _ _ _ ⟨n + 1, by simp [rngD]; omega, by simp, by simp, rfl⟩
        · rintro d rest acc N ρ hN ⟨c', h2, hacc, hc', rfl⟩
          rw [List.length_cons] at h2
          refine ⟨_, rfl, rfl, by show c' ≤ _; omega, fun r c2 hr h3 => ?_⟩
          have h3 : c2 ≤ c' + 60 := h3
          refine hN _ _ ⟨c2, by simp; omega, fun q hq => ?_, by simp; omega, rfl⟩
          rcases List.mem_append.mp hq with h | h
          · exact hacc q h
          · rw [List.mem_singleton.mp h]; exact hr
        · rintro acc ρ ⟨c', h2, hacc, hc', rfl⟩
          have h2 : acc.length ≤ 5 := by simpa using h2
          exact ⟨acc, c', hacc, h2, by omega, rfl⟩
      subst e4
      refine ⟨mk n4 (some (.fz (.lst rs))) none, F4, { nx := fun ρ1 => ∃ d n', gHand rs d ∧ n' ≤ n4 + 60 ∧ ρ1 = mk n' (some (.fz (.lst rs))) (some (.fz d)), rt := fun _ _ => False }, S4, ?_, fun ρ1 σ5 F5 H5 ⟨d, n5, hd, hn5, e5⟩ S5 fs5 => ?_, (fun _ _ _ _ h => h.elim), (fun _ _ _ _ h => h.elim), fun _ _ h => h.elim⟩
      · exact ⟨_, rfl, _, rfl, rs, rfl, hrl, hg, by show n4 ≤ _; omega, fun d c' hd hc' => ⟨d, c', hd, hc', rfl⟩⟩
      subst e5
      have hsafe : ∀ r ∈ rs, safeR r := fun r hr => (hg r hr).safe
      refine ⟨mk n5 (some (.fz (.lst rs))) (some (.fz d)), F5, { nx := fun ρ1 => ρ1 = ⟨(⟨st, L, n5⟩ : SG), slM a st C rs i2 (some (.fz d))⟩, rt := fun _ _ => False }, S5, ?_, fun ρ1 σ6 F6 H6 e6 S6 fs6 => ?_, (fun _ _ _ _ h => h.elim), (fun _ _ _ _ h => h.elim), fun _ _ h => h.elim⟩
      · obtain ⟨es, ha, hde⟩ := id hd
        have hsq : sqOf d = some es := by rcases hde with rfl | rfl <;> rfl
        refine ⟨_, rfl, ?_⟩
        refine wNil_k ?_
        refine init_told (rs := rs) hsq (ha.map_eq fun _ _ h => h.norm) (fun t ht => ?_) (fun t ht => ?_) (by rw [← ha.len]; omega) hsafe rfl
        · obtain ⟨r, _, hh⟩ := ha.of_mem ht
          exact hh.tm
        · obtain ⟨r, _, hh⟩ := ha.of_mem ht
          exact hh.small
      have e6 : ρ1 = ⟨(⟨st, L, n5⟩ : SG), slM a st C rs i2 (some (.fz d))⟩ := e6
      subst e6
      refine ⟨rs, st, L, a, n5, i2, ⟨F6, d, S6, hd, hg, hrl⟩, fun σ7 H7 hM => ?_⟩
      refine ⟨rs, st, L, a, n5, i2, hM, fun σ8 H8 ⟨F8, S8⟩ => ?_⟩
      refine ⟨mkL C PC PR st L a rs n5 (some (.fz (.int i2))) none none none, F8, { nx := fun ρ1 => ∃ c' x7, c' ≤ n5 + 400 ∧ ρ1 = mkL C PC PR st L a rs c' (some (.fz (.int i2))) none none x7, rt := fun _ _ => False }, S8, run _ st L a rs n5 _ _ _ _ hg hrl (by omega) (fun c' x7 hc' => ⟨c', x7, hc', rfl⟩), fun ρ1 σ9 F9 H9 ⟨c9, x9, hc9, e9⟩ S9 fs9 => ?_, (fun _ _ _ _ h => h.elim), (fun _ _ _ _ h => h.elim), fun _ _ h => h.elim⟩
      subst e9
      exact ⟨F9, c9, St.bare S9 rfl rfl rfl, by omega⟩
    · refine .inl ⟨?_, k _⟩
      show 3 ≤ i
      omega
end
end L03

set_option Elab.async false
set_option linter.all false
set_option maxRecDepth 100000
set_option maxHeartbeats 4000000
namespace L03
open PySem PySem.Spec PyProof.Rows L2 Q
/-! the inits of the errors -/
def spEx1 (C : Addr) (m : Str) : Sp := fun vs H Q _ => ∃ a v, vs = [.ref a, v] ∧ H a = some (exo a C none) ∧ ∀ d, H d = none → d ≠ a → Q .non (upd (upd H d (exd d [(m, v)])) a (exo a C (some d)))
def spEx2 (C : Addr) (m1 m2 : Str) : Sp := fun vs H Q _ => ∃ a v u, vs = [.ref a, v, u] ∧ H a = some (exo a C none) ∧ ∀ d, H d = none → d ≠ a → Q .non (upd (upd H d (exd d [(m2, u), (m1, v)])) a (exo a C (some d)))
section
variable {P : Program} {w : World} {K : PySem.W.Frag} {mg : Str → Option Value} {base : Heap} {f : Addr} {fd : FuncData} {C : Addr}
theorem two_upd {H : Hp} {d a : Addr} {x y z : HO} (nd : d ≠ a) : upd (upd (upd H d x) a z) d y = upd (upd H d y) a z := by
  funext b
  by_cases e : b = d
  · rw [e, upd_same, upd_ne nd, upd_same]
  · rw [upd_ne e]
    by_cases i : b = a
    · rw [i, upd_same, upd_same]
    · rw [upd_ne i, upd_ne i, upd_ne e, upd_ne e]
-- BadRule.__init__: slots 0 self, 1 index
abbrev s_BadRule___init__ : Stmt := (inClass (top 2) 0)
abbrev N_sc_BadRule___init__ : List Str := ["self", "index"]
theorem sc_BadRule___init__ : FnScope N_sc_BadRule___init__ ["self", "index"] (defScope s_BadRule___init__) := ⟨rfl, rfl, rfl, by decide +kernel, rfl, by decide +kernel, by decide +kernel⟩
theorem ok_BadRule_init (F : FnP K "__init__" "BadRule.__init__" s_BadRule___init__ f fd) (O : OexC K C) (n1 : PySem.W.findIn K (.ref C) "index" = some none) : FnOk P w K mg base CX0 1 f fd ["self", "index"] (spEx1 C "index") := by
  refine F.ok sc_BadRule___init__ (fun vs H Q E h => ?_) (fun cdv A outer s H vs Q E hr h => ?_)
  · obtain ⟨_, _, rfl, _⟩ := h
    rfl
  · obtain ⟨a, v, rfl, ha, k⟩ := h
    exact ⟨_, PSs.nox (pss_one (ps_ost (pv 0) (pv 1))), _, rfl, _, rfl, a, C, rfl, O, n1, .inl ⟨ha, fun d hd nd => k d hd nd⟩⟩
-- NoRule.__init__: slots 0 self, 1 number
abbrev s_NoRule___init__ : Stmt := (inClass (top 3) 0)
abbrev N_sc_NoRule___init__ : List Str := ["self", "number"]
theorem sc_NoRule___init__ : FnScope N_sc_NoRule___init__ ["self", "number"] (defScope s_NoRule___init__) := ⟨rfl, rfl, rfl, by decide +kernel, rfl, by decide +kernel, by decide +kernel⟩
theorem ok_NoRule_init (F : FnP K "__init__" "NoRule.__init__" s_NoRule___init__ f fd) (O : OexC K C) (n1 : PySem.W.findIn K (.ref C) "number" = some none) : FnOk P w K mg base CX0 1 f fd ["self", "number"] (spEx1 C "number") := by
  refine F.ok sc_NoRule___init__ (fun vs H Q E h => ?_) (fun cdv A outer s H vs Q E hr h => ?_)
  · obtain ⟨_, _, rfl, _⟩ := h
    rfl
  · obtain ⟨a, v, rfl, ha, k⟩ := h
    exact ⟨_, PSs.nox (pss_one (ps_ost (pv 0) (pv 1))), _, rfl, _, rfl, a, C, rfl, O, n1, .inl ⟨ha, fun d hd nd => k d hd nd⟩⟩
-- Uneven.__init__: slots 0 self, 1 index, 2 relation
abbrev s_Uneven___init__ : Stmt := (inClass (top 4) 0)
abbrev N_sc_Uneven___init__ : List Str := ["self", "index", "relation"]
theorem sc_Uneven___init__ : FnScope N_sc_Uneven___init__ ["self", "index", "relation"] (defScope s_Uneven___init__) := ⟨rfl, rfl, rfl, by decide +kernel, rfl, by decide +kernel, by decide +kernel⟩
theorem ok_Uneven_init (F : FnP K "__init__" "Uneven.__init__" s_Uneven___init__ f fd) (O : OexC K C) (n1 : PySem.W.findIn K (.ref C) "index" = some none) (n2 : PySem.W.findIn K (.ref C) "relation" = some none) : FnOk P w K mg base CX0 1 f fd ["self", "index", "relation"] (spEx2 C "index" "relation") := by
  refine F.ok sc_Uneven___init__ (fun vs H Q E h => ?_) (fun cdv A outer s H vs Q E hr h => ?_)
  · obtain ⟨_, _, _, rfl, _⟩ := h
    rfl
  · obtain ⟨a, v, u, rfl, ha, k⟩ := h
    refine ⟨_, PSs.nox (pss_cons (ps_ost (pv 0) (pv 1)) (pss_one (ps_ost (pv 0) (pv 2)))), _, rfl, _, rfl, a, C, rfl, O, n1, .inl ⟨ha, fun d hd nd => ?_⟩⟩
    refine ⟨_, rfl, _, rfl, a, C, rfl, O, n2, .inr ⟨d, [("index", v)], upd_same, by rw [upd_ne nd, upd_same], by simp, ?_⟩⟩
    show Q _ (upd _ _ _)
    rw [two_upd nd]
    exact k d hd nd
-- Unsafe.__init__: slots 0 self, 1 index, 2 letter
abbrev s_Unsafe___init__ : Stmt := (inClass (top 5) 0)
abbrev N_sc_Unsafe___init__ : List Str := ["self", "index", "letter"]
theorem sc_Unsafe___init__ : FnScope N_sc_Unsafe___init__ ["self", "index", "letter"] (defScope s_Unsafe___init__) := ⟨rfl, rfl, rfl, by decide +kernel, rfl, by decide +kernel, by decide +kernel⟩
theorem ok_Unsafe_init (F : FnP K "__init__" "Unsafe.__init__" s_Unsafe___init__ f fd) (O : OexC K C) (n1 : PySem.W.findIn K (.ref C) "index" = some none) (n2 : PySem.W.findIn K (.ref C) "letter" = some none) : FnOk P w K mg base CX0 1 f fd ["self", "index", "letter"] (spEx2 C "index" "letter") := by
  refine F.ok sc_Unsafe___init__ (fun vs H Q E h => ?_) (fun cdv A outer s H vs Q E hr h => ?_)
  · obtain ⟨_, _, _, rfl, _⟩ := h
    rfl
  · obtain ⟨a, v, u, rfl, ha, k⟩ := h
    refine ⟨_, PSs.nox (pss_cons (ps_ost (pv 0) (pv 1)) (pss_one (ps_ost (pv 0) (pv 2)))), _, rfl, _, rfl, a, C, rfl, O, n1, .inl ⟨ha, fun d hd nd => ?_⟩⟩
    refine ⟨_, rfl, _, rfl, a, C, rfl, O, n2, .inr ⟨d, [("index", v)], upd_same, by rw [upd_ne nd, upd_same], by simp, ?_⟩⟩
    show Q _ (upd _ _ _)
    rw [two_upd nd]
    exact k d hd nd
theorem ex1 {x m : Str} (O : OexC K C) (hm : mg x = some (.ref C)) (h1 : PySem.W.findIn K (.ref C) "__init__" = some (some (.ref f))) (h2 : PySem.W.typeIn K (.ref f) = some (.type "function")) (G : FnOk P w K mg base CX0 1 f fd ["self", m] (spEx1 C m)) (hb : Binds K fd ["self", m] []) : ExCl P w K mg base x C 1 [m] :=
  ⟨O, hm, f, fd, _, _, h1, h2, G, hb, fun a us H Q hl ha k => by
    match us, hl with
    | [v], _ => exact ⟨a, v, rfl, ha, k⟩⟩
theorem ex2 {x m1 m2 : Str} (O : OexC K C) (hm : mg x = some (.ref C)) (h1 : PySem.W.findIn K (.ref C) "__init__" = some (some (.ref f))) (h2 : PySem.W.typeIn K (.ref f) = some (.type "function")) (G : FnOk P w K mg base CX0 1 f fd ["self", m1, m2] (spEx2 C m1 m2)) (hb : Binds K fd ["self", m1, m2] []) : ExCl P w K mg base x C 1 [m1, m2] :=
  ⟨O, hm, f, fd, _, _, h1, h2, G, hb, fun a us H Q hl ha k => by
    match us, hl with
    | [v, u], _ => exact ⟨a, v, u, rfl, ha, k⟩⟩
end
end L03

set_option Elab.async false
set_option linter.all false
set_option maxRecDepth 100000
set_option maxHeartbeats 4000000
namespace L03
open PySem PySem.Spec PyProof.Rows L2 Q
/-! facts of the top, by names -/
theorem gld_str {K : PySem.W.Frag} {mg : Str → Option Value} {x z : Str} (h : ∃ t, mg x = some (.str z t)) : GlD K mg x (.str z) := by
  obtain ⟨t, e⟩ := h
  exact ⟨_, .str z, e, ⟨t, rfl⟩, fun F => .str z⟩
theorem gld_int {K : PySem.W.Frag} {mg : Str → Option Value} {x : Str} {i : Int} (h : ∃ t, mg x = some (.int i t)) : GlD K mg x (.int i) := by
  obtain ⟨t, e⟩ := h
  exact ⟨_, .int i, e, ⟨t, rfl⟩, fun F => .int i⟩
theorem reps_strs {K : PySem.W.Frag} {F : Hp} : ∀ zs : List Str, Reps K F (zs.map V.str) (zs.map D.str)
  | [] => .nil
  | z :: zs => .cons (.str z) (reps_strs zs)
theorem gld_tup {K : PySem.W.Frag} {mg : Str → Option Value} {x : Str} {a : Addr} {zs : List Str} (e : mg x = some (.ref a)) (h : ∀ H, SqT K H a (zs.map V.str)) : GlD K mg x (.tup (zs.map .str)) :=
  ⟨_, .ref a, e, rfl, fun F => .tup (h F) (reps_strs zs)⟩
/-- an error class, as it lies there -/
def errB (K : PySem.W.Frag) (C : Addr) : Bool := (match K.lookup C with
  | some ⟨.type k, _, .cls d, sl⟩ => decide (k = "type") && (match d.mro, sl.toList with
    | .ref C1 :: up, [_, _, _, _, some (.builtin mk), _] => decide (C1 = C) && (decide (mk = "ValueError.__new__") && (!d.hasDel && (d.hasDict && PySem.HandSPX.refsVE up)))
    | _, _ => false)
  | _ => false) && (decide (PySem.W.findIn K (.ref C) "__setattr__" = some (some (.builtin "object.__setattr__"))) && (decide (PySem.W.subIn K (.ref C) (.type "BaseException") = some true) && (decide (PySem.W.typeIn K (.ref C) = some (.type "type")) && PySem.W.keepIn K (.ref C))))
theorem errB_ok {K : PySem.W.Frag} {C : Addr} (b : errB K C = true) : OexC K C := by
  obtain ⟨b1, b⟩ := Bool.and_eq_true_iff.mp b
  obtain ⟨b2, b⟩ := Bool.and_eq_true_iff.mp b
  obtain ⟨b3, b⟩ := Bool.and_eq_true_iff.mp b
  obtain ⟨b4, b5⟩ := Bool.and_eq_true_iff.mp b
  refine ⟨?_, of_decide_eq_true b2, of_decide_eq_true b3, of_decide_eq_true b4, b5⟩
  split at b1
  · rename_i k dd d sl at_
    obtain ⟨e1, b1⟩ := Bool.and_eq_true_iff.mp b1
    have e1 := of_decide_eq_true e1
    subst e1
    split at b1
    · rename_i C1 up k0 k1 k2 k3 mk k5 hm hs
      simp only [Bool.and_eq_true, decide_eq_true_eq, Bool.not_eq_true'] at b1
      obtain ⟨_, rfl, rfl, hdel, hdict, hv⟩ := b1
      obtain ⟨nm, bs, mro, ns, qn, hd, sn, sub, ab, col, del⟩ := d
      dsimp only at hm hdel hdict
      subst hm hdel hdict
      have hsl : sl = #[k0, k1, k2, k3, some (.builtin "ValueError.__new__"), k5] := by
        obtain ⟨l⟩ := sl
        simp only at hs
        rw [hs]
      subst hsl
      exact ⟨nm, qn, ns, bs, up, sn, sub, ab, col, dd, k0, k1, k2, k3, k5, at_, hv⟩
    · cases b1
  · cases b1
def allTy : List Ty := [.non, .bool, .int, .str, .list, .tuple, .dict]
theorem allTy_mem (t : Ty) : t ∈ allTy := by cases t <;> decide

/-- what more one wants of the classes, the tables and the tuples -/
def extra (K : PySem.W.Frag) : Bool := (He.tupB K "BARRED_NAMES" [.str "not", .str "unlike", .str "if"] && (errB K (He.ga K "BadRule") && (errB K (He.ga K "Uneven") && (errB K (He.ga K "Unsafe") && (errB K (He.ga K "NoRule") && (xfB K (He.ga K "BadRule") && (xfB K (He.ga K "Uneven") && (xfB K (He.ga K "Unsafe") && (xfB K (He.ga K "NoRule") && (decide ((He.ga K "BadRule") ≠ (He.ga K "Uneven")) && (decide ((He.ga K "BadRule") ≠ (He.ga K "Unsafe")) && (decide ((He.ga K "BadRule") ≠ (He.ga K "NoRule")) && (decide ((He.ga K "Uneven") ≠ (He.ga K "Unsafe")) && (decide ((He.ga K "Uneven") ≠ (He.ga K "NoRule")) && (decide ((He.ga K "Unsafe") ≠ (He.ga K "NoRule")) && (decide (PySem.W.findIn K (.ref (He.ga K "BadRule")) "__init__" = some (some (.ref (He.ma K (He.ga K "BadRule") "__init__")))) && (decide (PySem.W.typeIn K (.ref (He.ma K (He.ga K "BadRule") "__init__")) = some (.type "function")) && (decide (PySem.W.findIn K (.ref (He.ga K "Uneven")) "__init__" = some (some (.ref (He.ma K (He.ga K "Uneven") "__init__")))) && (decide (PySem.W.typeIn K (.ref (He.ma K (He.ga K "Uneven") "__init__")) = some (.type "function")) && (decide (PySem.W.findIn K (.ref (He.ga K "Unsafe")) "__init__" = some (some (.ref (He.ma K (He.ga K "Unsafe") "__init__")))) && (decide (PySem.W.typeIn K (.ref (He.ma K (He.ga K "Unsafe") "__init__")) = some (.type "function")) && (decide (PySem.W.findIn K (.ref (He.ga K "NoRule")) "__init__" = some (some (.ref (He.ma K (He.ga K "NoRule") "__init__")))) && (decide (PySem.W.typeIn K (.ref (He.ma K (He.ga K "NoRule") "__init__")) = some (.type "function")) && (He.eqO (PySem.W.findIn K (.ref (He.ga K "Rules")) "__class__") (some (some (.builtin "object.__class__"))) && (He.eqO (PySem.W.specialIn K (.builtin "object.__class__") "__get__") (some (some (.builtin "getset_descriptor.__get__"))) && (decide (PySem.W.takesIn K (.builtin "object.__class__") = some true) && (decide (PySem.W.mroIn K (He.ga K "Rules") (.type "object") = some true) && (He.eqO (PySem.W.findIn K (.ref (He.ga K "Rules")) "__ne__") (some (some (.builtin "object.__ne__"))) && (PySem.W.selfFirst K (He.ga K "Rules") && (decide ((He.cT K ("_law_changed_right", none)).2 ≠ (He.cT K ("_law_refused_right", none)).2) && ((allTy.all fun t => decide (PySem.W.kitOne K (.type t.nm) (.ref (He.ga K "Rules")) = some false)) && (allTy.all fun t => PySem.W.notFirst K (He.ga K "Rules") (.type t.nm)))))))))))))))))))))))))))))))))
def d_is_integer : He.DefD := ⟨("is_integer", none), "is_integer", "is_integer", defArgs (top 14), defBody (top 14), defScope (top 14), [], []⟩
def d_is_name : He.DefD := ⟨("is_name", none), "is_name", "is_name", defArgs (top 15), defBody (top 15), defScope (top 15), [], []⟩
def d_is_letter : He.DefD := ⟨("is_letter", none), "is_letter", "is_letter", defArgs (top 17), defBody (top 17), defScope (top 17), [], []⟩
def d_is_thing : He.DefD := ⟨("is_thing", none), "is_thing", "is_thing", defArgs (top 16), defBody (top 16), defScope (top 16), [], []⟩
def d_is_term : He.DefD := ⟨("is_term", none), "is_term", "is_term", defArgs (top 18), defBody (top 18), defScope (top 18), [], []⟩
def d__is_row : He.DefD := ⟨("_is_row", none), "_is_row", "_is_row", defArgs (top 21), defBody (top 21), defScope (top 21), [], []⟩
def d_as_atom : He.DefD := ⟨("as_atom", none), "as_atom", "as_atom", defArgs (top 22), defBody (top 22), defScope (top 22), [], []⟩
def d__as_not : He.DefD := ⟨("_as_not", none), "_as_not", "_as_not", defArgs (top 23), defBody (top 23), defScope (top 23), [], []⟩
def d__as_unlike : He.DefD := ⟨("_as_unlike", none), "_as_unlike", "_as_unlike", defArgs (top 24), defBody (top 24), defScope (top 24), [], []⟩
def d_as_part : He.DefD := ⟨("as_part", none), "as_part", "as_part", defArgs (top 25), defBody (top 25), defScope (top 25), [], []⟩
def d_as_body : He.DefD := ⟨("as_body", none), "as_body", "as_body", defArgs (top 26), defBody (top 26), defScope (top 26), [], []⟩
def d_as_rule : He.DefD := ⟨("as_rule", none), "as_rule", "as_rule", defArgs (top 27), defBody (top 27), defScope (top 27), [], []⟩
def d_is_plain : He.DefD := ⟨("is_plain", none), "is_plain", "is_plain", defArgs (top 28), defBody (top 28), defScope (top 28), [], []⟩
def d_atom_of : He.DefD := ⟨("atom_of", none), "atom_of", "atom_of", defArgs (top 29), defBody (top 29), defScope (top 29), [], []⟩
def d_terms_of : He.DefD := ⟨("terms_of", none), "terms_of", "terms_of", defArgs (top 30), defBody (top 30), defScope (top 30), [], []⟩
def d_letters_in : He.DefD := ⟨("letters_in", none), "letters_in", "letters_in", defArgs (top 31), defBody (top 31), defScope (top 31), [], []⟩
def d_loose_letters : He.DefD := ⟨("loose_letters", none), "loose_letters", "loose_letters", defArgs (top 32), defBody (top 32), defScope (top 32), [], []⟩
def d_loose_in_rule : He.DefD := ⟨("loose_in_rule", none), "loose_in_rule", "loose_in_rule", defArgs (top 33), defBody (top 33), defScope (top 33), [], []⟩
def d_atoms_of : He.DefD := ⟨("atoms_of", none), "atoms_of", "atoms_of", defArgs (top 35), defBody (top 35), defScope (top 35), [], []⟩
def d__uneven_place : He.DefD := ⟨("_uneven_place", none), "_uneven_place", "_uneven_place", defArgs (top 37), defBody (top 37), defScope (top 37), [], []⟩
def d_BadRule___init__ : He.DefD := ⟨("BadRule", some "__init__"), "__init__", "BadRule.__init__", defArgs (inClass (top 2) 0), defBody (inClass (top 2) 0), defScope (inClass (top 2) 0), [], []⟩
def d_NoRule___init__ : He.DefD := ⟨("NoRule", some "__init__"), "__init__", "NoRule.__init__", defArgs (inClass (top 3) 0), defBody (inClass (top 3) 0), defScope (inClass (top 3) 0), [], []⟩
def d_Uneven___init__ : He.DefD := ⟨("Uneven", some "__init__"), "__init__", "Uneven.__init__", defArgs (inClass (top 4) 0), defBody (inClass (top 4) 0), defScope (inClass (top 4) 0), [], []⟩
def d_Unsafe___init__ : He.DefD := ⟨("Unsafe", some "__init__"), "__init__", "Unsafe.__init__", defArgs (inClass (top 5) 0), defBody (inClass (top 5) 0), defScope (inClass (top 5) 0), [], []⟩
def d_check_even : He.DefD := ⟨("check_even", none), "check_even", "check_even", defArgs (top 36), defBody (top 36), defScope (top 36), [], []⟩
def d__check_safe : He.DefD := ⟨("_check_safe", none), "_check_safe", "_check_safe", defArgs (top 38), defBody (top 38), defScope (top 38), [], []⟩
def d_checked_rules : He.DefD := ⟨("checked_rules", none), "checked_rules", "checked_rules", defArgs (top 39), defBody (top 39), defScope (top 39), [], []⟩
def d_Rules___init__ : He.DefD := ⟨("Rules", some "__init__"), "__init__", "Rules.__init__", defArgs (inClass (top 40) 0), defBody (inClass (top 40) 0), defScope (inClass (top 40) 0), [], []⟩
def d_is_number_of : He.DefD := ⟨("is_number_of", none), "is_number_of", "is_number_of", defArgs (top 41), defBody (top 41), defScope (top 41), [], []⟩
def d_Rules_listed : He.DefD := ⟨("Rules", some "listed"), "listed", "Rules.listed", defArgs (inClass (top 40) 1), defBody (inClass (top 40) 1), defScope (inClass (top 40) 1), [], []⟩
def d_Rules___len__ : He.DefD := ⟨("Rules", some "__len__"), "__len__", "Rules.__len__", defArgs (inClass (top 40) 6), defBody (inClass (top 40) 6), defScope (inClass (top 40) 6), [], []⟩
def d_Rules_made : He.DefD := ⟨("Rules", some "made"), "made", "Rules.made", defArgs (inClass (top 40) 2), defBody (inClass (top 40) 2), defScope (inClass (top 40) 2), [], []⟩
def d_Rules_given : He.DefD := ⟨("Rules", some "given"), "given", "Rules.given", defArgs (inClass (top 40) 3), defBody (inClass (top 40) 3), defScope (inClass (top 40) 3), [], []⟩
def d_Rules_about : He.DefD := ⟨("Rules", some "about"), "about", "Rules.about", defArgs (inClass (top 40) 4), defBody (inClass (top 40) 4), defScope (inClass (top 40) 4), [], []⟩
def d_Rules_without : He.DefD := ⟨("Rules", some "without"), "without", "Rules.without", defArgs (inClass (top 40) 5), defBody (inClass (top 40) 5), defScope (inClass (top 40) 5), [], []⟩
def d_Rules___or__ : He.DefD := ⟨("Rules", some "__or__"), "__or__", "Rules.__or__", defArgs (inClass (top 40) 7), defBody (inClass (top 40) 7), defScope (inClass (top 40) 7), [], []⟩
def d_Rules___eq__ : He.DefD := ⟨("Rules", some "__eq__"), "__eq__", "Rules.__eq__", defArgs (inClass (top 40) 8), defBody (inClass (top 40) 8), defScope (inClass (top 40) 8), [], []⟩
def d__law_start : He.DefD := ⟨("_law_start", none), "_law_start", "_law_start", defArgs (top 43), defBody (top 43), defScope (top 43), [], []⟩
def d__law_draw : He.DefD := ⟨("_law_draw", none), "_law_draw", "_law_draw", defArgs (top 44), defBody (top 44), defScope (top 44), [], []⟩
def d__law_pick : He.DefD := ⟨("_law_pick", none), "_law_pick", "_law_pick", defArgs (top 45), defBody (top 45), defScope (top 45), [], []⟩
def d__law_mixed : He.DefD := ⟨("_law_mixed", none), "_law_mixed", "_law_mixed", defArgs (top 46), defBody (top 46), defScope (top 46), [], []⟩
def d__law_each_once : He.DefD := ⟨("_law_each_once", none), "_law_each_once", "_law_each_once", defArgs (top 48), defBody (top 48), defScope (top 48), [], []⟩
def d__law_is_letter : He.DefD := ⟨("_law_is_letter", none), "_law_is_letter", "_law_is_letter", defArgs (top 49), defBody (top 49), defScope (top 49), [], []⟩
def d__law_letters : He.DefD := ⟨("_law_letters", none), "_law_letters", "_law_letters", defArgs (top 51), defBody (top 51), defScope (top 51), [], []⟩
def d__law_atoms : He.DefD := ⟨("_law_atoms", none), "_law_atoms", "_law_atoms", defArgs (top 50), defBody (top 50), defScope (top 50), [], []⟩
def d__law_wild_rule : He.DefD := ⟨("_law_wild_rule", none), "_law_wild_rule", "_law_wild_rule", defArgs (top 52), defBody (top 52), defScope (top 52), [], []⟩
def d__law_handed_rules : He.DefD := ⟨("_law_handed_rules", none), "_law_handed_rules", "_law_handed_rules", defArgs (top 53), defBody (top 53), defScope (top 53), [], []⟩
def d__law_same : He.DefD := ⟨("_law_same", none), "_law_same", "_law_same", defArgs (top 47), defBody (top 47), defScope (top 47), [], []⟩
def d__law_all_relations : He.DefD := ⟨("_law_all_relations", none), "_law_all_relations", "_law_all_relations", defArgs (top 55), defBody (top 55), defScope (top 55), [], []⟩
def d__law_tried : He.DefD := ⟨("_law_tried", none), "_law_tried", "_law_tried", defArgs (top 54), defBody (top 54), defScope (top 54), [], []⟩
def d__law_told_right : He.DefD := ⟨("_law_told_right", none), "_law_told_right", "_law_told_right", defArgs (top 56), defBody (top 56), defScope (top 56), [], []⟩
def d__law_changed_right : He.DefD := ⟨("_law_changed_right", none), "_law_changed_right", "_law_changed_right", defArgs (top 57), defBody (top 57), defScope (top 57), [], []⟩
def d__law_refused_right : He.DefD := ⟨("_law_refused_right", none), "_law_refused_right", "_law_refused_right", defArgs (top 58), defBody (top 58), defScope (top 58), [], []⟩
def d_law : He.DefD := ⟨("law", none), "law", "law", defArgs (top 59), defBody (top 59), defScope (top 59), [], []⟩
def fn0 : List He.DefD := [d_is_integer, d_is_name, d_is_letter, d_is_thing, d_is_term, d__is_row, d_as_atom, d__as_not, d__as_unlike, d_as_part, d_as_body, d_as_rule, d_is_plain, d_atom_of, d_terms_of, d_letters_in, d_loose_letters, d_loose_in_rule, d_atoms_of, d__uneven_place, d_BadRule___init__, d_NoRule___init__, d_Uneven___init__, d_Unsafe___init__, d_check_even, d__check_safe, d_checked_rules]
def fn1 : List He.DefD := [d_Rules___init__, d_is_number_of, d_Rules_listed, d_Rules___len__, d_Rules_made, d_Rules_given, d_Rules_about, d_Rules_without, d_Rules___or__, d_Rules___eq__, d__law_start, d__law_draw, d__law_pick, d__law_mixed, d__law_each_once, d__law_is_letter, d__law_letters, d__law_atoms, d__law_wild_rule, d__law_handed_rules, d__law_same, d__law_all_relations, d__law_tried, d__law_told_right, d__law_changed_right, d__law_refused_right, d_law]
def fn : List He.DefD := fn0 ++ fn1
def fa0 : List He.Fa := [.glo "is_integer", .glo "is_name", .glo "is_letter", .glo "is_thing", .glo "is_term", .glo "_is_row", .glo "as_atom", .glo "_as_not", .glo "_as_unlike", .glo "as_part", .glo "as_body", .glo "as_rule", .glo "is_plain", .glo "atom_of", .glo "terms_of", .glo "letters_in", .glo "loose_letters", .glo "loose_in_rule", .glo "atoms_of", .glo "_uneven_place", .glo "check_even", .glo "_check_safe", .glo "checked_rules", .glo "is_number_of", .glo "_law_start", .glo "_law_draw", .glo "_law_pick", .glo "_law_mixed", .glo "_law_each_once", .glo "_law_is_letter", .glo "_law_letters", .glo "_law_atoms", .glo "_law_wild_rule", .glo "_law_handed_rules", .glo "_law_same", .glo "_law_all_relations", .glo "_law_tried", .glo "_law_told_right", .glo "_law_changed_right", .glo "_law_refused_right", .glo "law", .glo "Rules", .glo "BadRule", .glo "Uneven", .glo "Unsafe", .glo "NoRule", .glo "BARRED_NAMES", .free "len", .free "isinstance", .free "list", .free "tuple", .free "int", .free "str", .free "bool", .free "dict", .free "all", .free "any", .free "range", .free "enumerate", .free "zip"]
def fa1 : List He.Fa := [.free "sorted", .free "set", .str "SMALL" "abcdefghijklmnopqrstuvwxyz", .str "CAPITALS" "ABCDEFGHIJKLMNOPQRSTUVWXYZ", .str "FIGURES" "0123456789", .str "NAME_SIGNS" "abcdefghijklmnopqrstuvwxyz0123456789", .int "LONGEST_NAME" 12, .int "LONGEST_LETTER" 4, .int "MOST_TERMS" 6, .cls "Rules", .noat "Rules" "_rules", .noat "Rules" "memory", .meth "Rules" "listed", .meth "Rules" "made", .meth "Rules" "given", .meth "Rules" "about", .meth "Rules" "without", .meth "Rules" "__len__", .meth "Rules" "__eq__", .meth "Rules" "__or__", .mkr "Rules", .noat "BadRule" "index", .noat "Uneven" "index", .noat "Uneven" "relation", .noat "Unsafe" "index", .noat "Unsafe" "letter", .noat "NoRule" "number", .exm "BadRule" "BadRule" true, .exm "BadRule" "Uneven" false, .exm "BadRule" "Unsafe" false, .exm "BadRule" "NoRule" false, .exm "Uneven" "BadRule" false, .exm "Uneven" "Uneven" true, .exm "Uneven" "Unsafe" false, .exm "Uneven" "NoRule" false, .exm "Unsafe" "BadRule" false, .exm "Unsafe" "Uneven" false, .exm "Unsafe" "Unsafe" true, .exm "Unsafe" "NoRule" false, .exm "NoRule" "BadRule" false, .exm "NoRule" "Uneven" false, .exm "NoRule" "Unsafe" false, .exm "NoRule" "NoRule" true]
def fa : List He.Fa := fa0 ++ fa1
abbrev laws : List He.Defn := [("_law_changed_right", none), ("_law_refused_right", none)]
theorem facts {l : PySem.W.OpenLaw} {w : World} {K : PySem.W.Frag} {h : Heap} {mg : Str → Option Value} {f : Addr} (X : K.In h) (G : h.Ns mainGlobals mg) (hfa : mg ("law" : Str) = some (.ref f)) (s : He.SaysX fa fn [] laws extra w h K) : LamX.LawAtS l w K CX0 18 63 "_law_script" mg f h := by
  have c : He.SaysD fa fn K := s.t.d
  have x := s.more
  obtain ⟨y_t1, x⟩ := He.ba x
  obtain ⟨y_e_BadRule, x⟩ := He.ba x
  obtain ⟨y_e_Uneven, x⟩ := He.ba x
  obtain ⟨y_e_Unsafe, x⟩ := He.ba x
  obtain ⟨y_e_NoRule, x⟩ := He.ba x
  obtain ⟨y_xf_BadRule, x⟩ := He.ba x
  obtain ⟨y_xf_Uneven, x⟩ := He.ba x
  obtain ⟨y_xf_Unsafe, x⟩ := He.ba x
  obtain ⟨y_xf_NoRule, x⟩ := He.ba x
  obtain ⟨y_ne_BadRule_Uneven, x⟩ := He.ba x
  obtain ⟨y_ne_BadRule_Unsafe, x⟩ := He.ba x
  obtain ⟨y_ne_BadRule_NoRule, x⟩ := He.ba x
  obtain ⟨y_ne_Uneven_Unsafe, x⟩ := He.ba x
  obtain ⟨y_ne_Uneven_NoRule, x⟩ := He.ba x
  obtain ⟨y_ne_Unsafe_NoRule, x⟩ := He.ba x
  obtain ⟨y_fi_BadRule, x⟩ := He.ba x
  obtain ⟨y_ti_BadRule, x⟩ := He.ba x
  obtain ⟨y_fi_Uneven, x⟩ := He.ba x
  obtain ⟨y_ti_Uneven, x⟩ := He.ba x
  obtain ⟨y_fi_Unsafe, x⟩ := He.ba x
  obtain ⟨y_ti_Unsafe, x⟩ := He.ba x
  obtain ⟨y_fi_NoRule, x⟩ := He.ba x
  obtain ⟨y_ti_NoRule, x⟩ := He.ba x
  obtain ⟨y_cl, x⟩ := He.ba x
  obtain ⟨y_gs, x⟩ := He.ba x
  obtain ⟨y_tk, x⟩ := He.ba x
  obtain ⟨y_mr, x⟩ := He.ba x
  obtain ⟨y_ne, x⟩ := He.ba x
  obtain ⟨y_sf, x⟩ := He.ba x
  obtain ⟨y_cc, x⟩ := He.ba x
  obtain ⟨y_k1, x⟩ := He.ba x
  have y_k2 := x
  have z_len := He.free_ok X G (c.fact 47 (f := .free "len") rfl)
  have z_isinstance := He.free_ok X G (c.fact 48 (f := .free "isinstance") rfl)
  have z_list := He.free_ok X G (c.fact 49 (f := .free "list") rfl)
  have z_tuple := He.free_ok X G (c.fact 50 (f := .free "tuple") rfl)
  have z_int := He.free_ok X G (c.fact 51 (f := .free "int") rfl)
  have z_str := He.free_ok X G (c.fact 52 (f := .free "str") rfl)
  have z_bool := He.free_ok X G (c.fact 53 (f := .free "bool") rfl)
  have z_dict := He.free_ok X G (c.fact 54 (f := .free "dict") rfl)
  have z_all := He.free_ok X G (c.fact 55 (f := .free "all") rfl)
  have z_any := He.free_ok X G (c.fact 56 (f := .free "any") rfl)
  have z_range := He.free_ok X G (c.fact 57 (f := .free "range") rfl)
  have z_enumerate := He.free_ok X G (c.fact 58 (f := .free "enumerate") rfl)
  have z_zip := He.free_ok X G (c.fact 59 (f := .free "zip") rfl)
  have z_sorted := He.free_ok X G (c.fact 60 (f := .free "sorted") rfl)
  have z_set := He.free_ok X G (c.fact 61 (f := .free "set") rfl)
  have T : Tx K mg := { b_len := z_len, b_isinstance := z_isinstance, b_list := z_list, b_tuple := z_tuple, b_int := z_int, b_str := z_str, b_bool := z_bool, b_dict := z_dict, b_all := z_all, b_any := z_any, b_range := z_range, b_enumerate := z_enumerate, b_zip := z_zip, b_sorted := z_sorted, b_set := z_set, g_SMALL := gld_str (He.str_ok X G (c.fact 62 (f := .str "SMALL" "abcdefghijklmnopqrstuvwxyz") rfl)), g_CAPITALS := gld_str (He.str_ok X G (c.fact 63 (f := .str "CAPITALS" "ABCDEFGHIJKLMNOPQRSTUVWXYZ") rfl)), g_FIGURES := gld_str (He.str_ok X G (c.fact 64 (f := .str "FIGURES" "0123456789") rfl)), g_NAME_SIGNS := gld_str (He.str_ok X G (c.fact 65 (f := .str "NAME_SIGNS" "abcdefghijklmnopqrstuvwxyz0123456789") rfl)), g_LONGEST_NAME := gld_int (He.int_ok X G (c.fact 66 (f := .int "LONGEST_NAME" 12) rfl)), g_LONGEST_LETTER := gld_int (He.int_ok X G (c.fact 67 (f := .int "LONGEST_LETTER" 4) rfl)), g_MOST_TERMS := gld_int (He.int_ok X G (c.fact 68 (f := .int "MOST_TERMS" 6) rfl)), g_BARRED_NAMES := gld_tup (zs := ["not", "unlike", "if"]) (He.glo_ok X G (c.fact 46 (f := .glo "BARRED_NAMES") rfl)) fun H => He.tupB_ok y_t1 H }
  have hCls : Cls K (He.ga K "Rules") := He.cls_ok (c.fact 69 (f := .cls "Rules") rfl)
  have no : NoAttr K (He.ga K "Rules") "_rules" := He.noat_ok (c.fact 70 (f := .noat "Rules" "_rules") rfl)
  have nom : NoAttr K (He.ga K "Rules") "memory" := He.noat_ok (c.fact 71 (f := .noat "Rules" "memory") rfl)
  have I : IsC K (He.ga K "Rules") := ⟨hCls, He.eqO_ok y_cl, He.eqO_ok y_gs, of_decide_eq_true y_tk, of_decide_eq_true y_mr, fun t => of_decide_eq_true (List.all_eq_true.mp y_k1 t (allTy_mem t)), fun t => List.all_eq_true.mp y_k2 t (allTy_mem t)⟩
  have m_Rules := He.glo_ok X G (c.fact 41 (f := .glo "Rules") rfl)
  have m_BadRule := He.glo_ok X G (c.fact 42 (f := .glo "BadRule") rfl)
  have m_Uneven := He.glo_ok X G (c.fact 43 (f := .glo "Uneven") rfl)
  have m_Unsafe := He.glo_ok X G (c.fact 44 (f := .glo "Unsafe") rfl)
  have m_NoRule := He.glo_ok X G (c.fact 45 (f := .glo "NoRule") rfl)
  have O_BadRule : OexC K (He.ga K "BadRule") := errB_ok y_e_BadRule
  have O_Uneven : OexC K (He.ga K "Uneven") := errB_ok y_e_Uneven
  have O_Unsafe : OexC K (He.ga K "Unsafe") := errB_ok y_e_Unsafe
  have O_NoRule : OexC K (He.ga K "NoRule") := errB_ok y_e_NoRule
  have n_BadRule_index := He.noat_ok (c.fact 81 (f := .noat "BadRule" "index") rfl)
  have n_Uneven_index := He.noat_ok (c.fact 82 (f := .noat "Uneven" "index") rfl)
  have n_Uneven_relation := He.noat_ok (c.fact 83 (f := .noat "Uneven" "relation") rfl)
  have n_Unsafe_index := He.noat_ok (c.fact 84 (f := .noat "Unsafe" "index") rfl)
  have n_Unsafe_letter := He.noat_ok (c.fact 85 (f := .noat "Unsafe" "letter") rfl)
  have n_NoRule_number := He.noat_ok (c.fact 86 (f := .noat "NoRule" "number") rfl)
  have x_BadRule_BadRule : PySem.W.exmOne K (.ref (He.ga K "BadRule")) (.ref (He.ga K "BadRule")) = some true := He.exm_ok (c.fact 87 (f := .exm "BadRule" "BadRule" true) rfl)
  have x_BadRule_Uneven : PySem.W.exmOne K (.ref (He.ga K "BadRule")) (.ref (He.ga K "Uneven")) = some false := He.exm_ok (c.fact 88 (f := .exm "BadRule" "Uneven" false) rfl)
  have x_BadRule_Unsafe : PySem.W.exmOne K (.ref (He.ga K "BadRule")) (.ref (He.ga K "Unsafe")) = some false := He.exm_ok (c.fact 89 (f := .exm "BadRule" "Unsafe" false) rfl)
  have x_BadRule_NoRule : PySem.W.exmOne K (.ref (He.ga K "BadRule")) (.ref (He.ga K "NoRule")) = some false := He.exm_ok (c.fact 90 (f := .exm "BadRule" "NoRule" false) rfl)
  have x_Uneven_BadRule : PySem.W.exmOne K (.ref (He.ga K "Uneven")) (.ref (He.ga K "BadRule")) = some false := He.exm_ok (c.fact 91 (f := .exm "Uneven" "BadRule" false) rfl)
  have x_Uneven_Uneven : PySem.W.exmOne K (.ref (He.ga K "Uneven")) (.ref (He.ga K "Uneven")) = some true := He.exm_ok (c.fact 92 (f := .exm "Uneven" "Uneven" true) rfl)
  have x_Uneven_Unsafe : PySem.W.exmOne K (.ref (He.ga K "Uneven")) (.ref (He.ga K "Unsafe")) = some false := He.exm_ok (c.fact 93 (f := .exm "Uneven" "Unsafe" false) rfl)
  have x_Uneven_NoRule : PySem.W.exmOne K (.ref (He.ga K "Uneven")) (.ref (He.ga K "NoRule")) = some false := He.exm_ok (c.fact 94 (f := .exm "Uneven" "NoRule" false) rfl)
  have x_Unsafe_BadRule : PySem.W.exmOne K (.ref (He.ga K "Unsafe")) (.ref (He.ga K "BadRule")) = some false := He.exm_ok (c.fact 95 (f := .exm "Unsafe" "BadRule" false) rfl)
  have x_Unsafe_Uneven : PySem.W.exmOne K (.ref (He.ga K "Unsafe")) (.ref (He.ga K "Uneven")) = some false := He.exm_ok (c.fact 96 (f := .exm "Unsafe" "Uneven" false) rfl)
  have x_Unsafe_Unsafe : PySem.W.exmOne K (.ref (He.ga K "Unsafe")) (.ref (He.ga K "Unsafe")) = some true := He.exm_ok (c.fact 97 (f := .exm "Unsafe" "Unsafe" true) rfl)
  have x_Unsafe_NoRule : PySem.W.exmOne K (.ref (He.ga K "Unsafe")) (.ref (He.ga K "NoRule")) = some false := He.exm_ok (c.fact 98 (f := .exm "Unsafe" "NoRule" false) rfl)
  have x_NoRule_BadRule : PySem.W.exmOne K (.ref (He.ga K "NoRule")) (.ref (He.ga K "BadRule")) = some false := He.exm_ok (c.fact 99 (f := .exm "NoRule" "BadRule" false) rfl)
  have x_NoRule_Uneven : PySem.W.exmOne K (.ref (He.ga K "NoRule")) (.ref (He.ga K "Uneven")) = some false := He.exm_ok (c.fact 100 (f := .exm "NoRule" "Uneven" false) rfl)
  have x_NoRule_Unsafe : PySem.W.exmOne K (.ref (He.ga K "NoRule")) (.ref (He.ga K "Unsafe")) = some false := He.exm_ok (c.fact 101 (f := .exm "NoRule" "Unsafe" false) rfl)
  have x_NoRule_NoRule : PySem.W.exmOne K (.ref (He.ga K "NoRule")) (.ref (He.ga K "NoRule")) = some true := He.exm_ok (c.fact 102 (f := .exm "NoRule" "NoRule" true) rfl)
  have d_BadRule_Uneven : (He.ga K "BadRule") ≠ (He.ga K "Uneven") := of_decide_eq_true y_ne_BadRule_Uneven
  have d_BadRule_Unsafe : (He.ga K "BadRule") ≠ (He.ga K "Unsafe") := of_decide_eq_true y_ne_BadRule_Unsafe
  have d_BadRule_NoRule : (He.ga K "BadRule") ≠ (He.ga K "NoRule") := of_decide_eq_true y_ne_BadRule_NoRule
  have d_Uneven_Unsafe : (He.ga K "Uneven") ≠ (He.ga K "Unsafe") := of_decide_eq_true y_ne_Uneven_Unsafe
  have d_Uneven_NoRule : (He.ga K "Uneven") ≠ (He.ga K "NoRule") := of_decide_eq_true y_ne_Uneven_NoRule
  have d_Unsafe_NoRule : (He.ga K "Unsafe") ≠ (He.ga K "NoRule") := of_decide_eq_true y_ne_Unsafe_NoRule
  have kd : ∀ k ∈ [(He.ga K "BadRule"), (He.ga K "Uneven"), (He.ga K "Unsafe"), (He.ga K "NoRule")], ∀ k' ∈ [(He.ga K "BadRule"), (He.ga K "Uneven"), (He.ga K "Unsafe"), (He.ga K "NoRule")], PySem.W.exmOne K (.ref k) (.ref k') = some (decide (k = k')) := fun k hk k' hk' => by
    simp only [List.mem_cons, List.not_mem_nil, or_false] at hk hk'
    rcases hk with rfl | rfl | rfl | rfl <;> rcases hk' with rfl | rfl | rfl | rfl
    · rw [decide_eq_true rfl]; exact x_BadRule_BadRule
    · rw [decide_eq_false d_BadRule_Uneven]; exact x_BadRule_Uneven
    · rw [decide_eq_false d_BadRule_Unsafe]; exact x_BadRule_Unsafe
    · rw [decide_eq_false d_BadRule_NoRule]; exact x_BadRule_NoRule
    · rw [decide_eq_false (fun e => d_BadRule_Uneven e.symm)]; exact x_Uneven_BadRule
    · rw [decide_eq_true rfl]; exact x_Uneven_Uneven
    · rw [decide_eq_false d_Uneven_Unsafe]; exact x_Uneven_Unsafe
    · rw [decide_eq_false d_Uneven_NoRule]; exact x_Uneven_NoRule
    · rw [decide_eq_false (fun e => d_BadRule_Unsafe e.symm)]; exact x_Unsafe_BadRule
    · rw [decide_eq_false (fun e => d_Uneven_Unsafe e.symm)]; exact x_Unsafe_Uneven
    · rw [decide_eq_true rfl]; exact x_Unsafe_Unsafe
    · rw [decide_eq_false d_Unsafe_NoRule]; exact x_Unsafe_NoRule
    · rw [decide_eq_false (fun e => d_BadRule_NoRule e.symm)]; exact x_NoRule_BadRule
    · rw [decide_eq_false (fun e => d_Uneven_NoRule e.symm)]; exact x_NoRule_Uneven
    · rw [decide_eq_false (fun e => d_Unsafe_NoRule e.symm)]; exact x_NoRule_Unsafe
    · rw [decide_eq_true rfl]; exact x_NoRule_NoRule
  have RE : Er K mg (He.ga K "BadRule") (He.ga K "Uneven") (He.ga K "Unsafe") (He.ga K "NoRule") := ⟨m_BadRule, m_Uneven, m_Unsafe, m_NoRule, xfB_ok y_xf_BadRule, xfB_ok y_xf_Uneven, xfB_ok y_xf_Unsafe, xfB_ok y_xf_NoRule, n_BadRule_index, n_Uneven_index, n_Uneven_relation, n_Unsafe_index, n_Unsafe_letter, n_NoRule_number, d_BadRule_Uneven, d_BadRule_Unsafe, d_BadRule_NoRule, d_Uneven_Unsafe, d_Uneven_NoRule, d_Unsafe_NoRule, kd⟩
  have M_listed := He.meth_ok (c.fact 72 (f := .meth "Rules" "listed") rfl)
  have M_made := He.meth_ok (c.fact 73 (f := .meth "Rules" "made") rfl)
  have M_given := He.meth_ok (c.fact 74 (f := .meth "Rules" "given") rfl)
  have M_about := He.meth_ok (c.fact 75 (f := .meth "Rules" "about") rfl)
  have M_without := He.meth_ok (c.fact 76 (f := .meth "Rules" "without") rfl)
  have M_len := He.meth_ok (c.fact 77 (f := .meth "Rules" "__len__") rfl)
  have M_eq := He.meth_ok (c.fact 78 (f := .meth "Rules" "__eq__") rfl)
  have M_or := He.meth_ok (c.fact 79 (f := .meth "Rules" "__or__") rfl)
  have hMk := He.mkr_ok (c.fact 80 (f := .mkr "Rules") rfl)
  obtain ⟨w_is_integer, F_is_integer⟩ := c.def_ 0 (d := d_is_integer) rfl
  have F_is_integer : FnP K "is_integer" "is_integer" (top 14) (He.ga K "is_integer") w_is_integer := F_is_integer
  have g_is_integer := He.glo_ok X G (c.fact 0 (f := .glo "is_integer") rfl)
  have b_is_integer := FunD.bindsN (ps := ["thing"]) F_is_integer fun _ _ _ _ _ _ us hl => match us, hl with | [_], _ => rfl
  obtain ⟨w_is_name, F_is_name⟩ := c.def_ 1 (d := d_is_name) rfl
  have F_is_name : FnP K "is_name" "is_name" (top 15) (He.ga K "is_name") w_is_name := F_is_name
  have g_is_name := He.glo_ok X G (c.fact 1 (f := .glo "is_name") rfl)
  have b_is_name := FunD.bindsN (ps := ["thing"]) F_is_name fun _ _ _ _ _ _ us hl => match us, hl with | [_], _ => rfl
  obtain ⟨w_is_letter, F_is_letter⟩ := c.def_ 2 (d := d_is_letter) rfl
  have F_is_letter : FnP K "is_letter" "is_letter" (top 17) (He.ga K "is_letter") w_is_letter := F_is_letter
  have g_is_letter := He.glo_ok X G (c.fact 2 (f := .glo "is_letter") rfl)
  have b_is_letter := FunD.bindsN (ps := ["thing"]) F_is_letter fun _ _ _ _ _ _ us hl => match us, hl with | [_], _ => rfl
  obtain ⟨w_is_thing, F_is_thing⟩ := c.def_ 3 (d := d_is_thing) rfl
  have F_is_thing : FnP K "is_thing" "is_thing" (top 16) (He.ga K "is_thing") w_is_thing := F_is_thing
  have g_is_thing := He.glo_ok X G (c.fact 3 (f := .glo "is_thing") rfl)
  have b_is_thing := FunD.bindsN (ps := ["thing"]) F_is_thing fun _ _ _ _ _ _ us hl => match us, hl with | [_], _ => rfl
  obtain ⟨w_is_term, F_is_term⟩ := c.def_ 4 (d := d_is_term) rfl
  have F_is_term : FnP K "is_term" "is_term" (top 18) (He.ga K "is_term") w_is_term := F_is_term
  have g_is_term := He.glo_ok X G (c.fact 4 (f := .glo "is_term") rfl)
  have b_is_term := FunD.bindsN (ps := ["thing"]) F_is_term fun _ _ _ _ _ _ us hl => match us, hl with | [_], _ => rfl
  obtain ⟨w__is_row, F__is_row⟩ := c.def_ 5 (d := d__is_row) rfl
  have F__is_row : FnP K "_is_row" "_is_row" (top 21) (He.ga K "_is_row") w__is_row := F__is_row
  have g__is_row := He.glo_ok X G (c.fact 5 (f := .glo "_is_row") rfl)
  have b__is_row := FunD.bindsN (ps := ["thing"]) F__is_row fun _ _ _ _ _ _ us hl => match us, hl with | [_], _ => rfl
  obtain ⟨w_as_atom, F_as_atom⟩ := c.def_ 6 (d := d_as_atom) rfl
  have F_as_atom : FnP K "as_atom" "as_atom" (top 22) (He.ga K "as_atom") w_as_atom := F_as_atom
  have g_as_atom := He.glo_ok X G (c.fact 6 (f := .glo "as_atom") rfl)
  have b_as_atom := FunD.bindsN (ps := ["thing"]) F_as_atom fun _ _ _ _ _ _ us hl => match us, hl with | [_], _ => rfl
  obtain ⟨w__as_not, F__as_not⟩ := c.def_ 7 (d := d__as_not) rfl
  have F__as_not : FnP K "_as_not" "_as_not" (top 23) (He.ga K "_as_not") w__as_not := F__as_not
  have g__as_not := He.glo_ok X G (c.fact 7 (f := .glo "_as_not") rfl)
  have b__as_not := FunD.bindsN (ps := ["thing"]) F__as_not fun _ _ _ _ _ _ us hl => match us, hl with | [_], _ => rfl
  obtain ⟨w__as_unlike, F__as_unlike⟩ := c.def_ 8 (d := d__as_unlike) rfl
  have F__as_unlike : FnP K "_as_unlike" "_as_unlike" (top 24) (He.ga K "_as_unlike") w__as_unlike := F__as_unlike
  have g__as_unlike := He.glo_ok X G (c.fact 8 (f := .glo "_as_unlike") rfl)
  have b__as_unlike := FunD.bindsN (ps := ["thing"]) F__as_unlike fun _ _ _ _ _ _ us hl => match us, hl with | [_], _ => rfl
  obtain ⟨w_as_part, F_as_part⟩ := c.def_ 9 (d := d_as_part) rfl
  have F_as_part : FnP K "as_part" "as_part" (top 25) (He.ga K "as_part") w_as_part := F_as_part
  have g_as_part := He.glo_ok X G (c.fact 9 (f := .glo "as_part") rfl)
  have b_as_part := FunD.bindsN (ps := ["thing"]) F_as_part fun _ _ _ _ _ _ us hl => match us, hl with | [_], _ => rfl
  obtain ⟨w_as_body, F_as_body⟩ := c.def_ 10 (d := d_as_body) rfl
  have F_as_body : FnP K "as_body" "as_body" (top 26) (He.ga K "as_body") w_as_body := F_as_body
  have g_as_body := He.glo_ok X G (c.fact 10 (f := .glo "as_body") rfl)
  have b_as_body := FunD.bindsN (ps := ["thing"]) F_as_body fun _ _ _ _ _ _ us hl => match us, hl with | [_], _ => rfl
  obtain ⟨w_as_rule, F_as_rule⟩ := c.def_ 11 (d := d_as_rule) rfl
  have F_as_rule : FnP K "as_rule" "as_rule" (top 27) (He.ga K "as_rule") w_as_rule := F_as_rule
  have g_as_rule := He.glo_ok X G (c.fact 11 (f := .glo "as_rule") rfl)
  have b_as_rule := FunD.bindsN (ps := ["thing"]) F_as_rule fun _ _ _ _ _ _ us hl => match us, hl with | [_], _ => rfl
  obtain ⟨w_is_plain, F_is_plain⟩ := c.def_ 12 (d := d_is_plain) rfl
  have F_is_plain : FnP K "is_plain" "is_plain" (top 28) (He.ga K "is_plain") w_is_plain := F_is_plain
  have g_is_plain := He.glo_ok X G (c.fact 12 (f := .glo "is_plain") rfl)
  have b_is_plain := FunD.bindsN (ps := ["part"]) F_is_plain fun _ _ _ _ _ _ us hl => match us, hl with | [_], _ => rfl
  obtain ⟨w_atom_of, F_atom_of⟩ := c.def_ 13 (d := d_atom_of) rfl
  have F_atom_of : FnP K "atom_of" "atom_of" (top 29) (He.ga K "atom_of") w_atom_of := F_atom_of
  have g_atom_of := He.glo_ok X G (c.fact 13 (f := .glo "atom_of") rfl)
  have b_atom_of := FunD.bindsN (ps := ["part"]) F_atom_of fun _ _ _ _ _ _ us hl => match us, hl with | [_], _ => rfl
  obtain ⟨w_terms_of, F_terms_of⟩ := c.def_ 14 (d := d_terms_of) rfl
  have F_terms_of : FnP K "terms_of" "terms_of" (top 30) (He.ga K "terms_of") w_terms_of := F_terms_of
  have g_terms_of := He.glo_ok X G (c.fact 14 (f := .glo "terms_of") rfl)
  have b_terms_of := FunD.bindsN (ps := ["part"]) F_terms_of fun _ _ _ _ _ _ us hl => match us, hl with | [_], _ => rfl
  obtain ⟨w_letters_in, F_letters_in⟩ := c.def_ 15 (d := d_letters_in) rfl
  have F_letters_in : FnP K "letters_in" "letters_in" (top 31) (He.ga K "letters_in") w_letters_in := F_letters_in
  have g_letters_in := He.glo_ok X G (c.fact 15 (f := .glo "letters_in") rfl)
  have b_letters_in := FunD.bindsN (ps := ["parts"]) F_letters_in fun _ _ _ _ _ _ us hl => match us, hl with | [_], _ => rfl
  obtain ⟨w_loose_letters, F_loose_letters⟩ := c.def_ 16 (d := d_loose_letters) rfl
  have F_loose_letters : FnP K "loose_letters" "loose_letters" (top 32) (He.ga K "loose_letters") w_loose_letters := F_loose_letters
  have g_loose_letters := He.glo_ok X G (c.fact 16 (f := .glo "loose_letters") rfl)
  have b_loose_letters := FunD.bindsN (ps := ["parts", "body"]) F_loose_letters fun _ _ _ _ _ _ us hl => match us, hl with | [_, _], _ => rfl
  obtain ⟨w_loose_in_rule, F_loose_in_rule⟩ := c.def_ 17 (d := d_loose_in_rule) rfl
  have F_loose_in_rule : FnP K "loose_in_rule" "loose_in_rule" (top 33) (He.ga K "loose_in_rule") w_loose_in_rule := F_loose_in_rule
  have g_loose_in_rule := He.glo_ok X G (c.fact 17 (f := .glo "loose_in_rule") rfl)
  have b_loose_in_rule := FunD.bindsN (ps := ["rule"]) F_loose_in_rule fun _ _ _ _ _ _ us hl => match us, hl with | [_], _ => rfl
  obtain ⟨w_atoms_of, F_atoms_of⟩ := c.def_ 18 (d := d_atoms_of) rfl
  have F_atoms_of : FnP K "atoms_of" "atoms_of" (top 35) (He.ga K "atoms_of") w_atoms_of := F_atoms_of
  have g_atoms_of := He.glo_ok X G (c.fact 18 (f := .glo "atoms_of") rfl)
  have b_atoms_of := FunD.bindsN (ps := ["rule"]) F_atoms_of fun _ _ _ _ _ _ us hl => match us, hl with | [_], _ => rfl
  obtain ⟨w__uneven_place, F__uneven_place⟩ := c.def_ 19 (d := d__uneven_place) rfl
  have F__uneven_place : FnP K "_uneven_place" "_uneven_place" (top 37) (He.ga K "_uneven_place") w__uneven_place := F__uneven_place
  have g__uneven_place := He.glo_ok X G (c.fact 19 (f := .glo "_uneven_place") rfl)
  have b__uneven_place := FunD.bindsN (ps := ["rows"]) F__uneven_place fun _ _ _ _ _ _ us hl => match us, hl with | [_], _ => rfl
  obtain ⟨w_BadRule___init__, F_BadRule___init__⟩ := c.def_ 20 (d := d_BadRule___init__) rfl
  have F_BadRule___init__ : FnP K "__init__" "BadRule.__init__" (inClass (top 2) 0) (He.ma K (He.ga K "BadRule") "__init__") w_BadRule___init__ := F_BadRule___init__
  have b_BadRule___init__ := FunD.bindsN (ps := ["self", "index"]) F_BadRule___init__ fun _ _ _ _ _ _ us hl => match us, hl with | [_, _], _ => rfl
  obtain ⟨w_NoRule___init__, F_NoRule___init__⟩ := c.def_ 21 (d := d_NoRule___init__) rfl
  have F_NoRule___init__ : FnP K "__init__" "NoRule.__init__" (inClass (top 3) 0) (He.ma K (He.ga K "NoRule") "__init__") w_NoRule___init__ := F_NoRule___init__
  have b_NoRule___init__ := FunD.bindsN (ps := ["self", "number"]) F_NoRule___init__ fun _ _ _ _ _ _ us hl => match us, hl with | [_, _], _ => rfl
  obtain ⟨w_Uneven___init__, F_Uneven___init__⟩ := c.def_ 22 (d := d_Uneven___init__) rfl
  have F_Uneven___init__ : FnP K "__init__" "Uneven.__init__" (inClass (top 4) 0) (He.ma K (He.ga K "Uneven") "__init__") w_Uneven___init__ := F_Uneven___init__
  have b_Uneven___init__ := FunD.bindsN (ps := ["self", "index", "relation"]) F_Uneven___init__ fun _ _ _ _ _ _ us hl => match us, hl with | [_, _, _], _ => rfl
  obtain ⟨w_Unsafe___init__, F_Unsafe___init__⟩ := c.def_ 23 (d := d_Unsafe___init__) rfl
  have F_Unsafe___init__ : FnP K "__init__" "Unsafe.__init__" (inClass (top 5) 0) (He.ma K (He.ga K "Unsafe") "__init__") w_Unsafe___init__ := F_Unsafe___init__
  have b_Unsafe___init__ := FunD.bindsN (ps := ["self", "index", "letter"]) F_Unsafe___init__ fun _ _ _ _ _ _ us hl => match us, hl with | [_, _, _], _ => rfl
  obtain ⟨w_check_even, F_check_even⟩ := c.def_ 24 (d := d_check_even) rfl
  have F_check_even : FnP K "check_even" "check_even" (top 36) (He.ga K "check_even") w_check_even := F_check_even
  have g_check_even := He.glo_ok X G (c.fact 20 (f := .glo "check_even") rfl)
  have b_check_even := FunD.bindsN (ps := ["rows"]) F_check_even fun _ _ _ _ _ _ us hl => match us, hl with | [_], _ => rfl
  obtain ⟨w__check_safe, F__check_safe⟩ := c.def_ 25 (d := d__check_safe) rfl
  have F__check_safe : FnP K "_check_safe" "_check_safe" (top 38) (He.ga K "_check_safe") w__check_safe := F__check_safe
  have g__check_safe := He.glo_ok X G (c.fact 21 (f := .glo "_check_safe") rfl)
  have b__check_safe := FunD.bindsN (ps := ["rules"]) F__check_safe fun _ _ _ _ _ _ us hl => match us, hl with | [_], _ => rfl
  obtain ⟨w_checked_rules, F_checked_rules⟩ := c.def_ 26 (d := d_checked_rules) rfl
  have F_checked_rules : FnP K "checked_rules" "checked_rules" (top 39) (He.ga K "checked_rules") w_checked_rules := F_checked_rules
  have g_checked_rules := He.glo_ok X G (c.fact 22 (f := .glo "checked_rules") rfl)
  have b_checked_rules := FunD.bindsN (ps := ["rules"]) F_checked_rules fun _ _ _ _ _ _ us hl => match us, hl with | [_], _ => rfl
  obtain ⟨w_Rules___init__, F_Rules___init__⟩ := c.def_ 27 (d := d_Rules___init__) rfl
  have F_Rules___init__ : FnP K "__init__" "Rules.__init__" (inClass (top 40) 0) (He.ma K (He.ga K "Rules") "__init__") w_Rules___init__ := F_Rules___init__
  have b_Rules___init__ := FunD.bindsN (ps := ["self", "rules"]) F_Rules___init__ fun _ _ _ _ _ _ us hl => match us, hl with | [_, _], _ => rfl
  obtain ⟨w_is_number_of, F_is_number_of⟩ := c.def_ 28 (d := d_is_number_of) rfl
  have F_is_number_of : FnP K "is_number_of" "is_number_of" (top 41) (He.ga K "is_number_of") w_is_number_of := F_is_number_of
  have g_is_number_of := He.glo_ok X G (c.fact 23 (f := .glo "is_number_of") rfl)
  have b_is_number_of := FunD.bindsN (ps := ["thing", "rows"]) F_is_number_of fun _ _ _ _ _ _ us hl => match us, hl with | [_, _], _ => rfl
  obtain ⟨w_Rules_listed, F_Rules_listed⟩ := c.def_ 29 (d := d_Rules_listed) rfl
  have F_Rules_listed : FnP K "listed" "Rules.listed" (inClass (top 40) 1) (He.ma K (He.ga K "Rules") "listed") w_Rules_listed := F_Rules_listed
  have b_Rules_listed := FunD.bindsN (ps := ["self"]) F_Rules_listed fun _ _ _ _ _ _ us hl => match us, hl with | [_], _ => rfl
  obtain ⟨w_Rules___len__, F_Rules___len__⟩ := c.def_ 30 (d := d_Rules___len__) rfl
  have F_Rules___len__ : FnP K "__len__" "Rules.__len__" (inClass (top 40) 6) (He.ma K (He.ga K "Rules") "__len__") w_Rules___len__ := F_Rules___len__
  have b_Rules___len__ := FunD.bindsN (ps := ["self"]) F_Rules___len__ fun _ _ _ _ _ _ us hl => match us, hl with | [_], _ => rfl
  obtain ⟨w_Rules_made, F_Rules_made⟩ := c.def_ 31 (d := d_Rules_made) rfl
  have F_Rules_made : FnP K "made" "Rules.made" (inClass (top 40) 2) (He.ma K (He.ga K "Rules") "made") w_Rules_made := F_Rules_made
  have b_Rules_made := FunD.bindsN (ps := ["self"]) F_Rules_made fun _ _ _ _ _ _ us hl => match us, hl with | [_], _ => rfl
  obtain ⟨w_Rules_given, F_Rules_given⟩ := c.def_ 32 (d := d_Rules_given) rfl
  have F_Rules_given : FnP K "given" "Rules.given" (inClass (top 40) 3) (He.ma K (He.ga K "Rules") "given") w_Rules_given := F_Rules_given
  have b_Rules_given := FunD.bindsN (ps := ["self"]) F_Rules_given fun _ _ _ _ _ _ us hl => match us, hl with | [_], _ => rfl
  obtain ⟨w_Rules_about, F_Rules_about⟩ := c.def_ 33 (d := d_Rules_about) rfl
  have F_Rules_about : FnP K "about" "Rules.about" (inClass (top 40) 4) (He.ma K (He.ga K "Rules") "about") w_Rules_about := F_Rules_about
  have b_Rules_about := FunD.bindsN (ps := ["self", "relation"]) F_Rules_about fun _ _ _ _ _ _ us hl => match us, hl with | [_, _], _ => rfl
  obtain ⟨w_Rules_without, F_Rules_without⟩ := c.def_ 34 (d := d_Rules_without) rfl
  have F_Rules_without : FnP K "without" "Rules.without" (inClass (top 40) 5) (He.ma K (He.ga K "Rules") "without") w_Rules_without := F_Rules_without
  have b_Rules_without := FunD.bindsN (ps := ["self", "number"]) F_Rules_without fun _ _ _ _ _ _ us hl => match us, hl with | [_, _], _ => rfl
  obtain ⟨w_Rules___or__, F_Rules___or__⟩ := c.def_ 35 (d := d_Rules___or__) rfl
  have F_Rules___or__ : FnP K "__or__" "Rules.__or__" (inClass (top 40) 7) (He.ma K (He.ga K "Rules") "__or__") w_Rules___or__ := F_Rules___or__
  have b_Rules___or__ := FunD.bindsN (ps := ["self", "other"]) F_Rules___or__ fun _ _ _ _ _ _ us hl => match us, hl with | [_, _], _ => rfl
  obtain ⟨w_Rules___eq__, F_Rules___eq__⟩ := c.def_ 36 (d := d_Rules___eq__) rfl
  have F_Rules___eq__ : FnP K "__eq__" "Rules.__eq__" (inClass (top 40) 8) (He.ma K (He.ga K "Rules") "__eq__") w_Rules___eq__ := F_Rules___eq__
  have b_Rules___eq__ := FunD.bindsN (ps := ["self", "other"]) F_Rules___eq__ fun _ _ _ _ _ _ us hl => match us, hl with | [_, _], _ => rfl
  obtain ⟨w__law_start, F__law_start⟩ := c.def_ 37 (d := d__law_start) rfl
  have F__law_start : FnP K "_law_start" "_law_start" (top 43) (He.ga K "_law_start") w__law_start := F__law_start
  have g__law_start := He.glo_ok X G (c.fact 24 (f := .glo "_law_start") rfl)
  have b__law_start := FunD.bindsN (ps := ["_law_script"]) F__law_start fun _ _ _ _ _ _ us hl => match us, hl with | [_], _ => rfl
  obtain ⟨w__law_draw, F__law_draw⟩ := c.def_ 38 (d := d__law_draw) rfl
  have F__law_draw : FnP K "_law_draw" "_law_draw" (top 44) (He.ga K "_law_draw") w__law_draw := F__law_draw
  have g__law_draw := He.glo_ok X G (c.fact 25 (f := .glo "_law_draw") rfl)
  have b__law_draw := FunD.bindsN (ps := ["_law_stream", "_law_many"]) F__law_draw fun _ _ _ _ _ _ us hl => match us, hl with | [_, _], _ => rfl
  obtain ⟨w__law_pick, F__law_pick⟩ := c.def_ 39 (d := d__law_pick) rfl
  have F__law_pick : FnP K "_law_pick" "_law_pick" (top 45) (He.ga K "_law_pick") w__law_pick := F__law_pick
  have g__law_pick := He.glo_ok X G (c.fact 26 (f := .glo "_law_pick") rfl)
  have b__law_pick := FunD.bindsN (ps := ["_law_stream", "_law_some"]) F__law_pick fun _ _ _ _ _ _ us hl => match us, hl with | [_, _], _ => rfl
  obtain ⟨w__law_mixed, F__law_mixed⟩ := c.def_ 40 (d := d__law_mixed) rfl
  have F__law_mixed : FnP K "_law_mixed" "_law_mixed" (top 46) (He.ga K "_law_mixed") w__law_mixed := F__law_mixed
  have g__law_mixed := He.glo_ok X G (c.fact 27 (f := .glo "_law_mixed") rfl)
  have b__law_mixed := FunD.bindsN (ps := ["_law_stream", "_law_some"]) F__law_mixed fun _ _ _ _ _ _ us hl => match us, hl with | [_, _], _ => rfl
  obtain ⟨w__law_each_once, F__law_each_once⟩ := c.def_ 41 (d := d__law_each_once) rfl
  have F__law_each_once : FnP K "_law_each_once" "_law_each_once" (top 48) (He.ga K "_law_each_once") w__law_each_once := F__law_each_once
  have g__law_each_once := He.glo_ok X G (c.fact 28 (f := .glo "_law_each_once") rfl)
  have b__law_each_once := FunD.bindsN (ps := ["_law_things"]) F__law_each_once fun _ _ _ _ _ _ us hl => match us, hl with | [_], _ => rfl
  obtain ⟨w__law_is_letter, F__law_is_letter⟩ := c.def_ 42 (d := d__law_is_letter) rfl
  have F__law_is_letter : FnP K "_law_is_letter" "_law_is_letter" (top 49) (He.ga K "_law_is_letter") w__law_is_letter := F__law_is_letter
  have g__law_is_letter := He.glo_ok X G (c.fact 29 (f := .glo "_law_is_letter") rfl)
  have b__law_is_letter := FunD.bindsN (ps := ["_law_term"]) F__law_is_letter fun _ _ _ _ _ _ us hl => match us, hl with | [_], _ => rfl
  obtain ⟨w__law_letters, F__law_letters⟩ := c.def_ 43 (d := d__law_letters) rfl
  have F__law_letters : FnP K "_law_letters" "_law_letters" (top 51) (He.ga K "_law_letters") w__law_letters := F__law_letters
  have g__law_letters := He.glo_ok X G (c.fact 30 (f := .glo "_law_letters") rfl)
  have b__law_letters := FunD.bindsN (ps := ["_law_body"]) F__law_letters fun _ _ _ _ _ _ us hl => match us, hl with | [_], _ => rfl
  obtain ⟨w__law_atoms, F__law_atoms⟩ := c.def_ 44 (d := d__law_atoms) rfl
  have F__law_atoms : FnP K "_law_atoms" "_law_atoms" (top 50) (He.ga K "_law_atoms") w__law_atoms := F__law_atoms
  have g__law_atoms := He.glo_ok X G (c.fact 31 (f := .glo "_law_atoms") rfl)
  have b__law_atoms := FunD.bindsN (ps := ["_law_body"]) F__law_atoms fun _ _ _ _ _ _ us hl => match us, hl with | [_], _ => rfl
  obtain ⟨w__law_wild_rule, F__law_wild_rule⟩ := c.def_ 45 (d := d__law_wild_rule) rfl
  have F__law_wild_rule : FnP K "_law_wild_rule" "_law_wild_rule" (top 52) (He.ga K "_law_wild_rule") w__law_wild_rule := F__law_wild_rule
  have g__law_wild_rule := He.glo_ok X G (c.fact 32 (f := .glo "_law_wild_rule") rfl)
  have b__law_wild_rule := FunD.bindsN (ps := ["_law_stream"]) F__law_wild_rule fun _ _ _ _ _ _ us hl => match us, hl with | [_], _ => rfl
  obtain ⟨w__law_handed_rules, F__law_handed_rules⟩ := c.def_ 46 (d := d__law_handed_rules) rfl
  have F__law_handed_rules : FnP K "_law_handed_rules" "_law_handed_rules" (top 53) (He.ga K "_law_handed_rules") w__law_handed_rules := F__law_handed_rules
  have g__law_handed_rules := He.glo_ok X G (c.fact 33 (f := .glo "_law_handed_rules") rfl)
  have b__law_handed_rules := FunD.bindsN (ps := ["_law_stream", "_law_rules"]) F__law_handed_rules fun _ _ _ _ _ _ us hl => match us, hl with | [_, _], _ => rfl
  obtain ⟨w__law_same, F__law_same⟩ := c.def_ 47 (d := d__law_same) rfl
  have F__law_same : FnP K "_law_same" "_law_same" (top 47) (He.ga K "_law_same") w__law_same := F__law_same
  have g__law_same := He.glo_ok X G (c.fact 34 (f := .glo "_law_same") rfl)
  have b__law_same := FunD.bindsN (ps := ["_law_found", "_law_due"]) F__law_same fun _ _ _ _ _ _ us hl => match us, hl with | [_, _], _ => rfl
  obtain ⟨w__law_all_relations, F__law_all_relations⟩ := c.def_ 48 (d := d__law_all_relations) rfl
  have F__law_all_relations : FnP K "_law_all_relations" "_law_all_relations" (top 55) (He.ga K "_law_all_relations") w__law_all_relations := F__law_all_relations
  have g__law_all_relations := He.glo_ok X G (c.fact 35 (f := .glo "_law_all_relations") rfl)
  have b__law_all_relations := FunD.bindsN (ps := ["_law_body"]) F__law_all_relations fun _ _ _ _ _ _ us hl => match us, hl with | [_], _ => rfl
  obtain ⟨w__law_tried, F__law_tried⟩ := c.def_ 49 (d := d__law_tried) rfl
  have F__law_tried : FnP K "_law_tried" "_law_tried" (top 54) (He.ga K "_law_tried") w__law_tried := F__law_tried
  have g__law_tried := He.glo_ok X G (c.fact 36 (f := .glo "_law_tried") rfl)
  have b__law_tried := FunD.bindsN (ps := ["_law_ask"]) F__law_tried fun _ _ _ _ _ _ us hl => match us, hl with | [_], _ => rfl
  obtain ⟨w__law_told_right, F__law_told_right⟩ := c.def_ 50 (d := d__law_told_right) rfl
  have F__law_told_right : FnP K "_law_told_right" "_law_told_right" (top 56) (He.ga K "_law_told_right") w__law_told_right := F__law_told_right
  have g__law_told_right := He.glo_ok X G (c.fact 37 (f := .glo "_law_told_right") rfl)
  have b__law_told_right := FunD.bindsN (ps := ["_law_made", "_law_rules"]) F__law_told_right fun _ _ _ _ _ _ us hl => match us, hl with | [_, _], _ => rfl
  obtain ⟨w__law_changed_right, F__law_changed_right⟩ := c.def_ 51 (d := d__law_changed_right) rfl
  have F__law_changed_right : FnP K "_law_changed_right" "_law_changed_right" (top 57) (He.ga K "_law_changed_right") w__law_changed_right := F__law_changed_right
  have g__law_changed_right := He.glo_ok X G (c.fact 38 (f := .glo "_law_changed_right") rfl)
  have b__law_changed_right := FunD.bindsN (ps := ["_law_stream", "_law_made", "_law_rules"]) F__law_changed_right fun _ _ _ _ _ _ us hl => match us, hl with | [_, _, _], _ => rfl
  obtain ⟨w__law_refused_right, F__law_refused_right⟩ := c.def_ 52 (d := d__law_refused_right) rfl
  have F__law_refused_right : FnP K "_law_refused_right" "_law_refused_right" (top 58) (He.ga K "_law_refused_right") w__law_refused_right := F__law_refused_right
  have g__law_refused_right := He.glo_ok X G (c.fact 39 (f := .glo "_law_refused_right") rfl)
  have b__law_refused_right := FunD.bindsN (ps := ["_law_stream", "_law_rules"]) F__law_refused_right fun _ _ _ _ _ _ us hl => match us, hl with | [_, _], _ => rfl
  obtain ⟨w_law, F_law⟩ := c.def_ 53 (d := d_law) rfl
  have F_law : FnP K "law" "law" (top 59) (He.ga K "law") w_law := F_law
  have g_law := He.glo_ok X G (c.fact 40 (f := .glo "law") rfl)
  have e := hfa.symm.trans g_law
  cases e
  have b := FunD.bindsA (ps := ["_law_script"]) F_law fun _ _ _ _ _ _ us hl => match us, hl with | [_], _ => rfl

  have hco_law : w_law.code = .ref (He.cT K ("law", none)).1 := by
    obtain ⟨oc, od, dV, kV, doc, pm, an, cdv, ct, osl, hw, lk, hcd, _, _⟩ := F_law.ex
    obtain ⟨co, rfl⟩ := He.codeIn_ref hcd
    have q : w_law.code = .ref co := by rw [hw]
    have lk2 : K.lookup (He.fAd K ("law", none)) = some ⟨oc, od, .func w_law, osl⟩ := lk
    show w_law.code = .ref (He.codeOf K ("law", none))
    rw [He.codeOf_eq lk2 q]
    exact q
  have hco__law_changed_right : w__law_changed_right.code = .ref (He.cT K ("_law_changed_right", none)).1 := by
    obtain ⟨oc, od, dV, kV, doc, pm, an, cdv, ct, osl, hw, lk, hcd, _, _⟩ := F__law_changed_right.ex
    obtain ⟨co, rfl⟩ := He.codeIn_ref hcd
    have q : w__law_changed_right.code = .ref co := by rw [hw]
    have lk2 : K.lookup (He.fAd K ("_law_changed_right", none)) = some ⟨oc, od, .func w__law_changed_right, osl⟩ := lk
    show w__law_changed_right.code = .ref (He.codeOf K ("_law_changed_right", none))
    rw [He.codeOf_eq lk2 q]
    exact q
  have hco__law_refused_right : w__law_refused_right.code = .ref (He.cT K ("_law_refused_right", none)).1 := by
    obtain ⟨oc, od, dV, kV, doc, pm, an, cdv, ct, osl, hw, lk, hcd, _, _⟩ := F__law_refused_right.ex
    obtain ⟨co, rfl⟩ := He.codeIn_ref hcd
    have q : w__law_refused_right.code = .ref co := by rw [hw]
    have lk2 : K.lookup (He.fAd K ("_law_refused_right", none)) = some ⟨oc, od, .func w__law_refused_right, osl⟩ := lk
    show w__law_refused_right.code = .ref (He.codeOf K ("_law_refused_right", none))
    rw [He.codeOf_eq lk2 q]
    exact q
  refine ⟨w_law, [(He.cT K ("_law_changed_right", none)), (He.cT K ("_law_refused_right", none))], spLaw K (He.cT K ("_law_changed_right", none)).2 (He.cT K ("_law_refused_right", none)).2, (fun p hp => by
    rcases List.mem_cons.mp hp with rfl | hp
    · exact s.empty _ List.mem_cons_self
    · rw [List.mem_singleton.mp hp]
      exact s.empty _ (List.mem_cons_of_mem _ List.mem_cons_self)), (fun p hp => by
    rcases List.mem_cons.mp hp with rfl | hp
    · exact s.out _ List.mem_cons_self
    · rw [List.mem_singleton.mp hp]
      exact s.out _ (List.mem_cons_of_mem _ List.mem_cons_self)), (fun p hp => by
    rcases List.mem_cons.mp hp with rfl | hp
    · exact PySem.W.codeHd_of_K X (s.hd _ List.mem_cons_self)
    · rw [List.mem_singleton.mp hp]
      exact PySem.W.codeHd_of_K X (s.hd _ (List.mem_cons_of_mem _ List.mem_cons_self))), fun s v => b s [v] rfl, fun H a ns hl _ hT hS => ⟨a, ns, rfl, hS, hl, hT _ List.mem_cons_self, hT _ (List.mem_cons_of_mem _ List.mem_cons_self), fun _ => rfl⟩, fun base hK hG hTB => ?_⟩
  have Cal_is_integer : Cal l.prog w K mg base "is_integer" _ _ _ := ⟨⟨_, _, g_is_integer, F_is_integer.kp, (ok_is_integer F_is_integer T), b_is_integer⟩⟩
  have Cal_is_name : Cal l.prog w K mg base "is_name" _ _ _ := ⟨⟨_, _, g_is_name, F_is_name.kp, (ok_is_name F_is_name T), b_is_name⟩⟩
  have Cal_is_letter : Cal l.prog w K mg base "is_letter" _ _ _ := ⟨⟨_, _, g_is_letter, F_is_letter.kp, (ok_is_letter F_is_letter T), b_is_letter⟩⟩
  have Cal_is_thing : Cal l.prog w K mg base "is_thing" _ _ _ := ⟨⟨_, _, g_is_thing, F_is_thing.kp, (ok_is_thing F_is_thing T Cal_is_integer Cal_is_name), b_is_thing⟩⟩
  have Cal_is_term : Cal l.prog w K mg base "is_term" _ _ _ := ⟨⟨_, _, g_is_term, F_is_term.kp, (ok_is_term F_is_term T Cal_is_thing Cal_is_letter), b_is_term⟩⟩
  have Cal__is_row : Cal l.prog w K mg base "_is_row" _ _ _ := ⟨⟨_, _, g__is_row, F__is_row.kp, (ok_is_row F__is_row T Cal_is_name), b__is_row⟩⟩
  have Cal_as_atom : Cal l.prog w K mg base "as_atom" _ _ _ := ⟨⟨_, _, g_as_atom, F_as_atom.kp, (ok_as_atom F_as_atom T Cal__is_row Cal_is_term), b_as_atom⟩⟩
  have Cal__as_not : Cal l.prog w K mg base "_as_not" _ _ _ := ⟨⟨_, _, g__as_not, F__as_not.kp, (ok_as_not F__as_not T Cal_as_atom), b__as_not⟩⟩
  have Cal__as_unlike : Cal l.prog w K mg base "_as_unlike" _ _ _ := ⟨⟨_, _, g__as_unlike, F__as_unlike.kp, (ok_as_unlike F__as_unlike T Cal_is_term), b__as_unlike⟩⟩
  have Cal_as_part : Cal l.prog w K mg base "as_part" _ _ _ := ⟨⟨_, _, g_as_part, F_as_part.kp, (ok_as_part F_as_part T Cal_as_atom Cal__as_not Cal__as_unlike), b_as_part⟩⟩
  have Cal_as_body : Cal l.prog w K mg base "as_body" _ _ _ := ⟨⟨_, _, g_as_body, F_as_body.kp, (ok_as_body F_as_body T Cal_as_part), b_as_body⟩⟩
  have Cal_as_rule : Cal l.prog w K mg base "as_rule" _ _ _ := ⟨⟨_, _, g_as_rule, F_as_rule.kp, (ok_as_rule F_as_rule T Cal_as_atom Cal_as_body), b_as_rule⟩⟩
  have Cal_is_plain : Cal l.prog w K mg base "is_plain" _ _ _ := ⟨⟨_, _, g_is_plain, F_is_plain.kp, (ok_is_plain F_is_plain T), b_is_plain⟩⟩
  have Cal_atom_of : Cal l.prog w K mg base "atom_of" _ _ _ := ⟨⟨_, _, g_atom_of, F_atom_of.kp, (ok_atom_of F_atom_of T), b_atom_of⟩⟩
  have Cal_terms_of : Cal l.prog w K mg base "terms_of" _ _ _ := ⟨⟨_, _, g_terms_of, F_terms_of.kp, (ok_terms_of F_terms_of T), b_terms_of⟩⟩
  have Cal_letters_in : Cal l.prog w K mg base "letters_in" _ _ _ := ⟨⟨_, _, g_letters_in, F_letters_in.kp, (ok_letters_in F_letters_in T Cal_terms_of Cal_is_letter), b_letters_in⟩⟩
  have Cal_loose_letters : Cal l.prog w K mg base "loose_letters" _ _ _ := ⟨⟨_, _, g_loose_letters, F_loose_letters.kp, (ok_loose_letters F_loose_letters T Cal_is_plain Cal_letters_in), b_loose_letters⟩⟩
  have Cal_loose_in_rule : Cal l.prog w K mg base "loose_in_rule" _ _ _ := ⟨⟨_, _, g_loose_in_rule, F_loose_in_rule.kp, (ok_loose_in_rule F_loose_in_rule T Cal_is_plain Cal_loose_letters), b_loose_in_rule⟩⟩
  have Cal_atoms_of : Cal l.prog w K mg base "atoms_of" _ _ _ := ⟨⟨_, _, g_atoms_of, F_atoms_of.kp, (ok_atoms_of F_atoms_of T Cal_atom_of), b_atoms_of⟩⟩
  have Cal__uneven_place : Cal l.prog w K mg base "_uneven_place" _ _ _ := ⟨⟨_, _, g__uneven_place, F__uneven_place.kp, (ok_uneven_place F__uneven_place T), b__uneven_place⟩⟩
  have E_BadRule : ExCl l.prog w K mg base "BadRule" (He.ga K "BadRule") 1 ["index"] := ex1 O_BadRule m_BadRule (of_decide_eq_true y_fi_BadRule) (of_decide_eq_true y_ti_BadRule) (ok_BadRule_init F_BadRule___init__ O_BadRule n_BadRule_index) b_BadRule___init__
  have E_NoRule : ExCl l.prog w K mg base "NoRule" (He.ga K "NoRule") 1 ["number"] := ex1 O_NoRule m_NoRule (of_decide_eq_true y_fi_NoRule) (of_decide_eq_true y_ti_NoRule) (ok_NoRule_init F_NoRule___init__ O_NoRule n_NoRule_number) b_NoRule___init__
  have E_Uneven : ExCl l.prog w K mg base "Uneven" (He.ga K "Uneven") 1 ["index", "relation"] := ex2 O_Uneven m_Uneven (of_decide_eq_true y_fi_Uneven) (of_decide_eq_true y_ti_Uneven) (ok_Uneven_init F_Uneven___init__ O_Uneven n_Uneven_index n_Uneven_relation) b_Uneven___init__
  have E_Unsafe : ExCl l.prog w K mg base "Unsafe" (He.ga K "Unsafe") 1 ["index", "letter"] := ex2 O_Unsafe m_Unsafe (of_decide_eq_true y_fi_Unsafe) (of_decide_eq_true y_ti_Unsafe) (ok_Unsafe_init F_Unsafe___init__ O_Unsafe n_Unsafe_index n_Unsafe_letter) b_Unsafe___init__
  have Cal_check_even : CalX l.prog w K mg base "check_even" 3 ["rows"] (spX K (mEven (He.ga K "Uneven"))) := ⟨⟨_, _, g_check_even, F_check_even.kp, (ok_check_even F_check_even T Cal__uneven_place E_Uneven), b_check_even⟩⟩
  have Cal__check_safe : CalX l.prog w K mg base "_check_safe" 5 ["rules"] (spX K (mSafe (He.ga K "Unsafe"))) := ⟨⟨_, _, g__check_safe, F__check_safe.kp, (ok_check_safe F__check_safe T Cal_loose_in_rule E_Unsafe), b__check_safe⟩⟩
  have Cal_checked_rules : CalX l.prog w K mg base "checked_rules" 9 ["rules"] (spX K (mRules (He.ga K "BadRule") (He.ga K "Uneven") (He.ga K "Unsafe"))) := ⟨⟨_, _, g_checked_rules, F_checked_rules.kp, (ok_checked_rules F_checked_rules T Cal_as_rule Cal_atoms_of Cal_check_even Cal__check_safe E_BadRule), b_checked_rules⟩⟩
  have C_Rules : CalK l.prog w K mg base "Rules" (He.ga K "Rules") 10 ["self", "rules"] (mInit (He.ga K "BadRule") (He.ga K "Uneven") (He.ga K "Unsafe") (He.ga K "Rules")) := ⟨⟨_, _, hMk, ok_Rules_init F_Rules___init__ hCls no nom Cal_checked_rules, b_Rules___init__⟩, m_Rules⟩
  have Cal_is_number_of : Cal l.prog w K mg base "is_number_of" _ _ _ := ⟨⟨_, _, g_is_number_of, F_is_number_of.kp, (ok_is_number_of F_is_number_of T Cal_is_integer), b_is_number_of⟩⟩
  have Cal_listed : CalM l.prog w K mg base (He.ga K "Rules") "listed" 1 ["self"] (spF K (mOwnR (He.ga K "Rules") .lst)) := ⟨⟨_, _, M_listed, ok_Rules_listed F_Rules_listed T I no, b_Rules_listed⟩, hCls⟩
  have L_ex : ∃ g, PySem.W.findIn K (.ref (He.ga K "Rules")) "__len__" = some (some (.ref g)) ∧ PySem.W.isFn K (.ref g) = true ∧ L2.FnR l.prog w K mg base CX0 1 g (spD K (mOwnR (He.ga K "Rules") fun xs => .int (xs.length : Nat))) := ⟨_, M_len.at_, M_len.fn, (FnOk.raw (ok_Rules_len F_Rules___len__ T I no) b_Rules___len__ .nil).imp fun vs H Q E h => by rw [List.append_nil]; exact h⟩
  have Cal_made : CalM l.prog w K mg base (He.ga K "Rules") "made" 1 ["self"] (spF K (mOwnR (He.ga K "Rules") fun rs => .lst ((madeN rs).map .str))) := ⟨⟨_, _, M_made, ok_Rules_made F_Rules_made T I no, b_Rules_made⟩, hCls⟩
  have Cal_given : CalM l.prog w K mg base (He.ga K "Rules") "given" 3 ["self"] (spF K (mOwnR (He.ga K "Rules") fun rs => .lst ((givenN rs).map .str))) := ⟨⟨_, _, M_given, ok_Rules_given F_Rules_given T I no Cal_atoms_of, b_Rules_given⟩, hCls⟩
  have Cal_about : CalM l.prog w K mg base (He.ga K "Rules") "about" 1 ["self", "relation"] (spF K (mAbout (He.ga K "Rules"))) := ⟨⟨_, _, M_about, ok_Rules_about F_Rules_about T I no, b_Rules_about⟩, hCls⟩
  have Cal_without : CalMX l.prog w K mg base (He.ga K "Rules") "without" 12 ["self", "number"] (spX K (mWithout (He.ga K "BadRule") (He.ga K "Uneven") (He.ga K "Unsafe") (He.ga K "NoRule") (He.ga K "Rules"))) := ⟨⟨_, _, M_without, ok_Rules_without F_Rules_without T I no Cal_is_number_of C_Rules E_NoRule, b_Rules_without⟩, hCls⟩
  have OR_ex : ∃ (g : Addr) (gd : FuncData) (ps : List Str), PySem.W.findIn K (.ref (He.ga K "Rules")) (PySem.dunder Operator.BitOr.info.2) = some (some (.ref g)) ∧ PySem.W.isFn K (.ref g) = true ∧ FnOk l.prog w K mg base (L2.CX l.prog w) 12 g gd ps (spX K (mOr (He.ga K "BadRule") (He.ga K "Uneven") (He.ga K "Unsafe") (He.ga K "Rules"))) ∧ L2.Binds K gd ps [] := ⟨_, _, _, M_or.at_, M_or.fn, ok_Rules_or F_Rules___or__ T I no m_Rules C_Rules, b_Rules___or__⟩
  have O_ex : ∃ g, PySem.W.findIn K (.ref (He.ga K "Rules")) "__eq__" = some (some (.ref g)) ∧ PySem.W.isFn K (.ref g) = true ∧ L2.FnR l.prog w K mg base CX0 1 g (spD K (mEqR (He.ga K "Rules"))) := ⟨_, M_eq.at_, M_eq.fn, (FnOk.raw (ok_Rules_eq F_Rules___eq__ T I no m_Rules) b_Rules___eq__ .nil).imp fun vs H Q E h => by rw [List.append_nil]; exact h⟩
  have Cal__law_start : Cal l.prog w K mg base "_law_start" _ _ _ := ⟨⟨_, _, g__law_start, F__law_start.kp, (ok_start F__law_start T), b__law_start⟩⟩
  have Cal__law_draw : Cal l.prog w K mg base "_law_draw" 1 ["_law_stream", "_law_many"] (spR (Strm (T2 (He.cT K ("_law_changed_right", none)).2 (He.cT K ("_law_refused_right", none)).2)) K (mDraw (T2 (He.cT K ("_law_changed_right", none)).2 (He.cT K ("_law_refused_right", none)).2))) := ⟨⟨_, _, g__law_draw, F__law_draw.kp, FnOk.imp (ok_draw F__law_draw T) draw_R, b__law_draw⟩⟩
  have Cal__law_pick : Cal l.prog w K mg base "_law_pick" _ _ _ := ⟨⟨_, _, g__law_pick, F__law_pick.kp, (ok_L_pick F__law_pick T Cal__law_draw), b__law_pick⟩⟩
  have Cal__law_mixed : Cal l.prog w K mg base "_law_mixed" _ _ _ := ⟨⟨_, _, g__law_mixed, F__law_mixed.kp, (ok_L_mixed F__law_mixed T Cal__law_draw), b__law_mixed⟩⟩
  have Cal__law_each_once : Cal l.prog w K mg base "_law_each_once" _ _ _ := ⟨⟨_, _, g__law_each_once, F__law_each_once.kp, (ok_L_each_once F__law_each_once T), b__law_each_once⟩⟩
  have Cal__law_is_letter : Cal l.prog w K mg base "_law_is_letter" _ _ _ := ⟨⟨_, _, g__law_is_letter, F__law_is_letter.kp, (ok_L_is_letter F__law_is_letter T), b__law_is_letter⟩⟩
  have Cal__law_letters : Cal l.prog w K mg base "_law_letters" _ _ _ := ⟨⟨_, _, g__law_letters, F__law_letters.kp, (ok_L_letters F__law_letters T Cal__law_each_once Cal__law_is_letter), b__law_letters⟩⟩
  have Cal__law_atoms : Cal l.prog w K mg base "_law_atoms" _ _ _ := ⟨⟨_, _, g__law_atoms, F__law_atoms.kp, (ok_L_atoms F__law_atoms T), b__law_atoms⟩⟩
  have Cal__law_wild_rule : Cal l.prog w K mg base "_law_wild_rule" _ _ _ := ⟨⟨_, _, g__law_wild_rule, F__law_wild_rule.kp, (ok_L_wild_rule F__law_wild_rule T Cal__law_pick Cal__law_mixed Cal__law_draw Cal__law_atoms Cal__law_letters), b__law_wild_rule⟩⟩
  have Cal__law_handed_rules : Cal l.prog w K mg base "_law_handed_rules" _ _ _ := ⟨⟨_, _, g__law_handed_rules, F__law_handed_rules.kp, (ok_L_handed_rules F__law_handed_rules T Cal__law_pick), b__law_handed_rules⟩⟩
  have Cal__law_all_relations : Cal l.prog w K mg base "_law_all_relations" _ _ _ := ⟨⟨_, _, g__law_all_relations, F__law_all_relations.kp, (ok_L_all_relations F__law_all_relations T), b__law_all_relations⟩⟩
  have Cal__law_same : Cal l.prog w K mg base "_law_same" 10 ["_law_found", "_law_due"] (spD K (mSame 9)) := ⟨⟨_, _, g__law_same, F__law_same.kp, ok_L_same F__law_same T g__law_same F__law_same.kp b__law_same 9, b__law_same⟩⟩
  have Cal__law_told_right : Cal l.prog w K mg base "_law_told_right" 12 ["_law_made", "_law_rules"] (spD K (mTold (He.ga K "Rules"))) := ⟨⟨_, _, g__law_told_right, F__law_told_right.kp, ok_L_told_right F__law_told_right T L_ex Cal_listed Cal_made Cal_given Cal_about Cal__law_all_relations Cal__law_each_once Cal__law_same, b__law_told_right⟩⟩
  have hPP : (He.cT K ("_law_changed_right", none)).2 ≠ (He.cT K ("_law_refused_right", none)).2 := of_decide_eq_true y_cc
  have Cal__law_changed_right : Cal l.prog w K mg base "_law_changed_right" 16 ["_law_stream", "_law_made", "_law_rules"] (spR (Strm (T2 (He.cT K ("_law_changed_right", none)).2 (He.cT K ("_law_refused_right", none)).2)) K (mChanged (T2 (He.cT K ("_law_changed_right", none)).2 (He.cT K ("_law_refused_right", none)).2) (He.ga K "Rules"))) := ⟨⟨_, _, g__law_changed_right, F__law_changed_right.kp, ok_L_changed_right F__law_changed_right hco__law_changed_right T RE I y_sf O_ex (He.eqO_ok y_ne) OR_ex Cal_listed Cal_without C_Rules g__law_tried F__law_tried b__law_tried (hTB _ List.mem_cons_self) hPP Cal__law_draw Cal__law_wild_rule Cal__law_same, b__law_changed_right⟩⟩
  have Cal__law_refused_right : Cal l.prog w K mg base "_law_refused_right" 16 ["_law_stream", "_law_rules"] (spR (Strm (T2 (He.cT K ("_law_changed_right", none)).2 (He.cT K ("_law_refused_right", none)).2)) K (mRefused (T2 (He.cT K ("_law_changed_right", none)).2 (He.cT K ("_law_refused_right", none)).2))) := ⟨⟨_, _, g__law_refused_right, F__law_refused_right.kp, ok_L_refused_right F__law_refused_right hco__law_refused_right T RE C_Rules g__law_tried F__law_tried b__law_tried (hTB _ (List.mem_cons_of_mem _ List.mem_cons_self)) hPP Cal__law_draw Cal__law_pick, b__law_refused_right⟩⟩
  exact ok_law F_law hco_law hPP T I O_ex (He.eqO_ok y_ne) Cal_listed C_Rules Cal__law_start Cal__law_draw Cal__law_wild_rule Cal__law_handed_rules Cal__law_told_right Cal__law_changed_right Cal__law_refused_right
end L03

set_option Elab.async false
set_option linter.all false
set_option maxRecDepth 100000
set_option maxHeartbeats 0
namespace L03
open PySem PySem.Spec PyProof.Rows L2
abbrev RR : PySem.W.OpenRow := PySem.W.OpenLaw.row PySem.Challenge.rw_rulehouse_k03_rules_kept
abbrev hkX : PySem.W.Hook := He.hookX 5 fa fn [] laws extra
def obX (s : PySem.W.SharedT) : He.AlX := He.obsX 5 fa fn [] laws extra (HandSHeadRun.getT s)
theorem obX_eq (s : PySem.W.SharedT) : obX s = hkX.obs s.abs := He.obsX_eq (HandSHeadRun.getT_eq s)
def names0 : List PySem.Str := [PySem.Str.ofString "HouseError", PySem.Str.ofString "BadRule", PySem.Str.ofString "NoRule", PySem.Str.ofString "Uneven", PySem.Str.ofString "Unsafe", PySem.Str.ofString "SMALL", PySem.Str.ofString "CAPITALS", PySem.Str.ofString "FIGURES", PySem.Str.ofString "NAME_SIGNS", PySem.Str.ofString "BARRED_NAMES", PySem.Str.ofString "LONGEST_NAME", PySem.Str.ofString "LONGEST_LETTER", PySem.Str.ofString "is_integer", PySem.Str.ofString "is_name", PySem.Str.ofString "is_thing", PySem.Str.ofString "is_letter", PySem.Str.ofString "is_term", PySem.Str.ofString "MOST_TERMS", PySem.Str.ofString "_is_row", PySem.Str.ofString "as_atom", PySem.Str.ofString "_as_not", PySem.Str.ofString "_as_unlike", PySem.Str.ofString "as_part", PySem.Str.ofString "as_body", PySem.Str.ofString "as_rule", PySem.Str.ofString "is_plain", PySem.Str.ofString "atom_of", PySem.Str.ofString "terms_of", PySem.Str.ofString "letters_in", PySem.Str.ofString "loose_letters", PySem.Str.ofString "loose_in_rule", PySem.Str.ofString "atoms_of", PySem.Str.ofString "check_even", PySem.Str.ofString "_uneven_place", PySem.Str.ofString "_check_safe"]
def names1 : List PySem.Str := [PySem.Str.ofString "checked_rules", PySem.Str.ofString "Rules", PySem.Str.ofString "is_number_of", PySem.Str.ofString "_law_start", PySem.Str.ofString "_law_draw", PySem.Str.ofString "_law_pick", PySem.Str.ofString "_law_mixed", PySem.Str.ofString "_law_same", PySem.Str.ofString "_law_each_once", PySem.Str.ofString "_law_is_letter", PySem.Str.ofString "_law_atoms", PySem.Str.ofString "_law_letters", PySem.Str.ofString "_law_wild_rule", PySem.Str.ofString "_law_handed_rules", PySem.Str.ofString "_law_tried", PySem.Str.ofString "_law_all_relations", PySem.Str.ofString "_law_told_right", PySem.Str.ofString "_law_changed_right", PySem.Str.ofString "_law_refused_right"]
def names : List PySem.Str := names0 ++ names1
theorem run (w : World) : HandSHeadRun.RunEq RR (PySem.W.view RR.prog [59]) hkX obX 4000 names w := by
  intro os
  kernel_rfl
end L03
open PySem PySem.W PySem.Calls PyProof.Rows
theorem PySem.Challenge.cw_rulehouse_k03_rules_kept_holds : PySem.Challenge.rw_rulehouse_k03_rules_kept.Holds := by
  w_on; o_law
  refine HandSHeadRun.head_any (r := OpenLaw.row PySem.Challenge.rw_rulehouse_k03_rules_kept) (q := view (OpenLaw.row PySem.Challenge.rw_rulehouse_k03_rules_kept).prog [59]) (H := L03.hkX) (ob := L03.obX) (M := 4000) (loose := L03.names) (d := HandSHeadRun.topDef (OpenLaw.row PySem.Challenge.rw_rulehouse_k03_rules_kept).prog 59) (kwd := []) L03.obX_eq
    (by kernel_rfl) (fun s => by kernel_rfl) L03.run (by kernel_rfl) (by kernel_rfl) (by kernel_rfl) (by rfl) (by first | assumption | decide +kernel) (by decide +kernel) ⟨rfl, rfl, rfl, rfl, rfl, by decide +kernel⟩ ?hw ?hc
  case hw => w_witness2
  case hc =>
    refine LamX.walk_ofTsE (l := PySem.Challenge.rw_rulehouse_k03_rules_kept) (n := 63) (k := 18) (x := "_law_script") (CX := fun _ => L2.CX0) rfl (by decide) (by kernel_rfl) ⟨rfl, by decide, by decide⟩ ?F (fun _ _ _ _ _ z => z)
    intro w mg fa h Y G hmg0
    obtain ⟨K, KX, c⟩ := Y
    have hmg : mg ("law" : PySem.Str) = some (.ref fa) := by
      have e : (HandSHeadRun.topDef (OpenLaw.row PySem.Challenge.rw_rulehouse_k03_rules_kept).prog 59).name = ("law" : PySem.Str) := by kernel_rfl
      rw [← e]
      exact hmg0
    exact ⟨K, KX, L03.facts KX G hmg c⟩

