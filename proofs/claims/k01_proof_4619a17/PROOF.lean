import PyProof.Rows.All
import Wide.All
import OpenK.AllK
import KE.KeyNested
import KE.KDictWalk
import HandS.ForMost
import HandS.IsInst
import KE.KDictItemsList
import HandS.DictTup
import HandS.ListItems
import Wide.FinOn
import HandS.Style
import HandS.DictComp
import HandS.SetKeys
import HandS.Conv
import HandS.Zip
import HandS.NoneIn
import HandS.Defaults
import HandS.Evl
import HandS.Deep
import HandS.Codes
import HandS.Exc
import HandS.ExcInit
import KE.SortData
import KE.DataEq
import HandS.TupAny
import HandS.TupLen
import HandS.Text
import HandS.WordsDict
import HandS.SlotsOwn
import HandS.Lambda
import HandS.ExcField
import HandS.TryMany
import HandS.TupMul
import HandS.WordsExc
import KE.GoesEnum
import KE.SortKeyHeap
import HandS.SortKw
import OpenK.KMeth
import KE.KDictSum
import HandS.ExcValue
import HandS.ExcOwn
import KE.KxText
import PyProof.EqKinds
import PyProof.FactsAll.dict_1
import HandS.DictEq
import HandS.HeadHook4
import HandS.HeadWalk
import KE.KStateDown
import Lean
import HandS.Head0
import HandS.Head1
import HandS.Head2
import HandS.HeadEnd
import PySem.Challenge.RW_rulehouse_k01_words_told
set_option Elab.async false
set_option linter.all false
set_option maxRecDepth 100000
set_option maxHeartbeats 4000000
/-! dicts whose keys are of any kinds: numbers, texts, None, tuples of these, side by side -/
namespace Q
open PySem PySem.Spec PyProof.Rows L2
open PySem.Sem (wp)
abbrev XRow := NestedKey × Value × Value
def entM (w : World) (x : XRow) : DictEntry := ⟨x.1.hash w, x.2.1, x.2.2⟩
/-- a key of a dict: what it is, not too deep -/
def KeyIs (h : Heap) (k : NestedKey) (v : Value) : Prop := NestedIs h k v ∧ k.depth ≤ 8
/-- what the dict at d holds -/
def MixAt (w : World) (h : Heap) (d : Addr) (xs : List XRow) : Prop := ∃ o es ep, h.get? d = some o ∧ o.ExactDict ∧ o.data = .dict es ep ∧ es.toList = xs.map (entM w) ∧ (xs.map (·.1)).Nodup
def rowAt (xs : List XRow) (k : NestedKey) : Option Value := (xs.find? fun x => decide (x.1 = k)).map (·.2.2)
def rowSet (k : NestedKey) (v : Value) (x : XRow) : XRow := if x.1 = k then (x.1, x.2.1, v) else x
def rowPut (xs : List XRow) (k : NestedKey) (u v : Value) : List XRow := if k ∈ xs.map (·.1) then xs.map (rowSet k v) else xs ++ [(k, u, v)]
/-- none of the first i rows is k's -/
def Before (xs : List XRow) (k : NestedKey) (i : Nat) : Prop := ∀ j, j < i → (xs[j]?.map (·.1)) ≠ some k
theorem Before.more {xs : List XRow} {k : NestedKey} {i x : Nat} (b : Before xs k i) (skip : ∀ j, i ≤ j → j < x → (xs[j]?.map (·.1)) ≠ some k) : Before xs k x := fun j hj => by
  rcases Nat.lt_or_ge j i with q | q
  · exact b j q
  · exact skip j q hj
theorem Before.succ {xs : List XRow} {k : NestedKey} {i : Nat} (b : Before xs k i) (n : (xs[i]?.map (·.1)) ≠ some k) : Before xs k (i + 1) := b.more fun j h1 h2 => by
  have : j = i := by omega
  subst this; exact n
theorem Before.all {xs : List XRow} {k : NestedKey} {i : Nat} (b : Before xs k i) (hi : xs.length ≤ i) : k ∉ xs.map (·.1) := fun m => by
  obtain ⟨x, hx, e⟩ := List.mem_map.mp m
  obtain ⟨j, hj⟩ := List.mem_iff_getElem?.mp hx
  have : j < xs.length := (List.getElem?_eq_some_iff.mp hj).1
  exact b j (by omega) (by rw [hj]; simp [e])
theorem one_place {xs : List XRow} {k : NestedKey} (hn : (xs.map (·.1)).Nodup) {i j : Nat} (hi : (xs[i]?.map (·.1)) = some k) (hj : (xs[j]?.map (·.1)) = some k) : i = j := by
  rw [← List.getElem?_map] at hi hj
  exact (List.getElem?_inj (List.getElem?_eq_some_iff.mp hi).1 hn).mp (hi.trans hj.symm)
section
variable {prog : Program} {w : World} {A : Around} {E : Value → Shared → Prop} {s : Shared}
theorem wp_ite {α : Type} {c : Prop} [Decidable c] {x y : Sem α} {Q : α → Shared → Prop} (h1 : wpAny (model prog w) A x Q E s) (h2 : wpAny (model prog w) A y Q E s) : wpAny (model prog w) A (if c then x else y) Q E s := by split <;> assumption
theorem quiet_table {u : Value} {k : NestedKey} {stored : List Value} {Q : Bool → Shared → Prop} (hk : KeyIs s.heap k u) (hs : ∀ v ∈ stored, ∃ j, KeyIs s.heap j v) (q : Q false s) :
    wpAny (model prog w) A (tableMayTell u stored) Q E s := by
  unfold tableMayTell
  split
  · exact wpAny_pure q
  refine wpAny_bind (quiet_key k u 8 s hk.1 hk.2 A E _ ?_)
  rw [if_neg (by decide)]
  refine wpAny_bind (wpAny_forIn_list _ (fun rest r s' => s' = s ∧ r = (none, ()) ∧ ∀ v ∈ rest, v ∈ stored) _ ?_ ?_ _ _ ⟨rfl, rfl, fun _ m => m⟩)
  · rintro v rest r t ⟨rfl, rfl, hr⟩
    obtain ⟨j, hj⟩ := hs v (hr v List.mem_cons_self)
    refine wpAny_bind (quiet_key j v 8 t hj.1 hj.2 A E _ ?_)
    rw [if_neg (by decide)]
    exact wpAny_pure ⟨rfl, rfl, fun z m => hr z (List.mem_cons_of_mem _ m)⟩
  · rintro r t ⟨rfl, rfl, _⟩
    exact wpAny_pure q
theorem eq_keys {x y : NestedKey} {u v : Value} {Q : Bool → Shared → Prop} (hu : A.units + 8 < cLine) (hx : KeyIs s.heap x u) (hy : KeyIs s.heap y v) (q : Q (decide (x = y)) s) : wpAny (model prog w) A (eqBool u v) Q E s := by
  refine eqAt_key x y A s u v hx.1 hy.1 ?_ prog w E Q (by rw [← NestedKey.decide_eq]; exact q)
  have := hx.2
  omega
theorem ent_get {es : Array DictEntry} {xs : List XRow} (he : es.toList = xs.map (entM w)) (j : Nat) : es[j]? = xs[j]?.map (entM w) := by rw [← Array.getElem?_toList, he, List.getElem?_map]
theorem ent_len {es : Array DictEntry} {xs : List XRow} (he : es.toList = xs.map (entM w)) : es.size = xs.length := by rw [← Array.length_toList, he, List.length_map]
theorem find_mix {d : Addr} {u : Value} {o : Obj} {es : Array DictEntry} {ep : Nat} {xs : List XRow} {k : NestedKey} {Q : Option Nat → Shared → Prop} (hu : A.units + 8 < cLine) (hk : KeyIs s.heap k u)
    (ho : s.heap.get? d = some o) (hd : o.data = .dict es ep) (he : es.toList = xs.map (entM w)) (his : ∀ x ∈ xs, KeyIs s.heap x.1 x.2.1) (hn : (xs.map (·.1)).Nodup)
    (no : k ∉ xs.map (·.1) → Q none s) (yes : ∀ j : Nat, (xs[j]?.map (·.1)) = some k → Q (some j) s) : wpAny (model prog w) A (dictFind d u (k.hash w)) Q E s := by
  have len : es.size = xs.length := ent_len he
  have rowOf : ∀ x, x < es.size → ∃ r, xs[x]? = some r ∧ es[x]? = some (entM w r) ∧ KeyIs s.heap r.1 r.2.1 := fun x hx => by
    have q : xs[x]? = some (xs[x]'(by omega)) := List.getElem?_eq_getElem _
    exact ⟨_, q, by rw [ent_get he, q]; rfl, his _ (List.mem_of_getElem? q)⟩
  have hashOf : ∀ j : Nat, (xs[j]?.map (·.1)) = some k → ((es[j]?.map (·.hash)) == some (k.hash w)) = true := fun j hj => by
    rw [ent_get he]
    cases q : xs[j]? with
    | none => rw [q] at hj; cases hj
    | some r =>
      rw [q] at hj
      have : r.1 = k := Option.some.inj hj
      subst this
      simp [entM]
  have stored : ∀ v ∈ (placesWithHash es.size (fun i => es[i]?.map (·.hash)) (k.hash w)).filterMap (fun i => es[i]?.map (·.key)), ∃ j, KeyIs s.heap j v := fun v hv => by
    obtain ⟨i, _, hi⟩ := List.mem_filterMap.mp hv
    cases q : es[i]? with
    | none => rw [q] at hi; cases hi
    | some e =>
      obtain ⟨r, _, q2, q3⟩ := rowOf i (Array.getElem?_eq_some_iff.mp q).1
      rw [q2] at hi
      cases hi
      exact ⟨_, q3⟩
  have fin : ∀ i, Before xs k i → ([] : List Nat) = (List.range' i (es.size - i)).filter (fun i => (es[i]?.map (·.hash)) == some (k.hash w)) → k ∉ xs.map (·.1) := fun i b hr => by
    refine Before.all (i := max i xs.length) (b.more fun j h1 h2 hj => ?_) (Nat.le_max_right _ _)
    have := List.filter_eq_nil_iff.mp hr.symm j (List.mem_range'_1.mpr ⟨h1, by omega⟩)
    exact this (hashOf j hj)
  unfold dictFind
  try with_reducible refine wpAny_holding ?_
  refine wpAny_bind (wpAny_dictEntries ho hd ?_)
  dsimp only
  have walk : wpAny (model prog w) A (dictWalkPlain d u (k.hash w) es (placesWithHash es.size (fun i => es[i]?.map (·.hash)) (k.hash w))) Q E s := by
    refine wpAny_bind (wpAny_forIn_list _ (fun rest b t => t = s ∧ b = (none, ()) ∧ ∃ i, Before xs k i ∧ i ≤ es.size ∧ rest = (List.range' i (es.size - i)).filter (fun i => (es[i]?.map (·.hash)) == some (k.hash w))) _ ?_ ?_ _ _
      ⟨rfl, rfl, 0, (fun _ h => absurd h (Nat.not_lt_zero _)), Nat.zero_le _, by rw [placesWithHash, List.range_eq_range', Nat.sub_zero]⟩)
    · rintro x rest b t ⟨rfl, rfl, i, hB, hi, hr⟩
      obtain ⟨hix, hxn, hpx, hskip, hrest⟩ := filter_range'_cons _ _ _ _ _ hr.symm
      have hlt : x < es.size := by omega
      obtain ⟨r, q1, q2, q3⟩ := rowOf x hlt
      have hBx : Before xs k x := hB.more fun j h1 h2 hj => by
        have := hskip j h1 h2
        rw [hashOf j hj] at this
        cases this
      have go : r.1 ≠ k → ∃ i, Before xs k i ∧ i ≤ es.size ∧ rest = (List.range' i (es.size - i)).filter (fun i => (es[i]?.map (·.hash)) == some (k.hash w)) := fun ne =>
        ⟨x + 1, hBx.succ (by rw [q1]; exact fun z => ne (Option.some.inj z)), hlt, by rw [hrest]; congr 2; omega⟩
      rw [q2]
      dsimp only
      by_cases hh : ((entM w r).hash == k.hash w) = true
      · rw [if_pos hh]
        refine wpAny_bind (wpAny_dictEpoch ho hd (wpAny_bind (eq_keys hu q3 hk (wpAny_bind (wpAny_dictEpoch ho hd ?_)))))
        show wpAny _ _ (if (ep != ep) = true then _ else _) _ E _
        rw [if_neg (by simp)]
        by_cases e : r.1 = k
        · rw [decide_eq_true e]
          exact wpAny_bind (wpAny_rule (wpAny_pure (wpAny_pure (yes x (by rw [q1, ← e]; rfl)))))
        · rw [decide_eq_false e]
          exact wpAny_bind (wpAny_rule (wpAny_pure ⟨rfl, rfl, go e⟩))
      · rw [if_neg hh]
        refine wpAny_pure ⟨rfl, rfl, go fun e => hh ?_⟩
        rw [← e]
        simp [entM]
    · rintro b t ⟨rfl, rfl, i, hB, hi, hr⟩
      exact wpAny_pure (no (fin i hB hr))
  have kinds : (∃ a, u = .ref a) ∨ carriedByValue u = true := by cases u <;> first | exact .inl ⟨_, rfl⟩ | exact .inr rfl
  have byStr : ∀ x t, u = .str x t → (es.all fun e => isExactStrKey e.key) = true → wpAny (model prog w) A (foundByValue d u es x) Q E s := fun x t eu hall => by
    subst eu
    have ek : k = .text x := by cases hk.1; rfl
    subst ek
    have isKey : ∀ (j : Nat) (r : XRow), xs[j]? = some r → r.2.1.isStr x = decide (r.1 = .text x) := fun j r hj => by
      have m := his r (List.mem_of_getElem? hj)
      have e1 : es[j]? = some (entM w r) := by rw [ent_get he, hj]; rfl
      have e2 : isExactStrKey (entM w r).key = true := by
        rw [Array.all_eq_true] at hall
        obtain ⟨hjs, ev⟩ := Array.getElem?_eq_some_iff.mp e1
        rw [← ev]
        exact hall j hjs
      obtain ⟨rk, ru, rv⟩ := r
      have m1 : NestedIs s.heap rk ru := m.1
      cases m1 <;> first | (cases e2; done) | skip
      rename_i y t'
      show (Value.str y t').isStr x = decide (NestedKey.text y = NestedKey.text x)
      by_cases e : y = x
      · subst e; simp [Value.isStr]
      · have : ¬ NestedKey.text y = NestedKey.text x := fun z => e (NestedKey.text.inj z)
        rw [decide_eq_false this]
        simp [Value.isStr, e]
    unfold foundByValue
    cases hf : es.findIdx? (fun e => e.key.isStr x) with
    | none =>
      refine wpAny_pure (no fun m => ?_)
      obtain ⟨r, hr, er⟩ := List.mem_map.mp m
      obtain ⟨j, hj⟩ := List.mem_iff_getElem?.mp hr
      have e1 : es[j]? = some (entM w r) := by rw [ent_get he, hj]; rfl
      have := Array.findIdx?_eq_none_iff.mp hf (entM w r) (Array.mem_of_getElem? e1)
      have e3 := isKey j r hj
      rw [decide_eq_true er] at e3
      rw [show (entM w r).key.isStr x = r.2.1.isStr x from rfl, e3] at this
      cases this
    | some i =>
      obtain ⟨hlt, hi, _⟩ := Array.findIdx?_eq_some_iff_getElem.mp hf
      obtain ⟨r, q1, q2, q3⟩ := rowOf i hlt
      have ei : es[i] = entM w r := by
        have := Array.getElem?_eq_getElem hlt
        rw [q2] at this
        exact (Option.some.inj this).symm
      have er : r.1 = .text x := by
        rw [ei] at hi
        have := isKey i r q1
        rw [show r.2.1.isStr x = true from hi] at this
        exact of_decide_eq_true this.symm
      simp only [q2]
      refine wpAny_bind (wpAny_dictEpoch ho hd (wpAny_bind (eq_keys hu q3 hk (wpAny_bind (wpAny_dictEpoch ho hd ?_)))))
      show wpAny _ _ (if (ep != ep) = true then _ else _) _ E _
      rw [if_neg (by simp), decide_eq_true er]
      exact wpAny_bind (wpAny_rule (wpAny_pure (yes i (by rw [q1, ← er]; rfl))))
  have noOld : ∀ a, u = .ref a → ¬ (es.any fun e => e.key == Value.ref a && e.hash != k.hash w) = true := fun a eu hany => by
    subst eu
    rw [← Array.any_toList, List.any_eq_true] at hany
    obtain ⟨e, hin, hc⟩ := hany
    rw [he] at hin
    obtain ⟨r, hr, rfl⟩ := List.mem_map.mp hin
    rw [Bool.and_eq_true, beq_iff_eq, bne_iff_ne] at hc
    have e1 : r.2.1 = Value.ref a := hc.1
    have m := (his r hr).1
    rw [e1] at m
    exact hc.2 (by show r.1.hash w = _; rw [NestedIs.inj _ _ _ m hk.1])
  have hkc := kinds
  have inv0 : ∀ (t : Shared) (b : Option (Option Nat) × Option Nat), True := fun _ _ => trivial
  have other : ∀ (places : List Nat), True := fun _ => trivial
  have hst := stored
  by_cases hp : ((u :: (placesWithHash es.size (fun i => es[i]?.map (·.hash)) (k.hash w)).filterMap (fun i => es[i]?.map (·.key))).all carriedByValue) = true
  · cases u
    case str x t =>
      dsimp only
      by_cases hs : (es.all fun e => isExactStrKey e.key) = true
      · rw [if_pos hs]; exact byStr x t rfl hs
      · rw [if_neg hs, if_pos hp]; exact walk
    all_goals (dsimp only; rw [if_pos hp]; exact walk)
  · have tail : ∀ tells : Bool, tells = false → True := fun _ _ => trivial
    cases u
    case' str x t =>
      dsimp only
      by_cases hs : (es.all fun e => isExactStrKey e.key) = true
      · rw [if_pos hs]; exact byStr x t rfl hs
      rw [if_neg hs, if_neg hp]
    case' ref a => rw [if_neg hp, if_neg (noOld a rfl)]
    case' none => rw [if_neg hp]
    case' bool => rw [if_neg hp]
    case' int => rw [if_neg hp]
    case' float | bytes | type | builtin | ellipsis | notImplemented => exfalso; cases hk.1
    all_goals try (exfalso; cases hk.1; done)
    all_goals (
      refine wp_ite ?_ ?_ <;> (first | refine wpAny_bind (wpAny_pure ?_) | refine wpAny_bind (quiet_table hk stored ?_)) <;> (
        rw [if_neg (by simp)]
        refine wpAny_bind (wpAny_forIn_list _ (fun rest b t => t = s ∧ ∃ i hit, b = (none, hit) ∧ i ≤ es.size ∧ rest = (List.range' i (es.size - i)).filter (fun i => (es[i]?.map (·.hash)) == some (k.hash w)) ∧
            ((hit = none ∧ Before xs k i) ∨ ∃ j : Nat, hit = some j ∧ j < i ∧ (xs[j]?.map (·.1)) = some k)) _ ?_ ?_ _ _
          ⟨rfl, 0, none, rfl, Nat.zero_le _, by rw [placesWithHash, List.range_eq_range', Nat.sub_zero], .inl ⟨rfl, fun _ h => absurd h (Nat.not_lt_zero _)⟩⟩)
        · rintro x rest b t ⟨rfl, i, hit, rfl, hi, hr, hH⟩
          obtain ⟨hix, hxn, hpx, hskip, hrest⟩ := filter_range'_cons _ _ _ _ _ hr.symm
          have hlt : x < es.size := by omega
          have hrest' : rest = (List.range' (x + 1) (es.size - (x + 1))).filter (fun i => (es[i]?.map (·.hash)) == some (k.hash w)) := by rw [hrest]; congr 2; omega
          obtain ⟨r, q1, q2, q3⟩ := rowOf x hlt
          have hHx : (hit = none ∧ Before xs k x) ∨ ∃ j : Nat, hit = some j ∧ j < x ∧ (xs[j]?.map (·.1)) = some k := by
            rcases hH with ⟨h0, hB⟩ | ⟨j, h1, h2, h3⟩
            · refine .inl ⟨h0, hB.more fun j h1 h2 hj => ?_⟩
              have := hskip j h1 h2
              rw [hashOf j hj] at this
              cases this
            · exact .inr ⟨j, h1, by omega, h3⟩
          have go : r.1 ≠ k → ((hit = none ∧ Before xs k (x + 1)) ∨ ∃ j : Nat, hit = some j ∧ j < x + 1 ∧ (xs[j]?.map (·.1)) = some k) := fun ne => by
            rcases hHx with ⟨h0, hB⟩ | ⟨j, h1, h2, h3⟩
            · exact .inl ⟨h0, hB.succ (by rw [q1]; exact fun z => ne (Option.some.inj z))⟩
            · exact .inr ⟨j, h1, by omega, h3⟩
          rw [q2]
          dsimp only
          by_cases hh : ((entM w r).hash == k.hash w) = true
          · rw [if_pos hh]
            refine wpAny_bind (wpAny_dictEpoch ho hd (wpAny_bind (eq_keys hu q3 hk (wpAny_bind (wpAny_dictEpoch ho hd ?_)))))
            show wpAny _ _ (if (ep != ep) = true then _ else _) _ E _
            rw [if_neg (by simp)]
            by_cases e : r.1 = k
            · have hx : (xs[x]?.map (·.1)) = some k := by rw [q1, ← e]; rfl
              rw [decide_eq_true e]
              rcases hHx with ⟨rfl, hB⟩ | ⟨j, h1, h2, h3⟩
              · first | rw [if_pos rfl] | skip
                simp only [Option.isSome_none, Bool.false_eq_true, if_false]
                first | refine wpAny_bind (wpAny_pure ?_) | skip
                refine wpAny_bind (wpAny_rule ?_)
                split
                · exact wpAny_pure (wpAny_pure (yes x hx))
                · exact wpAny_pure ⟨rfl, x + 1, some x, rfl, hlt, hrest', .inr ⟨x, rfl, Nat.lt_succ_self x, hx⟩⟩
              · exact absurd (one_place hn h3 hx) (by omega)
            · rw [decide_eq_false e]
              simp only [Bool.false_eq_true, if_false]
              refine wpAny_bind (wpAny_rule ?_)
              first | rw [if_neg (by simp)] | skip
              first
                | exact wpAny_pure ⟨rfl, x + 1, hit, rfl, hlt, hrest', go e⟩
                | exact wpAny_bind (wpAny_pure (wpAny_pure ⟨rfl, x + 1, hit, rfl, hlt, hrest', go e⟩))
          · rw [if_neg hh]
            refine wpAny_pure ⟨rfl, x + 1, hit, rfl, hlt, hrest', go fun e => hh ?_⟩
            rw [← e]
            simp [entM]
        · rintro b t ⟨rfl, i, hit, rfl, hi, hr, hH⟩
          rcases hH with ⟨rfl, hB⟩ | ⟨j, rfl, _, h3⟩
          · exact wpAny_pure (no (fin i hB hr))
          · exact wpAny_pure (yes j h3)))
/-- a dict and its keys -/
structure MixD (w : World) (s : Shared) (d : Addr) (xs : List XRow) : Prop where
  at_ : MixAt w s.heap d xs
  keys : ∀ x ∈ xs, KeyIs s.heap x.1 x.2.1
theorem MixAt.typeIs {d : Addr} {xs : List XRow} (m : MixAt w s.heap d xs) : s.TypeIs (.ref d) "dict" := let ⟨o, _, _, ho, hc, _⟩ := m; ⟨o, ho, hc.1⟩
theorem row_of {xs : List XRow} {k : NestedKey} (hn : (xs.map (·.1)).Nodup) : ∀ {j : Nat} {r : XRow}, xs[j]? = some r → r.1 = k → rowAt xs k = some r.2.2 := by
  induction xs with
  | nil => intro j r h; simp at h
  | cons x xs ih =>
    intro j r h e
    rw [List.map_cons, List.nodup_cons] at hn
    unfold rowAt
    rw [List.find?_cons]
    cases j with
    | zero =>
      rw [List.getElem?_cons_zero] at h
      cases h
      rw [decide_eq_true e]
      rfl
    | succ j =>
      rw [List.getElem?_cons_succ] at h
      have ne : ¬ x.1 = k := fun z => hn.1 (by rw [z, ← e]; exact List.mem_map.mpr ⟨r, List.mem_of_getElem? h, rfl⟩)
      rw [decide_eq_false ne]
      exact ih hn.2 h e
theorem row_no {xs : List XRow} {k : NestedKey} (h : k ∉ xs.map (·.1)) : rowAt xs k = none := by
  unfold rowAt
  rw [List.find?_eq_none.mpr fun x hx e => h (List.mem_map.mpr ⟨x, hx, of_decide_eq_true e⟩)]
  rfl
theorem get_mix {d : Addr} {u : Value} {xs : List XRow} {k : NestedKey} {Q : Option Value → Shared → Prop} (hu : A.units + 8 < cLine) (hk : KeyIs s.heap k u) (m : MixD w s d xs)
    (q : Q (rowAt xs k) { s with toks := s.toks + k.draws }) : wpAny (model prog w) A (dictGet d u) Q E s := by
  obtain ⟨⟨o, es, ep, ho, hc, hd, he, hn⟩, his⟩ := m
  unfold dictGet
  try with_reducible refine wpAny_holding ?_
  have h2 := hk.2
  refine wpAny_bind (pyHash_key k u A s _ hk.1 (by omega) (wpAny_bind (find_mix (s := { s with toks := s.toks + k.draws }) hu hk ho hd he his hn (fun no => ?_) fun j hj => ?_)))
  · rw [row_no no] at q
    exact wpAny_pure q
  · cases hx : xs[j]? with
    | none => rw [hx] at hj; cases hj
    | some r =>
      rw [hx] at hj
      rw [row_of hn hx (Option.some.inj hj)] at q
      refine wpAny_bind (wpAny_dictEntries (s := { s with toks := s.toks + k.draws }) ho hd ?_)
      rw [ent_get he, hx]
      exact wpAny_pure q
theorem set_rows {xs : List XRow} {k : NestedKey} {v : Value} {w : World} : ∀ {ys : List XRow} {j : Nat} {r : XRow}, (ys.map (·.1)).Nodup → ys[j]? = some r → r.1 = k → (ys.map (entM w)).modify j (fun e => { e with val := v }) = (ys.map (rowSet k v)).map (entM w) := by
  intro ys
  induction ys with
  | nil => intro j r _ h; simp at h
  | cons y ys ih =>
    intro j r hn h e
    rw [List.map_cons, List.nodup_cons] at hn
    cases j with
    | zero =>
      rw [List.getElem?_cons_zero] at h
      cases h
      have same : ys.map (rowSet k v) = ys := by
        conv => rhs; rw [← List.map_id ys]
        refine List.map_congr_left fun z hz => if_neg fun q => hn.1 (by rw [e, ← q]; exact List.mem_map.mpr ⟨z, hz, rfl⟩)
      rw [List.map_cons, List.map_cons, List.map_cons, same]
      unfold rowSet
      rw [if_pos e]
      rfl
    | succ j =>
      rw [List.getElem?_cons_succ] at h
      have ne : ¬ y.1 = k := fun z => hn.1 (by rw [z, ← e]; exact List.mem_map.mpr ⟨r, List.mem_of_getElem? h, rfl⟩)
      rw [List.map_cons, List.map_cons, List.map_cons]
      unfold rowSet
      rw [if_neg ne]
      show entM w y :: (ys.map (entM w)).modify j _ = _
      rw [ih hn.2 h e]
      rfl
theorem set_keys (xs : List XRow) (k : NestedKey) (v : Value) : (xs.map (rowSet k v)).map (·.1) = xs.map (·.1) := by
  rw [List.map_map]
  refine List.map_congr_left fun x _ => ?_
  show (rowSet k v x).1 = x.1
  unfold rowSet
  split <;> rfl
theorem set_mix {d : Addr} {u v : Value} {xs : List XRow} {k : NestedKey} {Q : Unit → Shared → Prop} (hu : A.units + 8 < cLine) (hk : KeyIs s.heap k u) (m : MixD w s d xs)
    (q : ∀ h', MixAt w h' d (rowPut xs k u v) → Heap.SameBut d s.heap h' → Q () { s with heap := h', toks := s.toks + k.draws }) (hz : xs.length ≤ sizeLine) : wpAny (model prog w) A (dictSet d u v) Q E s := by
  obtain ⟨⟨o, es, ep, ho, hc, hd, he, hn⟩, his⟩ := m
  have len := ent_len he
  have h2 := hk.2
  unfold dictSet
  try with_reducible refine wpAny_holding ?_
  refine wpAny_bind (pyHash_key k u A s _ hk.1 (by omega) ?_)
  unfold dictSetHashed
  try with_reducible refine wpAny_holding ?_
  refine wpAny_bind (find_mix (s := { s with toks := s.toks + k.draws }) hu hk ho hd he his hn (fun no => ?_) fun j hj => ?_)
  · refine wpAny_bind (wpAny_rule (wpAny_updateDictKeys (hz := by omega) (s := { s with toks := s.toks + k.draws }) ho hd (q _ ⟨_, _, ep + 1, Heap.get?_update_self _ ho (Obj.isFreed_of_dict (Obj.data_mapDictKeys hd _)),
      hc.mapDictKeys _, Obj.data_mapDictKeys hd _, ?_, ?_⟩ (Heap.SameBut.update ..))))
    · unfold rowPut
      rw [if_neg no]
      simp [he, entM]
    · unfold rowPut
      rw [if_neg no, List.map_append, List.nodup_append]
      refine ⟨hn, by simp, fun x hx y hy e => no ?_⟩
      rw [List.map_cons, List.map_nil, List.mem_singleton] at hy
      have ex : x = k := e.trans hy
      rw [← ex]
      exact hx
  · cases hx : xs[j]? with
    | none => rw [hx] at hj; cases hj
    | some r =>
      rw [hx] at hj
      have er : r.1 = k := Option.some.inj hj
      have mem : k ∈ xs.map (·.1) := List.mem_map.mpr ⟨r, List.mem_of_getElem? hx, er⟩
      refine wpAny_bind (wpAny_rule (wpAny_bind (wpAny_updateDict (s := { s with toks := s.toks + k.draws }) ho hd (wpAny_point (q _ ⟨_, _, ep, Heap.get?_update_self _ ho (Obj.isFreed_of_dict (Obj.data_mapDict hd _)),
        hc.mapDict _, Obj.data_mapDict hd _, ?_, ?_⟩ (Heap.SameBut.update ..))))))
      · unfold rowPut
        rw [if_pos mem, ← set_rows (xs := xs) hn hx er, ← he]
        obtain ⟨l⟩ := es
        simp
      · unfold rowPut
        rw [if_pos mem, set_keys]
        exact hn
theorem getItem_mix {d : Addr} {u v : Value} {xs : List XRow} {k : NestedKey} {Q : Value → Shared → Prop} (hu : A.units + 9 < cLine) (hk : KeyIs s.heap k u) (m : MixD w s d xs) (there : rowAt xs k = some v)
    (q : Q v { s with toks := s.toks + k.draws }) : wpAny (model prog w) A (getItem (.ref d) u) Q E s := by
  have ty := m.at_.typeIs
  unfold getItem
  try with_reducible refine wpAny_holding ?_
  refine wpAny_bind (wpAny_sequenceKey ty (by decide) (wpAny_bind (wpAny_callSpecial?_slot (name := Str.ofString "__getitem__") ty F.slot_dict_getitem
    (wpAny_call_entry F.slot_dict_getitem ty F.entry_dict_getitem ?_ (F.args_dict_getitem_2 _ _)))))
  show wpAny _ _ (dictGet d u >>= _) _ _ s
  refine wpAny_bind (get_mix (by rw [Around.in1_units]; omega) hk m ?_)
  rw [there]
  exact wpAny_pure ⟨v, rfl, wpAny_pure q⟩
theorem setItem_mix {d : Addr} {u v : Value} {xs : List XRow} {k : NestedKey} {Q : Unit → Shared → Prop} (hu : A.units + 9 < cLine) (hk : KeyIs s.heap k u) (m : MixD w s d xs)
    (q : ∀ h', MixAt w h' d (rowPut xs k u v) → Heap.SameBut d s.heap h' → Q () { s with heap := h', toks := s.toks + k.draws }) (hz : xs.length ≤ sizeLine) : wpAny (model prog w) A (setItem (.ref d) u v) Q E s := by
  have ty := m.at_.typeIs
  unfold setItem
  try with_reducible refine wpAny_holding ?_
  refine wpAny_bind (wpAny_sequenceKey ty (by decide) (wpAny_bind (wpAny_callSpecial?_slot (name := Str.ofString "__setitem__") ty F.slot_dict_setitem
    (wpAny_call_entry F.slot_dict_setitem ty F.entry_dict_setitem ?_ (F.args_dict_setitem_3 _ _ _)))))
  show wpAny _ _ (Builtin.Dict.notOrdered "__setitem__" ⟨[.ref d, u, v], []⟩ >>= _) _ _ s
  refine wpAny_bind (wpAny_notOrdered_dict ty ?_)
  show wpAny _ _ (dictSet d u v >>= _) _ _ s
  exact wpAny_bind (set_mix (hz := hz) (by rw [Around.in1_units]; omega) hk m fun h' m' sb => wpAny_pure ⟨.none, rfl, wpAny_pure (q h' m' sb)⟩)
theorem meets_getM (d : Addr) (u v : Value) (hd : (d == sysModules) = false) :
    MeetsIn prog w (Builtin.«dict.get» ⟨[.ref d, u, v], []⟩) (fun A R s => A.units + 9 < cLine ∧ ∃ k xs, KeyIs s.heap k u ∧ MixD w s d xs ∧ R (.ok (.ret ((rowAt xs k).getD v))) { s with toks := s.toks + k.draws }) :=
  .of_wp fun A R s ⟨hu, k, xs, hk, m, q⟩ => by
    show wpAny _ _ (dictGet d u >>= _) _ _ s
    refine wpAny_bind (get_mix (by rw [Around.in1_units]; omega) hk m ?_)
    cases hf : rowAt xs k with
    | some z =>
      rw [hf] at q
      exact wpAny_pure ⟨z, rfl, q⟩
    | none =>
      rw [hf] at q
      show wpAny _ _ (Builtin.Dict.missed d u >>= _) _ _ _
      exact wpAny_bind (wpAny_missed_other hd (wpAny_pure ⟨v, rfl, q⟩))
end
end Q

set_option Elab.async false
set_option linter.all false
set_option maxRecDepth 100000
set_option maxHeartbeats 4000000
/-! dicts with keys of any kinds: as objects that are tracked, and what may be done with them -/
namespace Q
open PySem PySem.Spec PyProof.Rows L2
abbrev VRow := NestedKey × V × V
abbrev RowRel : List VRow → List XRow → Prop := Paired fun p q => p.1 = q.1 ∧ RelV p.2.1 q.2.1 ∧ RelV p.2.2 q.2.2
def mixO (w : World) (a : Addr) (kvs : List VRow) : HO := .ext fun h => (a == sysModules) = false ∧ kvs.length ≤ sizeLine ∧ ∃ xs, RowRel kvs xs ∧ MixAt w h a xs
theorem mixO_ok {P : Program} {w w' : World} {H : Hp} {h : Heap} {a : Addr} {kvs : List VRow} {xs : List XRow} (h1 : (a == sysModules) = false) (h2 : kvs.length ≤ sizeLine) (h3 : RowRel kvs xs) (h4 : MixAt w h a xs) : ObjOk P w' H h a (mixO w a kvs) :=
  ⟨⟨h1, h2, xs, h3, h4⟩, let ⟨o, _, _, ho, _⟩ := h4; ⟨o, ho⟩, fun g1 g2 ⟨k1, k2, ys, k3, o, es, ep, ho, r⟩ st => ⟨k1, k2, ys, k3, o, es, ep, st o ho, r⟩⟩
mutual
/-- the thing is the key -/
inductive KeyV (H : Hp) : NestedKey → V → Prop
  | non : KeyV H .none .non
  | num (i : Int) : KeyV H (.num i) (.int i)
  | text (x : Str) : KeyV H (.text x) (.str x)
  | tup {b : Addr} {vs : List V} {ks : List NestedKey} : H b = some (.tup vs) → KeysV H ks vs → KeyV H (.tup ks) (.ref b)
inductive KeysV (H : Hp) : List NestedKey → List V → Prop
  | nil : KeysV H [] []
  | cons {k : NestedKey} {v : V} {ks : List NestedKey} {vs : List V} : KeyV H k v → KeysV H ks vs → KeysV H (k :: ks) (v :: vs)
end
section
variable {P : Program} {w : World} {H H' : Hp} {h : Heap}
mutual
theorem KeyV.is (ok : HOk P w H h) : ∀ {k : NestedKey} {v : V} {u : Value}, KeyV H k v → RelV v u → NestedIs h k u
  | _, _, _, .non, r => by cases r; exact .none
  | _, _, _, .num i, r => by obtain ⟨t, e⟩ := (r : ∃ t, _ = Value.int i t); subst e; exact .int i t
  | _, _, _, .text x, r => by obtain ⟨t, e⟩ := (r : ∃ t, _ = Value.str x t); subst e; exact .text x t
  | _, _, _, .tup hb ks, r => by
    cases r
    obtain ⟨_, its, rs, o, ho, hc, n, hd⟩ := ok _ _ hb
    exact .tup ho hc hd (KeysV.is ok ks rs)
theorem KeysV.is (ok : HOk P w H h) : ∀ {ks : List NestedKey} {vs : List V} {us : List Value}, KeysV H ks vs → Vals vs us → NestedAll h ks us
  | _, _, _, .nil, r => by cases r; exact .nil
  | _, _, _, .cons k ks, r => by
    cases r with
    | cons r1 r2 => exact .cons (KeyV.is ok k r1) (KeysV.is ok ks r2)
end
mutual
theorem KeyV.same (e : ∀ b xs, H b = some (.tup xs) → H' b = some (.tup xs)) : ∀ {k : NestedKey} {v : V}, KeyV H k v → KeyV H' k v
  | _, _, .non => .non
  | _, _, .num i => .num i
  | _, _, .text x => .text x
  | _, _, .tup hb ks => .tup (e _ _ hb) (KeysV.same e ks)
theorem KeysV.same (e : ∀ b xs, H b = some (.tup xs) → H' b = some (.tup xs)) : ∀ {ks : List NestedKey} {vs : List V}, KeysV H ks vs → KeysV H' ks vs
  | _, _, .nil => .nil
  | _, _, .cons k ks => .cons (KeyV.same e k) (KeysV.same e ks)
end
end
def valM (kvs : List VRow) (k : NestedKey) : Option V := (kvs.find? fun p => decide (p.1 = k)).map (·.2.2)
def putMR (k : NestedKey) (v : V) (p : VRow) : VRow := if p.1 = k then (p.1, p.2.1, v) else p
def putM (kvs : List VRow) (k : NestedKey) (y v : V) : List VRow := if k ∈ kvs.map (·.1) then kvs.map (putMR k v) else kvs ++ [(k, y, v)]
theorem RowRel.keys : ∀ {kvs : List VRow} {xs : List XRow}, RowRel kvs xs → kvs.map (·.1) = xs.map (·.1)
  | _, _, .nil => rfl
  | _, _, .cons r t => by rw [List.map_cons, List.map_cons, r.1, RowRel.keys t]
theorem RowRel.val (k : NestedKey) : ∀ {kvs : List VRow} {xs : List XRow}, RowRel kvs xs → RelO (valM kvs k) (rowAt xs k)
  | _, _, .nil => True.intro
  | _, _, .cons (a := p) (b := q) r t => by
    unfold valM rowAt
    rw [List.find?_cons, List.find?_cons, r.1]
    cases decide (q.1 = k) with
    | true => exact r.2.2
    | false => exact RowRel.val k t
theorem RowRel.set (k : NestedKey) {v : V} {u : Value} (rv : RelV v u) : ∀ {kvs : List VRow} {xs : List XRow}, RowRel kvs xs → RowRel (kvs.map (putMR k v)) (xs.map (rowSet k u))
  | _, _, .nil => .nil
  | _, _, .cons (a := p) (b := q) r t => by
    refine .cons ?_ (RowRel.set k rv t)
    unfold putMR rowSet
    by_cases e : p.1 = k
    · have e2 : q.1 = k := r.1 ▸ e
      rw [if_pos e, if_pos e2]
      exact ⟨r.1, r.2.1, rv⟩
    · have e2 : ¬ q.1 = k := fun z => e (r.1.trans z)
      rw [if_neg e, if_neg e2]
      exact r
theorem RowRel.snoc {kvs : List VRow} {xs : List XRow} (h : RowRel kvs xs) {p : VRow} {q : XRow} (r : p.1 = q.1 ∧ RelV p.2.1 q.2.1 ∧ RelV p.2.2 q.2.2) : RowRel (kvs ++ [p]) (xs ++ [q]) := by
  induction h with
  | nil => exact .cons r .nil
  | cons h _ ih => exact .cons h ih
theorem RowRel.put (k : NestedKey) {y v : V} {uy uv : Value} (ry : RelV y uy) (rv : RelV v uv) {kvs : List VRow} {xs : List XRow} (h : RowRel kvs xs) : RowRel (putM kvs k y v) (rowPut xs k uy uv) := by
  unfold putM rowPut
  rw [RowRel.keys h]
  split
  · exact RowRel.set k rv h
  · exact RowRel.snoc h ⟨rfl, ry, rv⟩
theorem putM_len (kvs : List VRow) (k : NestedKey) (y v : V) : (putM kvs k y v).length ≤ kvs.length + 1 := by
  unfold putM
  split <;> simp
/-- at a stands a dict, its keys are what they are told to be -/
structure MGet (w : World) (H : Hp) (a : Addr) (kvs : List VRow) : Prop where
  rd : Rd H a (mixO w a kvs)
  keys : ∀ p ∈ kvs, KeyV H p.1 p.2.1 ∧ p.1.depth ≤ 8
theorem rel_get {kvs : List VRow} {xs : List XRow} (h : RowRel kvs xs) : ∀ {q : XRow}, q ∈ xs → ∃ p ∈ kvs, p.1 = q.1 ∧ RelV p.2.1 q.2.1 := by
  induction h with
  | nil => intro q m; cases m
  | cons r t ih =>
    intro q m
    rcases List.mem_cons.mp m with rfl | m
    · exact ⟨_, List.mem_cons_self, r.1, r.2.1⟩
    · obtain ⟨p, hp, e⟩ := ih m
      exact ⟨p, List.mem_cons_of_mem _ hp, e⟩
section
variable {X : Cx} {pins : List (Addr × Obj)} {σ : L2.St} {H : Hp} {s : Shared} {a : Addr} {kvs : List VRow}
theorem MGet.open (I : Inv X pins σ H s) (m : MGet X.w H a kvs) : (a == sysModules) = false ∧ kvs.length ≤ sizeLine ∧ ∃ xs, RowRel kvs xs ∧ MixD X.w s a xs := by
  obtain ⟨⟨h1, h2, xs, h3, h4⟩, _⟩ := m.rd.ok I.hok
  refine ⟨h1, h2, xs, h3, h4, fun q hq => ?_⟩
  obtain ⟨p, hp, e1, e2⟩ := rel_get h3 hq
  obtain ⟨k1, k2⟩ := m.keys p hp
  rw [e1] at k1 k2
  exact ⟨k1.is I.hok e2, k2⟩
theorem MixAt.noDict {w : World} {h : Heap} {xs : List XRow} (m : MixAt w h a xs) : ∀ b, Value.ref a = .ref b → ∃ ob, h.get? b = some ob ∧ ob.dict = none := fun b q => by
  cases q
  obtain ⟨ob, _, _, h1, h2, _⟩ := m
  exact ⟨ob, h1, h2.2.1⟩
end
/-- d[y], d[y] = v, d.get(y, z), {} -/
def tMGet (w : World) (td ty : TE) : TE := fun σ H Q => td σ H fun x H1 => ty σ H1 fun y H2 => ∃ a kvs k v, x = .ref a ∧ MGet w H2 a kvs ∧ KeyV H2 k y ∧ k.depth ≤ 8 ∧ valM kvs k = some v ∧ Q v H2
def sMPut (w : World) (td ty tv : TE) : TS := fun D σ H => tv σ H fun v H1 => td σ H1 fun x H2 => ty σ H2 fun y H3 => ∃ a kvs k, x = .ref a ∧ H3 a = some (mixO w a kvs) ∧ (∀ p ∈ kvs, KeyV H3 p.1 p.2.1 ∧ p.1.depth ≤ 8) ∧
  KeyV H3 k y ∧ k.depth ≤ 8 ∧ kvs.length < sizeLine ∧ D.nx σ (upd H3 a (mixO w a (putM kvs k y v)))
def tMGet2 (w : World) (td ty tx : TE) : TE := fun σ H Q => td σ H fun x H1 => ∃ a kvs0, x = .ref a ∧ MGet w H1 a kvs0 ∧ ty σ H1 fun y H2 => tx σ H2 fun z H3 => ∃ kvs k, MGet w H3 a kvs ∧ KeyV H3 k y ∧ k.depth ≤ 8 ∧ Q ((valM kvs k).getD z) H3
def tMNew (w : World) : TE := fun _ H Q => ∀ p, H p = none → Q (.ref p) (upd H p (mixO w p []))
section
variable {X : Cx} {o i e f value : Expr} {pos pos' apos cpos : Pos} {td ty tv tx : TE}
theorem pe_mnew : PE X (.Dict [] [] pos) (tMNew X.w) := ⟨fun pins s σ H Q I q =>
  wpAny_Dict_empty ⟨.ref s.heap.objs.size, _, I.laid (a := s.heap.objs.size) (o := mixO X.w s.heap.objs.size []) (t' := s.toks) (fun _ _ z => Heap.get?_push_of_some _ z) (Nat.le_refl _)
    (mixO_ok (beq_eq_false_iff_ne.mpr (Ne.symm (Nat.ne_of_lt I.big))) (Nat.zero_le _) .nil ⟨_, #[], 0, Heap.get?_push_size _ rfl, ⟨rfl, rfl, rfl⟩, rfl, rfl, List.nodup_nil⟩), rfl, q _ (I.hok.fresh (Nat.le_refl _))⟩⟩
theorem pe_mget (hu : X.A.units + 9 < cLine) (ho : PE X o td) (hi : PE X i ty) (hs : NoSl i) : PE X (.Subscript o i pos) (tMGet X.w td ty) := by
  refine ⟨fun pins s σ H Q I h => ?_⟩
  refine subD_of PySem.F.slot_dict_getitem.lookup hs (thn (ho.run pins s σ H _ I h) fun u s1 ⟨x, H1, I1, rx, q1⟩ => thn (hi.run pins s1 σ H1 _ I1 q1) fun iv s2 ⟨y, H2, I2, ry, a, kvs, k, v, ex, m, hk, dk, hv, q2⟩ => ?_)
  subst ex
  cases rx
  obtain ⟨hd, hz, xs, rel, md⟩ := m.open I2
  obtain ⟨w', hw, rw'⟩ := RelO.some_of (v := v) (o := rowAt xs k) (by rw [← hv]; exact rel.val k)
  exact ⟨md.at_.typeIs, getItem_mix hu ⟨hk.is I2.hok ry, dk⟩ md hw ⟨v, H2, I2.tok _, rw', q2⟩⟩
theorem ps_mput (hu : X.A.units + 9 < cLine) (ho : PE X o td) (hi : PE X i ty) (hv : PE X value tv) (hs : swapsWith value (some (.Subscript o i pos')) pos.line X.env = pure false) :
    PS X (.Assign [.Subscript o i pos'] value pos) (sMPut X.w td ty tv) := by
  refine ⟨fun pins s σ H D I h => ?_⟩
  refine wpAny_Assign_Subscript (thn (hv.run pins s σ H _ I h) fun r s1 ⟨v, H1, I1, rv, q1⟩ => thn (ho.run pins s1 σ H1 _ I1 q1) fun u s2 ⟨x, H2, I2, rx, q2⟩ => thn (hi.run pins s2 σ H2 _ I2 q2) fun iv s3 ⟨y, H3, I3, ry, a, kvs, k, ex, ha, hks, hk, dk, hl, q3⟩ => ?_) hs
  subst ex
  cases rx
  obtain ⟨hd, hz, xs, rel, md⟩ := MGet.open I3 (a := a) (kvs := kvs) ⟨.inl ha, hks⟩
  have lx : xs.length = kvs.length := (Paired.length rel).symm
  refine setItem_mix hu ⟨hk.is I3.hok ry, dk⟩ md (fun h' m' sb => ⟨σ, _, ?_, q3⟩) (by omega)
  have le := putM_len kvs k y v
  refine d_write I3 (by rw [ha]; exact True.intro) sb (let ⟨q, _, _, hq, _⟩ := m'; ⟨q, hq⟩) (mixO_ok hd (by omega) (rel.put k ry rv) m')
theorem pe_mget2 (hu : X.A.units + 9 < cLine) (ho : PE X o td) (he : PE X e ty) (hf : PE X f tx) (m : M2 X o "get" apos e f cpos) : PE X (.Call (.Attribute o "get" apos) [e, f] [] cpos) (tMGet2 X.w td ty tx) := by
  refine ⟨fun pins s σ H Q I h => ?_⟩
  refine wpAny_Call_method m.base m.few m.line PySem.F.plainAttrs_dict PySem.F.slot_dict_get PySem.F.type_dict_get (thn (ho.run pins s σ H _ I h) fun u s1 ⟨x, H1, I1, rx, a, kvs0, ex, m0, q1⟩ => ?_)
  subst ex
  cases rx
  obtain ⟨_, _, _, _, md0⟩ := m0.open I1
  refine ⟨md0.at_.typeIs, md0.at_.noDict, ?_⟩
  rw [m.trees]
  refine Calls.callWith_builtin rfl (Calls.evalArgs_plain (Calls.spliced_cons (thn (he.run pins s1 σ H1 _ I1 q1) fun iv s2 ⟨y, H2, I2, ry, q2⟩ =>
    Calls.spliced_cons (thn (hf.run pins s2 σ H2 _ I2 q2) fun fv s3 ⟨z, H3, I3, rz, kvs, k, mg, hk, dk, q3⟩ => Calls.spliced_nil ?_))))
  obtain ⟨hd, hz, xs, rel, md⟩ := mg.open I3
  exact call_meetsIn PySem.F.slot_dict_get md.at_.typeIs PySem.F.entry_dict_get (PySem.F.args_dict_get_3 _ _ _) (meets_getM a iv fv hd) ⟨hu, k, xs, ⟨hk.is I3.hok ry, dk⟩, md, _, H3, I3.tok _, (rel.val k).getD rz, q3⟩
end
/-! going through them -/
theorem rel_ix : ∀ {kvs : List VRow} {xs : List XRow}, RowRel kvs xs → ∀ {i : Nat} {p : VRow}, kvs[i]? = some p → ∃ q, xs[i]? = some q ∧ RelV p.2.1 q.2.1 ∧ RelV p.2.2 q.2.2
  | _, _, .nil, i, p, h => by simp at h
  | _, _, .cons r t, 0, p, h => by
    rw [List.getElem?_cons_zero] at h
    cases h
    exact ⟨_, rfl, r.2⟩
  | _, _, .cons r t, i + 1, p, h => rel_ix t (by simpa using h)
section
variable {X : Cx} {pins : List (Addr × Obj)} {σ : L2.St} {H : Hp} {s : Shared} {d : Addr} {o : Obj} {w : World} {kvs : List VRow}
theorem frzM (I : Inv X pins σ H s) (h : H d = some (.frz o (mixO w d kvs))) : (d == sysModules) = false ∧ s.heap.get? d = some o ∧ o.ExactDict ∧ kvs.length ≤ sizeLine ∧ ∃ (es : Array DictEntry) (ep : Nat), o.data = .dict es ep ∧ es.size = kvs.length ∧
    ∀ (i : Nat) (p : VRow), kvs[i]? = some p → ∃ en : DictEntry, es[i]? = some en ∧ RelV p.2.1 en.key ∧ RelV p.2.2 en.val := by
  obtain ⟨hd, ⟨h1, h2, xs, rel, o', es, ep, ho, hc, hdat, he, _⟩, _⟩ := I.hok d _ h
  rw [hd] at ho
  cases ho
  refine ⟨h1, hd, hc, h2, es, ep, hdat, ?_, fun i p hp => ?_⟩
  · rw [ent_len he]; exact (Paired.length rel).symm
  · obtain ⟨q, hq, r⟩ := rel_ix rel hp
    exact ⟨entM w q, by rw [ent_get he, hq]; rfl, r⟩
end
def ItkM (w : World) (d : Addr) (o : Obj) (kvs : List VRow) : It :=
  ⟨fun i H => H d = some (.frz o (mixO w d kvs)) ∧ i < kvs.length, fun i H x H' => H' = H ∧ ∃ p, kvs[i]? = some p ∧ x = p.2.1, fun i H => H d = some (.frz o (mixO w d kvs)) ∧ kvs.length ≤ i⟩
def ItiM (w : World) (d : Addr) (o : Obj) (kvs : List VRow) : It :=
  ⟨fun i H => H d = some (.frz o (mixO w d kvs)) ∧ i < kvs.length, fun i H x H' => ∃ T p, kvs[i]? = some p ∧ x = .ref T ∧ H T = none ∧ H' = upd H T (.tup [p.2.1, p.2.2]), fun i H => H d = some (.frz o (mixO w d kvs)) ∧ kvs.length ≤ i⟩
section
variable {P : Program} {w w' : World} {K : PySem.W.Frag} {tg : Expr} {d : Addr} {o : Obj} {es : Array DictEntry} {ep : Nat} {kvs : List VRow}
theorem same_ep {es' : Array DictEntry} {ep' : Nat} (h1 : o.data = .dict es ep) (h2 : o.data = .dict es' ep') : es = es' ∧ ep = ep' := by
  rw [h1] at h2
  cases h2
  exact ⟨rfl, rfl⟩
theorem turn_keysM (it : Addr) (hod : o.data = .dict es ep) : Turn P w K tg (ItkM w' d o kvs) [it] it (fun i h => h.IsKeyIter it d i kvs.length ep) where
  mem := List.mem_singleton_self it
  obj := fun i h st b hb => by
    cases List.mem_singleton.mp hb
    obtain ⟨oi, e, c, dd⟩ := st
    exact ⟨oi, e, fun v z => by rw [dd] at z; cases z⟩
  keep := fun i h h' st k => st.at fun oi e => k it (List.mem_singleton_self it) oi e
  item := by
    intro X hP hw hK hc i pins s σ H E I hf st ⟨hd, hi⟩
    subst hP hw hK
    obtain ⟨f0, f1, f2, f3, f4, f5⟩ := hf it (List.mem_singleton_self it)
    obtain ⟨hs, hgd, hx, hz, es', ep', hdt, hsz, ent⟩ := frzM I hd
    obtain ⟨rfl, rfl⟩ := same_ep hod hdt
    have hp : kvs[i]? = some kvs[i] := List.getElem?_eq_getElem hi
    obtain ⟨en, hen, rk, _⟩ := ent i _ hp
    refine next_key_item st hgd hdt hsz hen fun h' st' sb => ?_
    have I1 : Inv X pins σ H { s with heap := h' } := I.turned (t' := s.toks) (fun b ob hb e => (sb.2 b hb).trans e) f0 f1 f3 f4 f5
    obtain ⟨oi, e, c, dd⟩ := id st'
    exact ⟨en.key, rfl, go_of (s := { s with heap := h' }) e c dd (by decide) ⟨_, H, I1, rk, ⟨rfl, _, hp, rfl⟩, st', fun b hb => (hf b hb).1⟩⟩
  done := by
    intro X hP hw hK hc i pins s σ H E I hf st ⟨hd, hi⟩
    subst hP hw hK
    obtain ⟨f0, f1, f2, f3, f4, f5⟩ := hf it (List.mem_singleton_self it)
    obtain ⟨hs, hgd, hx, hz, es', ep', hdt, hsz, ent⟩ := frzM I hd
    obtain ⟨rfl, rfl⟩ := same_ep hod hdt
    exact next_key_end (I.ok.hd hc) st hgd hdt hsz hi fun h' eb => ⟨rfl, I.turned (t' := s.toks) (fun b ob hb e => eb b ob hb e) f0 f1 f3 f4 f5⟩
  self := fun A i s Q E st h => by
    refine wpAny_pyIter_slot st.typeIs F.slot_dict_keyiterator_iter (wpAny_call_entry F.slot_dict_keyiterator_iter st.typeIs F.entry_dict_keyiterator_iter ?_ (F.args_dict_keyiterator_iter_1 _))
    show wpAny _ _ (ret (.ref it)) _ _ s
    exact wpAny_pure ⟨_, rfl, "dict_keyiterator", _, st.typeIs, F.slot_dict_keyiterator_next.lookup, h⟩
theorem turn_itemsM {elts : List Expr} {kk : Nat} {tpos : Pos} (it : Addr) (hod : o.data = .dict es ep) :
    Turn P w K (.Tuple elts kk tpos) (ItiM w' d o kvs) [it] it (fun i h => ∃ ok ov, IsItemIter h it d i kvs.length ep ok ov) where
  mem := List.mem_singleton_self it
  obj := fun i h ⟨ok, ov, e⟩ b hb => by
    cases List.mem_singleton.mp hb
    exact ⟨_, e, fun v z => nomatch z⟩
  keep := fun i h h' ⟨ok, ov, e⟩ k => ⟨ok, ov, k it (List.mem_singleton_self it) _ e⟩
  item := by
    intro X hP hw hK hc i pins s σ H E I hf ⟨ok, ov, he⟩ ⟨hd, hi⟩
    subst hP hw hK
    obtain ⟨hs, hgd, hx, hz, es', ep', hdt, hsz, ent⟩ := frzM I hd
    obtain ⟨rfl, rfl⟩ := same_ep hod hdt
    have hp : kvs[i]? = some kvs[i] := List.getElem?_eq_getElem hi
    obtain ⟨en, hen, rk, rv⟩ := ent i _ hp
    have hi2 : i < es.size := by omega
    have een : es[i] = en := by
      have := Array.getElem?_eq_getElem hi2
      rw [hen] at this
      exact (Option.some.inj this).symm
    rw [← hsz] at he
    have hlt : it < s.heap.objs.size := Heap.lt_size he
    refine PySem.wpAny_pyNext_items_item_raw he ⟨o, hgd, hx, hdt⟩ hi2 fun h' ho hT hz' hk => ?_
    rw [een] at ho hT
    refine ⟨_, rfl, wpAny_letOwnedTupleGo_items (s := { s with heap := h' }) ho fun h'' he' sb => ?_⟩
    have hT2 := (sb.2 _ (Nat.ne_of_gt hlt)).trans hT
    have new : ObjOk X.prog X.w (upd H s.heap.objs.size (.tup [kvs[i].2.1, kvs[i].2.2])) h'' s.heap.objs.size (.tup [kvs[i].2.1, kvs[i].2.2]) :=
      ⟨by show 2 ≤ sizeLine; decide, [en.key, en.val], .cons rk (.cons rv .nil), ⟨_, hT2, rfl, _, rfl⟩⟩
    have I1 : Inv X pins σ (upd H s.heap.objs.size (.tup [kvs[i].2.1, kvs[i].2.2])) { s with heap := h'' } :=
      I.turnedNew (t' := s.toks) (ch := [it]) (fun b ob hb e => (sb.2 b (by simpa using hb)).trans (hk b ob (by simpa using hb) e)) hf (Nat.le_refl _) new
    refine ⟨.ref s.heap.objs.size, _, I1, rfl, ⟨_, _, hp, rfl, I.hok.fresh (Nat.le_refl _), rfl⟩, ⟨en.key, en.val, ?_⟩, fun b hb => ?_⟩
    · rw [← hsz]; exact he'
    · cases List.mem_singleton.mp hb
      rw [upd_ne (Nat.ne_of_lt hlt)]
      exact (hf it (List.mem_singleton_self it)).1
  done := by
    intro X hP hw hK hc i pins s σ H E I hf ⟨ok, ov, he⟩ ⟨hd, hi⟩
    subst hP hw hK
    obtain ⟨f0, f1, f2, f3, f4, f5⟩ := hf it (List.mem_singleton_self it)
    obtain ⟨hs, hgd, hx, hz, es', ep', hdt, hsz, ent⟩ := frzM I hd
    obtain ⟨rfl, rfl⟩ := same_ep hod hdt
    rw [← hsz] at he
    exact PySem.wpAny_pyNext_items_end_raw (I.ok.hd hc) he ⟨o, hgd, hx, hdt⟩ (by omega) fun h' eb => ⟨rfl, I.turned (t' := s.toks) (fun b ob hb e => eb b ob hb e) f0 f1 f3 f4 f5⟩
  self := fun A i s Q E ⟨_, _, e⟩ h => PySem.W.kcp_self e h
end
/-- for k in d; for k, v in d.items(): the dict is locked -/
def iKeysM' (w : World) (td : TE) : TI := fun σ H R => td σ H fun x H1 => ∃ d o kvs, x = .ref d ∧ H1 d = some (.frz o (mixO w d kvs)) ∧ R (ItkM w d o kvs) H1
def iItemsM (w : World) (td : TE) : TI := fun σ H R => td σ H fun x H1 => ∃ d o kvs, x = .ref d ∧ H1 d = some (.frz o (mixO w d kvs)) ∧ R (ItiM w d o kvs) H1
/-- list(d.items()) -/
def tItemsM (w : World) (te : TE) : TE := fun σ H Q => te σ H fun x H1 => ∃ d kvs, x = .ref d ∧ Rd H1 d (mixO w d kvs) ∧ ∀ H' q ts, (∀ b u, H1 b = some u → H' b = some u) → H1 q = none → (∀ t ∈ ts, H1 t = none) → q ∉ ts → H' q = some (.lst (ts.map V.ref)) →
  Paired (fun (t : Addr) (p : VRow) => H' t = some (.tup [p.2.1, p.2.2])) ts kvs → Q (.ref q) H'
theorem tell_pairs {ρ : List VRow → List XRow → Prop} {H2 : Hp} : ∀ {L : List Addr} {kvs : List VRow}, L.length = kvs.length → (∀ (j : Nat) (t : Addr) (p : VRow), L[j]? = some t → kvs[j]? = some p → H2 t = some (.tup [p.2.1, p.2.2])) → Paired (fun (t : Addr) (p : VRow) => H2 t = some (.tup [p.2.1, p.2.2])) L kvs
  | [], [], _, _ => .nil
  | [], _ :: _, h, _ => by cases h
  | _ :: _, [], h, _ => by cases h
  | t :: L, p :: kvs, h, g => .cons (g 0 t p rfl rfl) (tell_pairs (ρ := ρ) (Nat.succ.inj h) fun j t' p' h1 h2 => g (j + 1) t' p' (by simpa using h1) (by simpa using h2))
section
variable {X : Cx} {tg e : Expr} {td : TE} {p apos cpos pos : Pos} {w : World}
theorem pi_keysN (he : PE X e td) : PI X tg e (iKeysM' w td) := by
  refine ⟨fun pins s σ H R I h => thn (he.run pins s σ H _ I h) fun u s1 ⟨x, H1, I1, rx, d, o, kvs, ex, hd, q⟩ => ?_⟩
  subst ex
  cases rx
  obtain ⟨hs, hgd, hx, hz, es, ep, hdt, hsz, ent⟩ := frzM I1 hd
  refine iter_keys hs hgd hx hdt (pi_one (tk := s1.toks) I1 _ (turn_keysM _ hdt) ⟨_, Heap.get?_push_size _ rfl, rfl, ?_⟩ q)
  rw [hsz] <;> rfl
theorem pi_itemsM {elts : List Expr} {kk : Nat} {tpos : Pos} (he : PE X e td) (hbase : attributeBase e "items" X.env (eval e X.env) = eval e X.env := by rfl) (hline : (apos.endLine == cpos.line) = true := by rfl) :
    PI X (.Tuple elts kk tpos) (.Call (.Attribute e "items" apos) [] [] cpos) (iItemsM w td) := by
  refine ⟨fun pins s σ H R I h => ?_⟩
  refine wpAny_Call_method (T := "dict") (id := "dict.items") hbase rfl hline F.plainAttrs_dict F.slot_dict_items F.type_dict_items (thn (he.run pins s σ H _ I h) fun u s1 ⟨x, H1, I1, rx, d, o, kvs, ex, hd, q⟩ => ?_)
  subst ex
  cases rx
  obtain ⟨hs, hgd, hx, hz, es, ep, hdt, hsz, ent⟩ := frzM I1 hd
  refine ⟨⟨o, hgd, hx.1⟩, (fun b z => by cases z; exact ⟨o, hgd, hx.2.1⟩), ?_⟩
  have I2 : Inv X pins σ H1 { s1 with heap := s1.heap.push { cls := .type "dict_items", data := .fields #[.ref d] } } := I1.kept (t' := s1.toks) fun b ob z => Heap.get?_push_of_some _ z
  have fin : wpAny (model X.prog X.w) X.A (pyIter (.ref s1.heap.objs.size)) (PIE X pins σ (.Tuple elts kk tpos) R) X.xe { s1 with heap := s1.heap.push { cls := .type "dict_items", data := .fields #[.ref d] } } := by
    refine PySem.wpAny_pyIter_items_raw (d := d) (es := es) (ep := ep) ⟨_, Heap.get?_push_size _ rfl, rfl, rfl⟩ ⟨o, Heap.get?_push_of_some _ hgd, hx, hdt⟩ (pi_one (tk := s1.toks) I2 _ (turn_itemsM _ hdt) ⟨.none, .none, ?_⟩ q)
    rw [← hsz]
    exact Heap.get?_push_size _ rfl
  show wpAny _ _ (callWith cpos (.builtin "dict.items") [.ref d] [] []) _ X.xe s1
  exact method_meetsIn F.slot_dict_items F.entry_dict_items rfl (PySem.evalArgs_none ⟨rfl, ⟨o, hgd, hx.1⟩, F.args_dict_items_1 _, _, PySem.meets_dict_items_raw d hs, ⟨es, ep, o, hgd, hx, hdt⟩, fin⟩)
theorem pe_itemsM (hc : X.calm = true) (he : PE X e td) (hg : Gl X "list") (hm : X.mg "list" = none) (hv : bootBuiltins "list" = some (.type "list")) (hb : attributeBase e "items" X.env (eval e X.env) = eval e X.env := by rfl) (hl : (apos.endLine == cpos.line) = true := by rfl)
    (h1 : starEach [.Call (.Attribute e "items" apos) [] [] cpos] X.env = (false, eval (.Call (.Attribute e "items" apos) [] [] cpos) X.env) :: starEach [] X.env := by rfl) : PE X (.Call (.Name "list" p) [.Call (.Attribute e "items" apos) [] [] cpos] [] pos) (tItemsM w td) := by
  refine ⟨fun pins s σ H Q I wish => wpAny_Call_Name_kw (ld_blt I hg hm hv (PyProof.Rows.callWith_type1 ?_ h1 rfl))⟩
  rw [h1]
  show wpAny _ _ (spliced ((false, eval (.Call (.Attribute e "items" apos) [] [] cpos) X.env) :: backTo pos (starEach [] X.env))) _ _ s
  refine Calls.spliced_cons (wpAny_Call_method (T := "dict") (id := "dict.items") hb rfl hl F.plainAttrs_dict F.slot_dict_items F.type_dict_items (thn (he.run pins s σ H _ I wish) fun u t ⟨x, G, J, rx, d, kvs, ex, at_, q⟩ => ?_))
  subst ex
  cases rx
  obtain ⟨⟨hs, hz, xs, rel, o, es, ep, hgd, hx, hdt, hes, _⟩, _⟩ := at_.ok J.hok
  have lx : es.size = kvs.length := by rw [ent_len hes]; exact (Paired.length rel).symm
  have J2 : Inv X pins σ G { t with heap := t.heap.push { cls := .type "dict_items", data := .fields #[.ref d] } } := J.kept (t' := t.toks) fun b o h => Heap.get?_push_of_some _ h
  refine ⟨⟨o, hgd, hx.1⟩, (fun b z => by cases z; exact ⟨o, hgd, hx.2.1⟩), ?_⟩
  show wpAny _ _ (callWith cpos (.builtin "dict.items") [.ref d] [] []) _ X.xe t
  refine method_meetsIn F.slot_dict_items F.entry_dict_items rfl (PySem.evalArgs_none ⟨rfl, ⟨o, hgd, hx.1⟩, F.args_dict_items_1 _, _, PySem.meets_dict_items_raw d hs, ⟨es, ep, o, hgd, hx, hdt⟩, Calls.spliced_nil ?_⟩)
  refine PySem.W.dil_call (es := es) (ep := ep) (J.ok.hd hc) ⟨_, Heap.get?_push_size _ rfl, rfl, rfl⟩ ⟨o, Heap.get?_push_of_some _ hgd, hx, hdt⟩ (by omega) fun h' tk acc n as g1 g2 g3 g4 g5 => ?_
  have I3 : Inv X pins σ (upd G _ (.lst (as.map V.ref))) { t with heap := h', toks := tk } := J2.laid (t' := tk) (fun b u z => g1 b u z) (Nat.le_refl _) ⟨by rw [List.length_map]; omega, acc.toList, n, by rw [g5]; exact LiI.vals_refs as, by rw [Array.toArray_toList]; exact g2⟩
  have nd : as.Nodup := List.Pairwise.imp (fun {a b} (z : a < b) => Nat.ne_of_lt z) g4.rise
  have qn : ∀ t ∈ as, t ≠ _ := fun t ht => Nat.ne_of_gt (g4.above t ht)
  have newT : ∀ t ∈ as, G t = none := fun t ht => J2.hok.fresh (Nat.le_of_lt (g4.above t ht))
  have newQ := J2.hok.fresh (Nat.le_refl _)
  obtain ⟨H2, I4, kp, told⟩ := L2.DX.takeT (P := fun a vs => ∃ (j : Nat) (r : VRow), as[j]? = some a ∧ kvs[j]? = some r ∧ vs = [r.2.1, r.2.2]) J2 as _ I3 nd fun a ha => by
    obtain ⟨j, hj⟩ := List.mem_iff_getElem?.mp ha
    obtain ⟨hjs, hget⟩ := g4.pairs j a hj
    have hjk : j < kvs.length := by omega
    obtain ⟨r, hr⟩ : ∃ r, kvs[j]? = some r := ⟨_, List.getElem?_eq_getElem hjk⟩
    obtain ⟨y, hy, r1, r2⟩ := rel_ix rel hr
    have ey : es[j] = entM w y := by
      have z := Array.getElem?_eq_getElem hjs
      rw [ent_get hes, hy] at z
      exact (Option.some.inj z).symm
    rw [ey] at hget
    exact ⟨Nat.le_of_lt (g4.above a ha), by rw [upd_ne (qn a ha)]; exact newT a ha, [r.2.1, r.2.2], ⟨j, r, hj, hr, rfl⟩, fun H2 => ⟨by show 2 ≤ sizeLine; decide, [y.2.1, y.2.2], .cons r1 (.cons r2 .nil), ⟨_, hget, rfl, _, rfl⟩⟩⟩
  refine ⟨.ref _, H2, I4, rfl, q H2 _ as (fun b u z => kp b u (by rw [upd_ne (ne_of_none z newQ)]; exact z)) newQ newT (fun z => qn _ z rfl) (kp _ _ upd_same) (tell_pairs (ρ := fun _ _ => True) (by omega) fun j t' r h1 h2 => ?_)⟩
  obtain ⟨vs, ⟨j', r', e1, e2, e3⟩, e4⟩ := told t' (List.mem_of_getElem? h1)
  have : j' = j := (List.getElem?_inj (List.getElem?_eq_some_iff.mp e1).1 nd).mp (e1.trans h1.symm)
  subst this
  rw [h2] at e2
  cases e2
  rw [e4, e3]
end
end Q

set_option Elab.async false
set_option linter.all false
set_option maxRecDepth 100000
set_option maxHeartbeats 4000000
/-! Data, and what of a heap is data: a layer of its own over the hand layer. -/
namespace Q
open PySem PySem.Spec PyProof.Rows L2
/-- a value of Python as data, whole -/
inductive D where
  | non | bl (b : Bool) | int (i : Int) | str (x : Str)
  | lst (xs : List D) | tup (xs : List D) | dct (ks vs : List D) | dtt (ks vs : List D) | dmx (w : World) (ks vs : List D)
  | ins (C : Addr) (ns : List Str) (xs : List D)
  | raw (v : V)
def kD : Key → D
  | .inl i => .int i
  | .inr x => .str x
def tD (ks : List Key) : D := .tup (ks.map kD)
mutual
/-- a key of any kind, as data -/
def nD : NestedKey → D
  | .none => .non
  | .num i => .int i
  | .text x => .str x
  | .tup ks => .tup (nDs ks)
def nDs : List NestedKey → List D
  | [] => []
  | k :: ks => nD k :: nDs ks
end
mutual
inductive Rep (K : PySem.W.Frag) (F : Hp) : V → D → Prop
  | non : Rep K F .non .non
  | bl (b : Bool) : Rep K F (.bl b) (.bl b)
  | int (i : Int) : Rep K F (.int i) (.int i)
  | str (x : Str) : Rep K F (.str x) (.str x)
  | lst {a : Addr} {vs : List V} {ds : List D} : F a = some (.lst vs) → Reps K F vs ds → Rep K F (.ref a) (.lst ds)
  | tup {a : Addr} {vs : List V} {ds : List D} : F a = some (.tup vs) → Reps K F vs ds → Rep K F (.ref a) (.tup ds)
  | dK {a : Addr} {od : Obj} {kvs : List (Key × V)} {ks ds : List D} : F a = some (.frz od (.dK kvs)) → ks = kvs.map (fun p => kD p.1) → Reps K F (kvs.map (·.2)) ds → Rep K F (.ref a) (.dct ks ds)
  | dT {a : Addr} {od : Obj} {kvs : List (List Key × V)} {ks ds : List D} : F a = some (.frz od (.dT kvs)) → ks = kvs.map (fun p => tD p.1) → Reps K F (kvs.map (·.2)) ds → Rep K F (.ref a) (.dtt ks ds)
  | dM {a : Addr} {od : Obj} {w : World} {kvs : List VRow} {ks ds : List D} : F a = some (.frz od (mixO w a kvs)) → ks = kvs.map (fun p => nD p.1) → (∀ p ∈ kvs, p.1.depth ≤ 8) → Reps K F (kvs.map (·.2.1)) ks → Reps K F (kvs.map (·.2.2)) ds → Rep K F (.ref a) (.dmx w ks ds)
  | ins {a C dx : Addr} {fs : List (Str × V)} {ns : List Str} {ds : List D} : F a = some (.ins C dx fs) → ns = fs.map (·.1) → Reps K F (fs.map (·.2)) ds → Rep K F (.ref a) (.ins C ns ds)
  | raw (v : V) : Rep K F v (.raw v)
inductive Reps (K : PySem.W.Frag) (F : Hp) : List V → List D → Prop
  | nil : Reps K F [] []
  | cons {v : V} {vs : List V} {d : D} {ds : List D} : Rep K F v d → Reps K F vs ds → Reps K F (v :: vs) (d :: ds)
end
theorem SqL.same {K : PySem.W.Frag} {F F' : Hp} {a : Addr} {vs : List V} (e : Same F F') (h : SqL K F a vs) : SqL K F' a vs := by
  rcases h with (h | ⟨o, h⟩) | h
  · exact .inl (.inl (e _ _ h))
  · exact .inl (.inr ⟨o, e _ _ h⟩)
  · exact .inr h
theorem SqT.same {K : PySem.W.Frag} {F F' : Hp} {a : Addr} {vs : List V} (e : Same F F') (h : SqT K F a vs) : SqT K F' a vs := by
  rcases h with (h | ⟨o, h⟩) | h
  · exact .inl (.inl (e _ _ h))
  · exact .inl (.inr ⟨o, e _ _ h⟩)
  · exact .inr h
section
variable {K : PySem.W.Frag} {F F' : Hp}
mutual
theorem Rep.same (e : Same F F') : ∀ {v : V} {d : D}, Rep K F v d → Rep K F' v d
  | _, _, .non => .non
  | _, _, .bl b => .bl b
  | _, _, .int i => .int i
  | _, _, .str x => .str x
  | _, _, .lst h r => .lst (e _ _ h) (Reps.same e r)
  | _, _, .tup h r => .tup (e _ _ h) (Reps.same e r)
  | _, _, .dK h n r => .dK (e _ _ h) n (Reps.same e r)
  | _, _, .dT h n r => .dT (e _ _ h) n (Reps.same e r)
  | _, _, .dM h n dp r1 r2 => .dM (e _ _ h) n dp (Reps.same e r1) (Reps.same e r2)
  | _, _, .ins h n r => .ins (e _ _ h) n (Reps.same e r)
  | _, _, .raw v => .raw v
theorem Reps.same (e : Same F F') : ∀ {vs : List V} {ds : List D}, Reps K F vs ds → Reps K F' vs ds
  | _, _, .nil => .nil
  | _, _, .cons h t => .cons (Rep.same e h) (Reps.same e t)
end
theorem Reps.length : ∀ {vs : List V} {ds : List D}, Reps K F vs ds → vs.length = ds.length
  | _, _, .nil => rfl
  | _, _, .cons _ t => by rw [List.length_cons, List.length_cons, Reps.length t]
theorem Reps.get : ∀ {vs : List V} {ds : List D} {i : Nat} {v : V}, Reps K F vs ds → vs[i]? = some v → ∃ d, ds[i]? = some d ∧ Rep K F v d
  | _, _, _, _, .nil, e => by simp at e
  | _, _, 0, _, .cons r _, e => by simp at e; subst e; exact ⟨_, rfl, r⟩
  | _, _, i + 1, v, .cons _ t, e => by
    obtain ⟨d, h1, h2⟩ := Reps.get (i := i) (v := v) t (by simpa using e)
    exact ⟨d, by simpa using h1, h2⟩
theorem Reps.get' : ∀ {vs : List V} {ds : List D} {i : Nat} {d : D}, Reps K F vs ds → ds[i]? = some d → ∃ v, vs[i]? = some v ∧ Rep K F v d
  | _, _, _, _, .nil, e => by simp at e
  | _, _, 0, _, .cons r _, e => by simp at e; subst e; exact ⟨_, rfl, r⟩
  | _, _, i + 1, d, .cons _ t, e => by
    obtain ⟨v, h1, h2⟩ := Reps.get' (i := i) (d := d) t (by simpa using e)
    exact ⟨v, by simpa using h1, h2⟩
theorem Reps.append : ∀ {vs us : List V} {ds es : List D}, Reps K F vs ds → Reps K F us es → Reps K F (vs ++ us) (ds ++ es)
  | _, _, _, _, .nil, s => s
  | _, _, _, _, .cons r t, s => .cons r (Reps.append t s)
theorem Reps.one {v : V} {d : D} (r : Rep K F v d) : Reps K F [v] [d] := .cons r .nil
theorem Reps.snoc {vs : List V} {ds : List D} {v : V} {d : D} (h : Reps K F vs ds) (r : Rep K F v d) : Reps K F (vs ++ [v]) (ds ++ [d]) := h.append (.one r)
theorem Reps.take : ∀ {vs : List V} {ds : List D} (n : Nat), Reps K F vs ds → Reps K F (vs.take n) (ds.take n)
  | _, _, 0, _ => .nil
  | _, _, _ + 1, .nil => .nil
  | _, _, n + 1, .cons r t => .cons r (Reps.take n t)
theorem Reps.drop : ∀ {vs : List V} {ds : List D} (n : Nat), Reps K F vs ds → Reps K F (vs.drop n) (ds.drop n)
  | _, _, 0, r => r
  | _, _, _ + 1, .nil => .nil
  | _, _, n + 1, .cons _ t => Reps.drop n t
theorem Reps.set {v : V} {d : D} (r : Rep K F v d) : ∀ {vs : List V} {ds : List D} (i : Nat), Reps K F vs ds → Reps K F (vs.set i v) (ds.set i d)
  | _, _, _, .nil => .nil
  | _, _, 0, .cons _ t => .cons r t
  | _, _, i + 1, .cons q t => .cons q (Reps.set r i t)
theorem Reps.erase : ∀ {vs : List V} {ds : List D} (i : Nat), Reps K F vs ds → Reps K F (vs.eraseIdx i) (ds.eraseIdx i)
  | _, _, _, .nil => .nil
  | _, _, 0, .cons _ t => t
  | _, _, i + 1, .cons q t => .cons q (Reps.erase i t)
theorem Reps.reverse : ∀ {vs : List V} {ds : List D}, Reps K F vs ds → Reps K F vs.reverse ds.reverse
  | _, _, .nil => .nil
  | _, _, .cons r t => by rw [List.reverse_cons, List.reverse_cons]; exact (Reps.reverse t).snoc r
theorem Reps.map {α : Type} {f : α → V} {g : α → D} (h : ∀ x, Rep K F (f x) (g x)) : ∀ xs : List α, Reps K F (xs.map f) (xs.map g)
  | [] => .nil
  | x :: xs => .cons (h x) (Reps.map h xs)
end
/-! ### regions -/
/-- something that is no data: its addresses, what is told of it -/
structure Rgn where
  G : Type
  ok : G → (Addr → Prop) → Hp → Prop
  fr : ∀ {g : G} {Z : Addr → Prop} {H H' : Hp}, ok g Z H → (∀ a, Z a → H' a = H a) → ok g Z H'
  al : ∀ {g : G} {Z : Addr → Prop} {H : Hp}, ok g Z H → ∀ a, Z a → H a ≠ none
def noR : Rgn := ⟨Unit, fun _ Z _ => ∀ a, ¬ Z a, fun h _ => h, fun h a z => (h a z).elim⟩
def noG : noR.G := ()
/-- what stands in a slot: data that stays; a list or a dict of the def's own -/
inductive DV where
  | fz (d : D) | own (d : D)
structure DS (R : Rgn) where
  g : R.G
  sl : List (Option DV)
def DS.put {R : Rgn} (ρ : DS R) (i : Nat) (x : Option DV) : DS R := ⟨ρ.g, ρ.sl.set i x⟩
/-- a body runs: the heap at its entry, what of it was data, the region's addresses, what is wanted of an exception -/
structure Ctx where
  K : PySem.W.Frag
  R : Rgn
  H0 : Hp
  F0 : Hp
  Z0 : Addr → Prop
/-- a list or a dict of the def's own: it may change, what it holds stays -/
def OwnAt (K : PySem.W.Frag) (F H : Hp) (a : Addr) : D → Prop
  | .lst ds => ∃ vs, H a = some (.lst vs) ∧ Reps K F vs ds
  | .dct ks ds => ∃ kvs, H a = some (.dK kvs) ∧ ks = kvs.map (fun p => kD p.1) ∧ Reps K F (kvs.map (·.2)) ds
  | .dtt ks ds => ∃ kvs, H a = some (.dT kvs) ∧ ks = kvs.map (fun p => tD p.1) ∧ Reps K F (kvs.map (·.2)) ds
  | .dmx w ks ds => ∃ kvs, H a = some (mixO w a kvs) ∧ ks = kvs.map (fun p => nD p.1) ∧ (∀ p ∈ kvs, p.1.depth ≤ 8) ∧ Reps K F (kvs.map (·.2.1)) ks ∧ Reps K F (kvs.map (·.2.2)) ds
  | _ => False
theorem OwnAt.there {K : PySem.W.Frag} {F H : Hp} {a : Addr} : ∀ {d : D}, OwnAt K F H a d → H a ≠ none
  | .lst _, ⟨_, h, _⟩ => by rw [h]; exact fun z => by cases z
  | .dct _ _, ⟨_, h, _⟩ => by rw [h]; exact fun z => by cases z
  | .dtt _ _, ⟨_, h, _⟩ => by rw [h]; exact fun z => by cases z
  | .dmx _ _ _, ⟨_, h, _⟩ => by rw [h]; exact fun z => by cases z
theorem OwnAt.same {K : PySem.W.Frag} {F F' H H' : Hp} {a : Addr} (e : Same F F') (eh : H' a = H a) : ∀ {d : D}, OwnAt K F H a d → OwnAt K F' H' a d
  | .lst _, ⟨vs, h, r⟩ => ⟨vs, by rw [eh]; exact h, r.same e⟩
  | .dct _ _, ⟨vs, h, n, r⟩ => ⟨vs, by rw [eh]; exact h, n, r.same e⟩
  | .dtt _ _, ⟨vs, h, n, r⟩ => ⟨vs, by rw [eh]; exact h, n, r.same e⟩
  | .dmx _ _ _, ⟨vs, h, n, dp, r1, r2⟩ => ⟨vs, by rw [eh]; exact h, n, dp, r1.same e, r2.same e⟩
def SlotOk (K : PySem.W.Frag) (F H : Hp) (σ : L2.St) (i : Nat) : Option (Option DV) → Prop
  | some (some (.fz d)) => ∃ v, σ[i]? = some (some v) ∧ Rep K F v d
  | some (some (.own d)) => ∃ a, σ[i]? = some (some (.ref a)) ∧ OwnAt K F H a d
  | _ => True
/-- slot i holds an object of one's own at a -/
def Owns (σ : L2.St) (sl : List (Option DV)) (i : Nat) (a : Addr) : Prop := σ[i]? = some (some (.ref a)) ∧ ∃ d, sl[i]? = some (some (.own d))
/-- every tuple that is tracked is data -/
def Tin (F H : Hp) : Prop := ∀ b xs, H b = some (.tup xs) → F b = some (.tup xs)
/-- no tuple is new -/
def NoNewT (H H' : Hp) : Prop := ∀ b xs, H' b = some (.tup xs) → H b = some (.tup xs)
theorem Tin.noNew {F H H' : Hp} (t : Tin F H) (n : NoNewT H H') : Tin F H' := fun b xs e => t b xs (n b xs e)
def NoTup (o : HO) : Prop := ∀ xs, o ≠ .tup xs
structure St (c : Ctx) (F : Hp) (O : List Addr) (σ : L2.St) (ρ : DS c.R) (H : Hp) : Prop where
  len : σ.length = ρ.sl.length
  sub : Same F H
  tin : Tin F H
  old : Same c.F0 F
  new : ∀ b, F b ≠ none → c.F0 b = none → c.H0 b = none
  keep : ∀ b o, c.H0 b = some o → ¬ c.Z0 b → H b = some o
  live : ∀ b, c.H0 b ≠ none → H b ≠ none
  slots : ∀ i, SlotOk c.K F H σ i ρ.sl[i]?
  mine : ∀ i a, Owns σ ρ.sl i a → F a = none ∧ c.H0 a = none ∧ a ∉ O
  inj : ∀ i j a, Owns σ ρ.sl i a → Owns σ ρ.sl j a → i = j
  out : ∀ a ∈ O, F a = none ∧ c.H0 a = none ∧ H a ≠ none
  reg : ∃ Z, c.R.ok ρ.g Z H ∧ (∀ b, Z b → F b = none) ∧ (∀ b, Z b → ¬ c.Z0 b → c.H0 b = none) ∧ (∀ a ∈ O, ¬ Z a) ∧ ∀ i a, Owns σ ρ.sl i a → ¬ Z a
/-- data, and all tuples among it -/
structure SubT (F H : Hp) : Prop where
  s : Same F H
  t : Tin F H
theorem St.sbt {c : Ctx} {F : Hp} {O : List Addr} {σ : L2.St} {ρ : DS c.R} {H : Hp} (S : St c F O σ ρ H) : SubT F H := ⟨S.sub, S.tin⟩
theorem Owns.there {K : PySem.W.Frag} {F H : Hp} {σ : L2.St} {sl : List (Option DV)} {i : Nat} {a : Addr} (h : Owns σ sl i a) (s : SlotOk K F H σ i sl[i]?) : ∃ d, sl[i]? = some (some (.own d)) ∧ OwnAt K F H a d := by
  obtain ⟨h1, d, h2⟩ := h
  rw [h2] at s
  obtain ⟨b, e, q⟩ := s
  rw [h1] at e
  cases e
  exact ⟨d, h2, q⟩
/-! ### new objects -/
inductive Al (F H : Hp) : Hp → Hp → Prop
  | no : Al F H F H
  | new {F' H' : Hp} {p : Addr} (o : HO) : Al F H F' H' → H' p = none → Al F H (upd F' p o) (upd H' p o)
theorem Al.one {F H : Hp} {p : Addr} {o : HO} (h : H p = none) : Al F H (upd F p o) (upd H p o) := .new o .no h
theorem Same.upd_at {F H : Hp} {p : Addr} {o : HO} (h : Same F H) (n : H p = none) : Same F (upd F p o) := fun b u e => by
  rw [upd_ne (ne_of_none (h _ _ e) n)]; exact e
theorem Same.upd2 {F H : Hp} {p : Addr} {o : HO} (h : Same F H) : Same (upd F p o) (upd H p o) := fun b u e => by
  by_cases z : b = p
  · subst z; rw [upd_same] at e ⊢; exact e
  · rw [upd_ne z] at e ⊢; exact h _ _ e
theorem Al.sub {F H F' H' : Hp} (a : Al F H F' H') (s : Same F H) : Same F' H' := by
  induction a with
  | no => exact s
  | new o _ _ ih => exact Same.upd2 ih
theorem Al.fs {F H F' H' : Hp} (a : Al F H F' H') (s : Same F H) : Same F F' := by
  induction a with
  | no => exact Same.refl _
  | new o b h ih => exact ih.trans (Same.upd_at (b.sub s) h)
theorem Al.hs {F H F' H' : Hp} (a : Al F H F' H') : Same H H' := by
  induction a with
  | no => exact Same.refl _
  | new o b h ih => exact ih.trans fun b u e => by rw [upd_ne (ne_of_none e h)]; exact e
theorem Al.old {F H F' H' : Hp} (a : Al F H F' H') {b : Addr} (n : F' b ≠ none) : F b ≠ none ∨ H b = none := by
  induction a with
  | no => exact .inl n
  | @new F1 H1 p o a1 h ih =>
    by_cases z : b = p
    · subst z
      exact .inr (a1.hs.free h)
    · rw [upd_ne z] at n
      exact ih n
theorem Al.at {F H F' H' : Hp} (a : Al F H F' H') {b : Addr} (n : H b ≠ none) : H' b = H b := by
  cases h : H b with
  | none => exact absurd h n
  | some o => exact a.hs _ _ h
theorem Tin.upd2 {F H : Hp} {p : Addr} {o : HO} (h : Tin F H) : Tin (upd F p o) (upd H p o) := fun b xs e => by
  by_cases z : b = p
  · subst z; rw [upd_same] at e ⊢; exact e
  · rw [upd_ne z] at e ⊢; exact h _ _ e
theorem Tin.updH {F H : Hp} {p : Addr} {o : HO} (h : Tin F H) (n : NoTup o) : Tin F (upd H p o) := fun b xs e => by
  by_cases z : b = p
  · subst z; rw [upd_same] at e; cases e; exact absurd rfl (n _)
  · rw [upd_ne z] at e; exact h _ _ e
theorem Tin.updF {F H : Hp} {p : Addr} {o : HO} (h : Tin F H) (e : H p = some o) : Tin (upd F p o) H := fun b xs q => by
  by_cases z : b = p
  · subst z; rw [upd_same, ← q, e]
  · rw [upd_ne z]; exact h _ _ q
theorem Al.tin {F H F' H' : Hp} (a : Al F H F' H') (t : Tin F H) : Tin F' H' := by
  induction a with
  | no => exact t
  | new o _ _ ih => exact ih.upd2
theorem Al.trans {F H F1 H1 F2 H2 : Hp} (a : Al F H F1 H1) (b : Al F1 H1 F2 H2) : Al F H F2 H2 := by
  induction b with
  | no => exact a
  | new o _ h ih => exact .new o ih h
section
variable {c : Ctx} {F F' H H' : Hp} {O : List Addr} {σ : L2.St} {ρ : DS c.R}
/-- the heap grows: new data, the same all else -/
structure Grow (F H F' H' : Hp) : Prop where
  fs : Same F F'
  sub : Same F' H'
  hs : Same H H'
  old : ∀ b, F' b ≠ none → F b ≠ none ∨ H b = none
  tn : Tin F H → Tin F' H'
theorem Al.grow (a : Al F H F' H') (s : Same F H) : Grow F H F' H' := ⟨a.fs s, a.sub s, a.hs, fun _ => a.old, a.tin⟩
/-- F, and all tuples of H -/
def cpl (F H : Hp) : Hp := fun b => match H b with
  | some (.tup xs) => some (.tup xs)
  | _ => F b
theorem cpl_tup {F H : Hp} {b : Addr} {xs : List V} (h : H b = some (.tup xs)) : cpl F H b = some (.tup xs) := by unfold cpl; rw [h]
theorem cpl_no {F H : Hp} {b : Addr} (h : ∀ xs, H b ≠ some (.tup xs)) : cpl F H b = F b := by
  unfold cpl
  split
  · rename_i xs e; exact absurd e (h xs)
  · rfl
theorem cpl_at (F H : Hp) (b : Addr) : (∃ xs, H b = some (.tup xs) ∧ cpl F H b = some (.tup xs)) ∨ cpl F H b = F b := by
  by_cases h : ∃ xs, H b = some (.tup xs)
  · obtain ⟨xs, h⟩ := h
    exact .inl ⟨xs, h, cpl_tup h⟩
  · exact .inr (cpl_no fun xs e => h ⟨xs, e⟩)
theorem cpl_same {F H : Hp} (s : Same F H) : Same F (cpl F H) := fun b o e => by
  rcases cpl_at F H b with ⟨xs, h1, h2⟩ | h
  · rw [h2, ← h1]; exact s _ _ e
  · rw [h]; exact e
theorem cpl_sub {F H : Hp} (s : Same F H) : Same (cpl F H) H := fun b o e => by
  rcases cpl_at F H b with ⟨xs, h1, h2⟩ | h
  · rw [h1, ← h2]; exact e
  · rw [h] at e; exact s _ _ e
theorem cpl_grow {F H F' H' : Hp} (t : Tin F H) (fs : Same F F') (sub : Same F' H') (hs : Same H H') (old : ∀ b, F' b ≠ none → F b ≠ none ∨ H b = none) : Grow F H (cpl F' H') H' where
  fs := fs.trans (cpl_same sub)
  sub := cpl_sub sub
  hs := hs
  old := fun b n => by
    rcases cpl_at F' H' b with ⟨xs, h1, h2⟩ | h
    · cases e : H b with
      | none => exact .inr rfl
      | some o =>
        have e2 := hs _ _ e
        rw [h1] at e2
        refine .inl ?_
        rw [t b xs (by rw [e, ← e2])]
        exact fun z => by cases z
    · rw [h] at n; exact old b n
  tn := fun _ b xs e => cpl_tup e
theorem Grow.refl (s : Same F H) : Grow F H F H := ⟨Same.refl _, s, Same.refl _, fun _ h => .inl h, id⟩
theorem Same.live {H H' : Hp} (e : Same H H') {b : Addr} (h : H b ≠ none) : H' b = H b := by
  cases q : H b with
  | none => exact absurd q h
  | some o => exact e _ _ q
theorem St.grow (S : St c F O σ ρ H) (g : Grow F H F' H') : St c F' O σ ρ H' where
  len := S.len
  sub := g.sub
  tin := g.tn S.tin
  old := S.old.trans g.fs
  new := fun b n e => by
    rcases g.old b n with q | q
    · exact S.new b q e
    · cases h : c.H0 b with
      | none => rfl
      | some o => exact absurd q (S.live b (by rw [h]; exact fun z => by cases z))
  keep := fun b o e n => g.hs _ _ (S.keep b o e n)
  live := fun b n => by rw [Same.live g.hs (S.live b n)]; exact S.live b n
  slots := fun i => by
    have h := S.slots i
    cases e : ρ.sl[i]? with
    | none => trivial
    | some x =>
      rw [e] at h
      cases x with
      | none => trivial
      | some x =>
        cases x with
        | fz d =>
          obtain ⟨v, h1, h2⟩ := h
          exact ⟨v, h1, h2.same g.fs⟩
        | own d =>
          obtain ⟨a, h1, h2⟩ := h
          exact ⟨a, h1, h2.same g.fs (Same.live g.hs h2.there)⟩
  mine := fun i a h => by
    obtain ⟨m1, m2, m3⟩ := S.mine i a h
    refine ⟨?_, m2, m3⟩
    obtain ⟨d, _, q⟩ := h.there (S.slots i)
    cases e : F' a with
    | none => rfl
    | some o =>
      rcases g.old a (by rw [e]; exact fun z => by cases z) with z | z
      · exact absurd m1 z
      · exact absurd z q.there
  inj := S.inj
  out := fun a h => by
    obtain ⟨m1, m2, m3⟩ := S.out a h
    refine ⟨?_, m2, by rw [Same.live g.hs m3]; exact m3⟩
    cases e : F' a with
    | none => rfl
    | some o =>
      rcases g.old a (by rw [e]; exact fun z => by cases z) with z | z
      · exact absurd m1 z
      · exact absurd z m3
  reg := by
    obtain ⟨Z, r, z1, z2, z3, z4⟩ := S.reg
    refine ⟨Z, c.R.fr r fun a h => Same.live g.hs (c.R.al r a h), fun b h => ?_, z2, z3, z4⟩
    cases e : F' b with
    | none => rfl
    | some o =>
      rcases g.old b (by rw [e]; exact fun z => by cases z) with z | z
      · exact absurd (z1 b h) z
      · exact absurd z (c.R.al r b h)
theorem set_get {α : Type} {l : List α} {i j : Nat} {x : α} : (l.set i x)[j]? = if i = j then (if i < l.length then some x else none) else l[j]? := by
  by_cases h : i = j
  · subst h
    rw [if_pos rfl]
    by_cases q : i < l.length
    · rw [if_pos q]; simp [q]
    · rw [if_neg q]; simp; omega
  · rw [if_neg h]; simp [h]
/-- a slot is set to data -/
theorem St.setF (S : St c F O σ ρ H) {v : V} {d : D} (r : Rep c.K F v d) (i : Nat) : St c F O (σ.set i (some v)) (ρ.put i (some (.fz d))) H := by
  have own : ∀ j a, Owns (σ.set i (some v)) (ρ.put i (some (.fz d))).sl j a → Owns σ ρ.sl j a := fun j a h => by
    obtain ⟨h1, x, h2⟩ := h
    have h2 : (ρ.sl.set i (some (.fz d)))[j]? = some (some (.own x)) := h2
    rw [set_get] at h1 h2
    by_cases e : i = j
    · rw [if_pos e] at h2
      split at h2 <;> cases h2
    · rw [if_neg e] at h1 h2
      exact ⟨h1, x, h2⟩
  refine ⟨by show (σ.set i _).length = (ρ.sl.set i _).length; rw [List.length_set, List.length_set]; exact S.len, S.sub, S.tin, S.old, S.new, S.keep, S.live, fun j => ?_, fun j a h => S.mine j a (own j a h), fun j k a h h' => S.inj j k a (own j a h) (own k a h'), S.out, ?_⟩
  · show SlotOk c.K F H (σ.set i (some v)) j (ρ.sl.set i (some (.fz d)))[j]?
    rw [set_get]
    by_cases e : i = j
    · subst e
      rw [if_pos rfl]
      by_cases q : i < ρ.sl.length
      · rw [if_pos q]
        exact ⟨v, by rw [set_get, if_pos rfl, if_pos (by rw [S.len]; exact q)], r⟩
      · rw [if_neg q]
        trivial
    · rw [if_neg e]
      have h := S.slots j
      have e2 : (σ.set i (some v))[j]? = σ[j]? := by rw [set_get, if_neg e]
      cases q : ρ.sl[j]? with
      | none => trivial
      | some x =>
        rw [q] at h
        cases x with
        | none => trivial
        | some x =>
          cases x with
          | fz d =>
            obtain ⟨v, h1, h2⟩ := h
            exact ⟨v, by rw [e2]; exact h1, h2⟩
          | own d =>
            obtain ⟨a, h1, h2⟩ := h
            exact ⟨a, by rw [e2]; exact h1, h2⟩
  · obtain ⟨Z, r, z1, z2, z3, z4⟩ := S.reg
    exact ⟨Z, r, z1, z2, z3, fun j a h => z4 j a (own j a h)⟩
end
end Q

set_option Elab.async false
set_option linter.all false
set_option maxRecDepth 100000
set_option maxHeartbeats 4000000
namespace Q
open PySem PySem.Spec PyProof.Rows L2
/-! ### what is read: data, or an object of the def's own -/
def VRep (K : PySem.W.Frag) (F : Hp) (σ : L2.St) (sl : List (Option DV)) (v : V) (d : D) : Bool → Prop
  | false => Rep K F v d
  | true => Rep K F v d ∨ ∃ (a : Addr) (i : Nat), v = V.ref a ∧ σ[i]? = some (some (V.ref a)) ∧ sl[i]? = some (some (DV.own d))
/-- as it is read: its top in the heap, what it holds among the data -/
inductive BV (K : PySem.W.Frag) (F H : Hp) (v : V) (d : D) : Prop
  | rep (r : Rep K F v d)
  | own {a : Addr} (e : v = .ref a) (o : OwnAt K F H a d)
section
variable {c : Ctx} {F F' H H' : Hp} {O : List Addr} {σ : L2.St} {ρ : DS c.R} {v : V} {d : D} {b : Bool}
theorem VRep.bv (r : VRep c.K F σ ρ.sl v d b) (S : St c F O σ ρ H) : BV c.K F H v d := by
  cases b with
  | false => exact .rep r
  | true =>
    rcases r with r | ⟨a, i, rfl, h1, h2⟩
    · exact .rep r
    · have h := S.slots i
      rw [h2] at h
      obtain ⟨a', e, o⟩ := h
      rw [h1] at e
      cases e
      exact .own rfl o
theorem VRep.grow (r : VRep c.K F σ ρ.sl v d b) (e : Same F F') : VRep c.K F' σ ρ.sl v d b := by
  cases b with
  | false => exact Rep.same e r
  | true =>
    rcases r with r | r
    · exact .inl (r.same e)
    · exact .inr r
theorem VRep.up (r : Rep c.K F v d) : VRep c.K F σ ρ.sl v d b := by
  cases b with
  | false => exact r
  | true => exact .inl r
end
section
variable {K : PySem.W.Frag} {F H : Hp} {v : V}
theorem BV.lst {ds : List D} (h : BV K F H v (.lst ds)) (s : Same F H) : ∃ a vs, v = .ref a ∧ H a = some (.lst vs) ∧ Reps K F vs ds := by
  rcases h with r | ⟨e, o⟩
  · cases r with
    | lst h r => exact ⟨_, _, rfl, s _ _ h, r⟩
  · obtain ⟨vs, h, r⟩ := o
    exact ⟨_, _, e, h, r⟩
theorem BV.tup {ds : List D} (h : BV K F H v (.tup ds)) (s : Same F H) : ∃ a vs, v = .ref a ∧ SqT K H a vs ∧ Reps K F vs ds := by
  rcases h with r | ⟨e, o⟩
  · cases r with
    | tup h r => exact ⟨_, _, rfl, SqT.of (s _ _ h), r⟩
  · exact o.elim
theorem BV.int {i : Int} (h : BV K F H v (.int i)) : v = .int i := by
  rcases h with r | ⟨e, o⟩
  · cases r; rfl
  · exact o.elim
theorem BV.str {x : Str} (h : BV K F H v (.str x)) : v = .str x := by
  rcases h with r | ⟨e, o⟩
  · cases r; rfl
  · exact o.elim
theorem BV.bl {x : Bool} (h : BV K F H v (.bl x)) : v = .bl x := by
  rcases h with r | ⟨e, o⟩
  · cases r; rfl
  · exact o.elim
theorem BV.non (h : BV K F H v .non) : v = .non := by
  rcases h with r | ⟨e, o⟩
  · cases r; rfl
  · exact o.elim
theorem BV.raw {u : V} (h : BV K F H v (.raw u)) : v = u := by
  rcases h with r | ⟨e, o⟩
  · cases r; rfl
  · exact o.elim
theorem BV.dct {ks ds : List D} (h : BV K F H v (.dct ks ds)) (s : Same F H) : ∃ a kvs, v = .ref a ∧ Rd H a (.dK kvs) ∧ ks = kvs.map (fun p => kD p.1) ∧ Reps K F (kvs.map (·.2)) ds := by
  rcases h with r | ⟨e, o⟩
  · cases r with
    | dK h n r => exact ⟨_, _, rfl, .inr ⟨_, s _ _ h⟩, n, r⟩
  · obtain ⟨vs, h, n, r⟩ := o
    exact ⟨_, _, e, .inl h, n, r⟩
theorem BV.dtt {ks ds : List D} (h : BV K F H v (.dtt ks ds)) (s : Same F H) : ∃ a kvs, v = .ref a ∧ Rd H a (.dT kvs) ∧ ks = kvs.map (fun p => tD p.1) ∧ Reps K F (kvs.map (·.2)) ds := by
  rcases h with r | ⟨e, o⟩
  · cases r with
    | dT h n r => exact ⟨_, _, rfl, .inr ⟨_, s _ _ h⟩, n, r⟩
  · obtain ⟨vs, h, n, r⟩ := o
    exact ⟨_, _, e, .inl h, n, r⟩
theorem BV.dmx {w : World} {ks ds : List D} (h : BV K F H v (.dmx w ks ds)) (s : Same F H) : ∃ a kvs, v = .ref a ∧ Rd H a (mixO w a kvs) ∧ ks = kvs.map (fun p => nD p.1) ∧ (∀ p ∈ kvs, p.1.depth ≤ 8) ∧ Reps K F (kvs.map (·.2.1)) ks ∧ Reps K F (kvs.map (·.2.2)) ds := by
  rcases h with r | ⟨e, o⟩
  · cases r with
    | dM h n dp r1 r2 => exact ⟨_, _, rfl, .inr ⟨_, s _ _ h⟩, n, dp, r1, r2⟩
  · obtain ⟨vs, h, n, r⟩ := o
    exact ⟨_, _, e, .inl h, n, r⟩
theorem BV.ins {C : Addr} {ns : List Str} {ds : List D} (h : BV K F H v (.ins C ns ds)) (s : Same F H) : ∃ a dx fs, v = .ref a ∧ H a = some (.ins C dx fs) ∧ ns = fs.map (·.1) ∧ Reps K F (fs.map (·.2)) ds := by
  rcases h with r | ⟨e, o⟩
  · cases r with
    | ins h n r => exact ⟨_, _, _, rfl, s _ _ h, n, r⟩
  · exact o.elim
end
/-! ### an expression's reading over data -/
abbrev WE (R : Rgn) := DS R → (D → DS R → Prop) → Prop
abbrev WB (R : Rgn) := DS R → (Bool → DS R → Prop) → Prop
abbrev WA (R : Rgn) := DS R → (List D → DS R → Prop) → Prop
/-- pu: nothing but new objects comes of it; bo: it may be an object of the def's own -/
def liftE (c : Ctx) (pu bo : Bool) (w : WE c.R) : TE := fun σ H Q => ∃ (ρ : DS c.R) (F : Hp) (O : List Addr) (Kk : D → DS c.R → Prop), St c F O σ ρ H ∧ w ρ Kk ∧
  ∀ d ρ' v F' H', Kk d ρ' → St c F' O σ ρ' H' → Same F F' → (∀ a ∈ O, H' a = H a) → (pu = true → ρ' = ρ ∧ Grow F H F' H') → VRep c.K F' σ ρ'.sl v d bo → Q v H'
def liftT (c : Ctx) (pu : Bool) (w : WB c.R) : TT := fun σ H Q => ∃ (ρ : DS c.R) (F : Hp) (O : List Addr) (Kk : Bool → DS c.R → Prop), St c F O σ ρ H ∧ w ρ Kk ∧
  ∀ d ρ' F' H', Kk d ρ' → St c F' O σ ρ' H' → Same F F' → (∀ a ∈ O, H' a = H a) → (pu = true → ρ' = ρ ∧ Grow F H F' H') → Q d H'
def liftA (c : Ctx) (pu : Bool) (w : WA c.R) : TA := fun σ H Q => ∃ (ρ : DS c.R) (F : Hp) (O : List Addr) (Kk : List D → DS c.R → Prop), St c F O σ ρ H ∧ w ρ Kk ∧
  ∀ ds ρ' vs F' H', Kk ds ρ' → St c F' O σ ρ' H' → Same F F' → (∀ a ∈ O, H' a = H a) → (pu = true → ρ' = ρ ∧ Grow F H F' H') → Reps c.K F' vs ds → Q vs H'
/-- a fresh list or dict -/
def ObjD (K : PySem.W.Frag) (F : Hp) (a : Addr) : HO → D → Prop
  | .lst vs, .lst ds => Reps K F vs ds
  | .dK kvs, .dct ks ds => ks = kvs.map (fun p => kD p.1) ∧ Reps K F (kvs.map (·.2)) ds
  | .dT kvs, .dtt ks ds => ks = kvs.map (fun p => tD p.1) ∧ Reps K F (kvs.map (·.2)) ds
  | .ext φ, .dmx w ks ds => ∃ kvs, HO.ext φ = mixO w a kvs ∧ ks = kvs.map (fun p => nD p.1) ∧ (∀ p ∈ kvs, p.1.depth ≤ 8) ∧ Reps K F (kvs.map (·.2.1)) ks ∧ Reps K F (kvs.map (·.2.2)) ds
  | _, _ => False
theorem ObjD.noTup {K : PySem.W.Frag} {F : Hp} {a : Addr} : ∀ {o : HO} {d : D}, ObjD K F a o d → NoTup o
  | .tup _, .non, h => h.elim
  | .tup _, .bl _, h => h.elim
  | .tup _, .int _, h => h.elim
  | .tup _, .str _, h => h.elim
  | .tup _, .lst _, h => h.elim
  | .tup _, .tup _, h => h.elim
  | .tup _, .dct _ _, h => h.elim
  | .tup _, .dtt _ _, h => h.elim
  | .tup _, .dmx _ _ _, h => h.elim
  | .tup _, .ins _ _ _, h => h.elim
  | .tup _, .raw _, h => h.elim
  | .lst _, _, _ => fun _ z => by cases z
  | .dK _, _, _ => fun _ z => by cases z
  | .dT _, _, _ => fun _ z => by cases z
  | .set _ _, _, _ => fun _ z => by cases z
  | .ins _ _ _, _, _ => fun _ z => by cases z
  | .own _, _, _ => fun _ z => by cases z
  | .xd _, _, _ => fun _ z => by cases z
  | .met _ _, _, _ => fun _ z => by cases z
  | .rng _ _, _, _ => fun _ z => by cases z
  | .frz _ _, _, _ => fun _ z => by cases z
  | .tbl _, _, _ => fun _ z => by cases z
  | .ext _, _, _ => fun _ z => by cases z
def liftF (c : Ctx) (pu : Bool) (w : WE c.R) : TE := fun σ H Q => ∃ (ρ : DS c.R) (F : Hp) (O : List Addr) (Kk : D → DS c.R → Prop), St c F O σ ρ H ∧ w ρ Kk ∧
  ∀ d ρ' p o F' H', Kk d ρ' → St c F' O σ ρ' H' → Same F F' → (∀ a ∈ O, H' a = H a) → (pu = true → ρ' = ρ ∧ Grow F H F' H') → H' p = none → ObjD c.K F' p o d → Q (.ref p) (upd H' p o)
structure DE (X : Cx) (c : Ctx) (pu bo : Bool) (e : Expr) (w : WE c.R) : Prop where
  pe : PE X e (liftE c pu bo w)
  kk : X.K = c.K
structure FE (X : Cx) (c : Ctx) (pu : Bool) (e : Expr) (w : WE c.R) : Prop where
  pe : PE X e (liftF c pu w)
  kk : X.K = c.K
structure DT (X : Cx) (c : Ctx) (pu : Bool) (e : Expr) (w : WB c.R) : Prop where
  pt : PT X e (liftT c pu w)
structure DA (X : Cx) (c : Ctx) (pu : Bool) (es : List Expr) (w : WA c.R) : Prop where
  pa : PA X es (liftA c pu w)
theorem _root_.L2.PE.imp {X : Cx} {e : Expr} {t u : TE} (h : PE X e t) (i : ∀ σ H Q, u σ H Q → t σ H Q) : PE X e u := ⟨fun pins s σ H Q I q => h.run pins s σ H Q I (i σ H Q q)⟩
theorem _root_.L2.PT.imp {X : Cx} {e : Expr} {t u : TT} (h : PT X e t) (i : ∀ σ H Q, u σ H Q → t σ H Q) : PT X e u := ⟨fun pins s σ H Q I q => h.run pins s σ H Q I (i σ H Q q)⟩
theorem _root_.L2.PW.imp {X : Cx} {e : Expr} {t u : TT} (h : PW X e t) (i : ∀ σ H Q, u σ H Q → t σ H Q) : PW X e u := ⟨fun wh pins s σ H Q I q => h.run wh pins s σ H Q I (i σ H Q q)⟩
theorem _root_.L2.PA.imp {X : Cx} {e : List Expr} {t u : TA} (h : PA X e t) (i : ∀ σ H Q, u σ H Q → t σ H Q) : PA X e u := ⟨fun pos pins s σ H Q I q => h.run pos pins s σ H Q I (i σ H Q q)⟩
theorem _root_.L2.PS.imp {X : Cx} {e : Stmt} {t u : TS} (h : PS X e t) (i : ∀ D σ H, u D σ H → t D σ H) : PS X e u := ⟨fun pins s σ H D I q => h.run pins s σ H D I (i D σ H q)⟩
theorem _root_.L2.PSs.imp {X : Cx} {e : List Stmt} {t u : TS} (h : PSs X e t) (i : ∀ D σ H, u D σ H → t D σ H) : PSs X e u := ⟨fun pins s σ H D I q => h.run pins s σ H D I (i D σ H q)⟩
theorem Grow.trans {F H F1 H1 F2 H2 : Hp} (a : Grow F H F1 H1) (b : Grow F1 H1 F2 H2) : Grow F H F2 H2 :=
  ⟨a.fs.trans b.fs, b.sub, a.hs.trans b.hs, fun x n => (b.old x n).elim (fun q => a.old x q) fun q => .inr (a.hs.free q), fun t => b.tn (a.tn t)⟩
theorem Grow.at {F H F' H' : Hp} (g : Grow F H F' H') {a : Addr} (n : H a ≠ none) : H' a = H a := Same.live g.hs n
section
variable {X : Cx} {c : Ctx} {e a b : Expr} {es : List Expr} {pos : Pos}
/-! #### names, constants -/
def wC (R : Rgn) (d : D) : WE R := fun ρ K => K d ρ
theorem de_of_c {v : V} {d : D} (h : PE X e (tC v)) (r : ∀ F, Rep c.K F v d) (hk : X.K = c.K) : DE X c true false e (wC c.R d) :=
  ⟨h.imp fun σ H Q ⟨ρ, F, O, Kk, S, w, k⟩ => k d ρ v F H w S (Same.refl _) (fun _ _ => rfl) (fun _ => ⟨rfl, Grow.refl S.sub⟩) (r F), hk⟩
theorem de_int {i : Int} {j} (hk : X.K = c.K := by rfl) : DE X c true false (.Constant (.int i) j pos) (wC c.R (.int i)) := de_of_c pe_int (fun _ => .int i) hk
theorem de_bl {i : Bool} {j} (hk : X.K = c.K := by rfl) : DE X c true false (.Constant (.bool i) j pos) (wC c.R (.bl i)) := de_of_c pe_bl (fun _ => .bl i) hk
theorem de_non {j} (hk : X.K = c.K := by rfl) : DE X c true false (.Constant .none j pos) (wC c.R .non) := de_of_c pe_non (fun _ => .non) hk
theorem de_str {x : Str} {j} (hk : X.K = c.K := by rfl) : DE X c true false (.Constant (.str x) j pos) (wC c.R (.str x)) := de_of_c pe_str (fun _ => .str x) hk
/-- a name that holds data -/
def wV {R : Rgn} (i : Nat) : WE R := fun ρ K => ∃ d, ρ.sl[i]? = some (some (.fz d)) ∧ K d ρ
theorem de_v {i : Nat} {x : Str} (hN : X.N[i]? = some x := by rfl) (hv : Vis X.env.scope x := by first | exact .inl rfl | exact .inr (.inl rfl) | exact .inr (.inr rfl)) (hk : X.K = c.K := by rfl)
    (hd : (x == ("__debug__" : Str)) = false := by decide) (hcd : (x == ("__classdict__" : Str)) = false := by decide) : DE X c true false (.Name x pos) (wV i) :=
  ⟨(pe_var hN hv hd hcd).imp fun σ H Q ⟨ρ, F, O, Kk, S, ⟨d, hd, w⟩, k⟩ => by
    have h := S.slots i
    rw [hd] at h
    obtain ⟨v, h1, h2⟩ := h
    exact ⟨v, h1, k d ρ v F H w S (Same.refl _) (fun _ _ => rfl) (fun _ => ⟨rfl, Grow.refl S.sub⟩) h2⟩, hk⟩
/-- a name that may hold an object of the def's own, read -/
def wB {R : Rgn} (i : Nat) : WE R := fun ρ K => (∃ d, ρ.sl[i]? = some (some (.fz d)) ∧ K d ρ) ∨ ∃ d, ρ.sl[i]? = some (some (.own d)) ∧ K d ρ
theorem de_b {i : Nat} {x : Str} (hN : X.N[i]? = some x := by rfl) (hv : Vis X.env.scope x := by first | exact .inl rfl | exact .inr (.inl rfl) | exact .inr (.inr rfl)) (hk : X.K = c.K := by rfl)
    (hd : (x == ("__debug__" : Str)) = false := by decide) (hcd : (x == ("__classdict__" : Str)) = false := by decide) : DE X c true true (.Name x pos) (wB i) :=
  ⟨(pe_var hN hv hd hcd).imp fun σ H Q ⟨ρ, F, O, Kk, S, w, k⟩ => by
    have h := S.slots i
    rcases w with ⟨d, hd, w⟩ | ⟨d, hd, w⟩
    · rw [hd] at h
      obtain ⟨v, h1, h2⟩ := h
      exact ⟨v, h1, k d ρ v F H w S (Same.refl _) (fun _ _ => rfl) (fun _ => ⟨rfl, Grow.refl S.sub⟩) (.inl h2)⟩
    · rw [hd] at h
      obtain ⟨a, h1, h2⟩ := h
      exact ⟨.ref a, h1, k d ρ _ F H w S (Same.refl _) (fun _ _ => rfl) (fun _ => ⟨rfl, Grow.refl S.sub⟩) (.inr ⟨a, i, rfl, h1, hd⟩)⟩, hk⟩
/-- what an object becomes when it becomes data: a dict stays as it is from then on -/
def Fzn : HO → HO → Prop
  | .dK kvs, o' => ∃ od, o' = .frz od (.dK kvs)
  | .dT kvs, o' => ∃ od, o' = .frz od (.dT kvs)
  | .ext φ, o' => ∃ od, o' = .frz od (.ext φ)
  | o, o' => o' = o
theorem Fzn.noTup {o o' : HO} (h : Fzn o o') (n : NoTup o) : NoTup o' := by
  cases o <;> simp only [Fzn] at h
  case dK kvs => obtain ⟨od, rfl⟩ := h; exact fun _ z => by cases z
  case dT kvs => obtain ⟨od, rfl⟩ := h; exact fun _ z => by cases z
  case ext φ => obtain ⟨od, rfl⟩ := h; exact fun _ z => by cases z
  all_goals (subst h; exact n)
/-- the last step of a reading: an object may become data -/
def tGh (t : TE) : TE := fun σ H Q => t σ H fun v H1 => Q v H1 ∨ ∃ d o, H1 d = some o ∧ ∀ o', Fzn o o' → Q v (upd H1 d o')
theorem upd_self {H : Hp} {d : Addr} {o : HO} (e : H d = some o) : upd H d o = H := by
  funext b
  by_cases z : b = d
  · rw [z, upd_same, e]
  · rw [upd_ne z]
theorem inv_fz {X : Cx} {pins : List (Addr × Obj)} {σ : L2.St} {H : Hp} {s : Shared} {d : Addr} {o : HO} {P : Hp → Prop} (I : Inv X pins σ H s) (e : H d = some o) (z : ∀ o', Fzn o o' → P (upd H d o')) : ∃ H', Inv X pins σ H' s ∧ P H' := by
  by_cases hK : (∃ kvs, o = .dK kvs) ∨ (∃ kvs, o = .dT kvs) ∨ ∃ φ, o = .ext φ
  · have mu : Mut (some o) := by rcases hK with ⟨kvs, rfl⟩ | ⟨kvs, rfl⟩ | ⟨φ, rfl⟩ <;> exact True.intro
    obtain ⟨od, I2⟩ := I.lock e mu
    refine ⟨_, I2, z _ ?_⟩
    rcases hK with ⟨kvs, rfl⟩ | ⟨kvs, rfl⟩ | ⟨φ, rfl⟩
    · exact ⟨od, rfl⟩
    · exact ⟨od, rfl⟩
    · exact ⟨od, rfl⟩
  · have f : Fzn o o := by
      cases o <;> simp only [Fzn]
      · exact absurd (.inl ⟨_, rfl⟩) hK
      · exact absurd (.inr (.inl ⟨_, rfl⟩)) hK
      · exact absurd (.inr (.inr ⟨_, rfl⟩)) hK
    have := z o f
    rw [upd_self e] at this
    exact ⟨H, I, this⟩
theorem _root_.L2.PE.gh {X : Cx} {e : Expr} {t : TE} (h : PE X e t) : PE X e (tGh t) := ⟨fun pins s σ H Q I q => thn (h.run pins s σ H _ I q) fun u s1 ⟨v, H1, I1, r, z⟩ => by
  rcases z with z | ⟨d, o, e, z⟩
  · exact ⟨v, H1, I1, r, z⟩
  · obtain ⟨H2, I2, q2⟩ := inv_fz I1 e z
    exact ⟨v, H2, I2, r, q2⟩⟩
/-- an object of the def's own becomes data -/
theorem OwnAt.rep {K : PySem.W.Frag} {F H : Hp} {a : Addr} {o o' : HO} (h : H a = some o) (n : F a = none) (f : Fzn o o') : ∀ {d : D}, OwnAt K F H a d → Rep K (upd F a o') (.ref a) d
  | .lst ds, ⟨vs, e, r⟩ => by
    rw [h] at e
    cases e
    have f : o' = _ := f
    subst f
    exact .lst upd_same (r.same fun b u q => by rw [upd_ne (ne_of_none q n)]; exact q)
  | .dct ks ds, ⟨vs, e, m, r⟩ => by
    rw [h] at e
    cases e
    obtain ⟨od, rfl⟩ := f
    exact .dK upd_same m (r.same fun b u q => by rw [upd_ne (ne_of_none q n)]; exact q)
  | .dtt ks ds, ⟨vs, e, m, r⟩ => by
    rw [h] at e
    cases e
    obtain ⟨od, rfl⟩ := f
    exact .dT upd_same m (r.same fun b u q => by rw [upd_ne (ne_of_none q n)]; exact q)
  | .dmx w ks ds, ⟨vs, e, m, dp, r1, r2⟩ => by
    rw [h] at e
    cases e
    obtain ⟨od, rfl⟩ := f
    have st : Same F (upd F a (.frz od (mixO w a vs))) := fun b u q => by rw [upd_ne (ne_of_none q n)]; exact q
    exact .dM upd_same m dp (r1.same st) (r2.same st)
theorem OwnAt.noTup {K : PySem.W.Frag} {F H : Hp} {a : Addr} {o : HO} (h : H a = some o) : ∀ {d : D}, OwnAt K F H a d → NoTup o
  | .lst _, ⟨_, e, _⟩ => by rw [h] at e; cases e; exact fun _ z => by cases z
  | .dct _ _, ⟨_, e, _⟩ => by rw [h] at e; cases e; exact fun _ z => by cases z
  | .dtt _ _, ⟨_, e, _⟩ => by rw [h] at e; cases e; exact fun _ z => by cases z
  | .dmx _ _ _, ⟨_, e, _⟩ => by rw [h] at e; cases e; exact fun _ z => by cases z
theorem St.freeze {F H : Hp} {O : List Addr} {σ : L2.St} {ρ : DS c.R} {i : Nat} {p : Addr} {d : D} (S : St c F O σ ρ H) (h1 : σ[i]? = some (some (.ref p))) (h2 : ρ.sl[i]? = some (some (.own d))) :
    ∃ o, H p = some o ∧ p ∉ O ∧ ∀ o', Fzn o o' → ∃ F', Same F F' ∧ St c F' O σ (ρ.put i (some (.fz d))) (upd H p o') ∧ Rep c.K F' (.ref p) d := by
  have hs := S.slots i
  rw [h2] at hs
  obtain ⟨p', e, ow⟩ := hs
  rw [h1] at e
  cases e
  cases ho : H p with
  | none => exact absurd ho ow.there
  | some o =>
    have ns : Owns σ ρ.sl i p := ⟨h1, d, h2⟩
    obtain ⟨m1, m2, m3⟩ := S.mine i p ns
    refine ⟨o, rfl, m3, fun o' f => ?_⟩
    have fs : Same F (upd F p o') := fun b u q => by rw [upd_ne (ne_of_none q m1)]; exact q
    have r := OwnAt.rep (K := c.K) ho m1 f ow
    refine ⟨upd F p o', fs, ?_, r⟩
    have own : ∀ j q, Owns σ (ρ.put i (some (.fz d))).sl j q → Owns σ ρ.sl j q ∧ j ≠ i := fun j q ⟨g1, x, g2⟩ => by
      have g2 : (ρ.sl.set i (some (.fz d)))[j]? = some (some (.own x)) := g2
      rw [set_get] at g2
      by_cases e : i = j
      · rw [if_pos e] at g2
        split at g2 <;> cases g2
      · rw [if_neg e] at g2
        exact ⟨⟨g1, x, g2⟩, fun z => e z.symm⟩
    refine ⟨by show σ.length = (ρ.sl.set i _).length; rw [List.length_set]; exact S.len, Same.upd2 S.sub, S.tin.upd2, S.old.trans fs, fun b n q => ?_, (fun b u q n => by rw [upd_ne (fun z => by rw [z, m2] at q; cases q)]; exact S.keep b u q n), (fun b n => by rw [upd_ne (fun z => by rw [z] at n; exact n m2)]; exact S.live b n), fun j => ?_, fun j q h => ?_, fun j k q h h' => S.inj j k q (own j q h).1 (own k q h').1, fun q hq => ?_, ?_⟩
    · by_cases z : b = p
      · subst z; exact m2
      · rw [upd_ne z] at n; exact S.new b n q
    · show SlotOk c.K (upd F p o') (upd H p o') σ j (ρ.sl.set i (some (.fz d)))[j]?
      rw [set_get]
      by_cases e : i = j
      · subst e
        rw [if_pos rfl]
        by_cases q : i < ρ.sl.length
        · rw [if_pos q]
          exact ⟨_, h1, r⟩
        · rw [if_neg q]; trivial
      · rw [if_neg e]
        have h := S.slots j
        cases q : ρ.sl[j]? with
        | none => trivial
        | some x =>
          rw [q] at h
          cases x with
          | none => trivial
          | some x =>
            cases x with
            | fz d =>
              obtain ⟨v, h1, h2⟩ := h
              exact ⟨v, h1, h2.same fs⟩
            | own d =>
              obtain ⟨a, g1, g2⟩ := h
              exact ⟨a, g1, g2.same fs (upd_ne fun z => e (S.inj i j p ns ⟨by rw [← z]; exact g1, d, q⟩))⟩
    · obtain ⟨n1, n2, n3⟩ := S.mine j q (own j q h).1
      refine ⟨?_, n2, n3⟩
      by_cases z : q = p
      · subst z
        exact absurd (S.inj j i q (own j q h).1 ns) (own j q h).2
      · rw [upd_ne z]; exact n1
    · obtain ⟨n1, n2, n3⟩ := S.out q hq
      have z : q ≠ p := fun z => m3 (by rw [← z]; exact hq)
      exact ⟨by rw [upd_ne z]; exact n1, n2, by rw [upd_ne z]; exact n3⟩
    · obtain ⟨Z, r, z1, z2, z3, z4⟩ := S.reg
      refine ⟨Z, c.R.fr r fun a h => by rw [upd_ne (fun y => z4 i p ns (by rw [← y]; exact h))], fun b hb => ?_, z2, z3, fun j q h => z4 j q (own j q h).1⟩
      by_cases z : b = p
      · subst z; exact absurd hb (z4 i b ns)
      · rw [upd_ne z]; exact z1 b hb
/-- a name that may hold an object of the def's own, handed on: it is data from then on -/
def wO {R : Rgn} (i : Nat) : WE R := fun ρ K => (∃ d, ρ.sl[i]? = some (some (.fz d)) ∧ K d ρ) ∨ ∃ d, ρ.sl[i]? = some (some (.own d)) ∧ K d (ρ.put i (some (.fz d)))
theorem de_o {i : Nat} {x : Str} (hN : X.N[i]? = some x := by rfl) (hv : Vis X.env.scope x := by first | exact .inl rfl | exact .inr (.inl rfl) | exact .inr (.inr rfl)) (hk : X.K = c.K := by rfl)
    (hd : (x == ("__debug__" : Str)) = false := by decide) (hcd : (x == ("__classdict__" : Str)) = false := by decide) : DE X c false false (.Name x pos) (wO i) :=
  ⟨(pe_var hN hv hd hcd).gh.imp fun σ H Q ⟨ρ, F, O, Kk, S, w, k⟩ => by
    have h := S.slots i
    rcases w with ⟨d, hd, w⟩ | ⟨d, hd, w⟩
    · rw [hd] at h
      obtain ⟨v, h1, h2⟩ := h
      exact ⟨v, h1, .inl (k d ρ v F H w S (Same.refl _) (fun _ _ => rfl) (fun z => by cases z) h2)⟩
    · rw [hd] at h
      obtain ⟨a, h1, h2⟩ := h
      obtain ⟨o, e, nO, fz⟩ := S.freeze h1 hd
      refine ⟨.ref a, h1, .inr ⟨a, o, e, fun o' f => ?_⟩⟩
      obtain ⟨F', fs, S', r⟩ := fz o' f
      exact k d _ _ F' _ w S' fs (fun b m => upd_ne fun z => nO (by rw [← z]; exact m)) (fun z => by cases z) r, hk⟩
/-- a fresh object becomes data -/
theorem ObjD.rep {K : PySem.W.Frag} {F : Hp} {p : Addr} {o o' : HO} {d : D} (f : Fzn o o') (n : F p = none) (ob : ObjD K F p o d) : Rep K (upd F p o') (.ref p) d := by
  have st : Same F (upd F p o') := fun b u q => by rw [upd_ne (ne_of_none q n)]; exact q
  cases o <;> cases d <;> simp only [ObjD] at ob
  · have f : o' = _ := f
    subst f
    exact .lst upd_same (ob.same st)
  · obtain ⟨od, rfl⟩ := f
    exact .dK upd_same ob.1 (ob.2.same st)
  · obtain ⟨od, rfl⟩ := f
    exact .dT upd_same ob.1 (ob.2.same st)
  · obtain ⟨od, rfl⟩ := f
    obtain ⟨kvs, e1, e2, dp, r1, r2⟩ := ob
    have st2 : Same F (upd F p (.frz od (HO.ext _))) := st
    rw [e1] at st2 ⊢
    exact .dM upd_same e2 dp (r1.same st2) (r2.same st2)
theorem Same.none {F H : Hp} {p : Addr} (s : Same F H) (h : H p = none) : F p = none := by
  cases e : F p with
  | none => rfl
  | some u => rw [s _ _ e] at h; cases h
theorem FE.de {pu : Bool} {w : WE c.R} (h : FE X c pu e w) : DE X c pu false e w :=
  ⟨h.pe.gh.imp fun σ H Q ⟨ρ, F, O, Kk, S, w, k⟩ => ⟨ρ, F, O, Kk, S, w, fun d ρ' p o F' H' hk S' fs ko g hp ob => .inr ⟨p, o, upd_same, fun o' f => by
    rw [upd_upd]
    have al : Al F' H' (upd F' p o') (upd H' p o') := Al.one hp
    have gr := al.grow S'.sub
    exact k d ρ' _ (upd F' p o') (upd H' p o') hk (S'.grow gr) (fs.trans gr.fs) (fun a ha => by rw [upd_ne (fun z => (S'.out a ha).2.2 (by rw [z]; exact hp))]; exact ko a ha) (fun z => ⟨(g z).1, (g z).2.trans gr⟩) (ob.rep f (Same.none S'.sub hp))⟩⟩, h.kk⟩
end
end Q

set_option Elab.async false
set_option linter.all false
set_option maxRecDepth 100000
set_option maxHeartbeats 4000000
namespace Q
open PySem PySem.Spec PyProof.Rows L2
/-! ### operators over data -/
def R2D (K : PySem.W.Frag) (r : R2) (g : D → D → Option D) : Prop := ∀ {F H : Hp} {v u : V} {x y z : D} {Q : VK}, Same F H → BV K F H v x → BV K F H u y → g x y = some z →
  (∀ v' F' H', Al F H F' H' → Rep K F' v' z → Q v' H') → r v u H Q
def R1D (K : PySem.W.Frag) (r : List V → Hp → VK → Prop) (g : D → Option D) : Prop := ∀ {F H : Hp} {v : V} {x z : D} {Q : VK}, Same F H → BV K F H v x → g x = some z →
  (∀ v' F' H', Al F H F' H' → Rep K F' v' z → Q v' H') → r [v] H Q
def wOp {R : Rgn} (g : D → D → Option D) (wa wb : WE R) : WE R := fun ρ K => wa ρ fun x ρ1 => wb ρ1 fun y ρ2 => ∃ z, g x y = some z ∧ K z ρ2
def wUn {R : Rgn} (g : D → Option D) (wa : WE R) : WE R := fun ρ K => wa ρ fun x ρ1 => ∃ z, g x = some z ∧ K z ρ1
def wTest {R : Rgn} (wa : WE R) : WB R := fun ρ K => wa ρ fun x ρ1 => ∃ b, x = .bl b ∧ K b ρ1
theorem VRep.carry {K : PySem.W.Frag} {F F' : Hp} {σ : L2.St} {sl sl' : List (Option DV)} {v : V} {d : D} {b : Bool} (r : VRep K F σ sl v d b) (e : Same F F') (h : b = false ∨ sl' = sl) : VRep K F' σ sl' v d b := by
  cases b with
  | false => exact Rep.same e r
  | true =>
    rcases h with h | h
    · cases h
    · rw [h]
      rcases r with r | r
      · exact .inl (r.same e)
      · exact .inr r
theorem ko_al {c : Ctx} {F H F' H' : Hp} {O : List Addr} {σ : L2.St} {ρ : DS c.R} (S : St c F O σ ρ H) (a : Al F H F' H') : ∀ x ∈ O, H' x = H x := fun x h => a.at (S.out x h).2.2
section
variable {X : Cx} {c : Ctx} {a b : Expr} {pos : Pos} {pa pb ba bb : Bool} {wa wb : WE c.R}
theorem bin_ok {r : R2} {g : D → D → Option D} (hr : R2D c.K r g) (hs : ba = false ∨ pb = true) {σ : L2.St} {H : Hp} {Q : VK} (h : liftE c (pa && pb) false (wOp g wa wb) σ H Q) :
    liftE c pa ba wa σ H fun x H1 => liftE c pb bb wb σ H1 fun y H2 => r x y H2 Q := by
  obtain ⟨ρ, F, O, Kk, S, w, k⟩ := h
  refine ⟨ρ, F, O, _, S, w, fun x ρ1 v F1 H1 hk S1 fs1 ko1 g1 r1 => ⟨ρ1, F1, O, _, S1, hk, fun y ρ2 u F2 H2 ⟨z, hz, kz⟩ S2 fs2 ko2 g2 r2 => ?_⟩⟩
  have c1 : VRep c.K F2 σ ρ2.sl v x ba := r1.carry fs2 (hs.imp id fun e => by rw [(g2 e).1])
  refine hr S2.sub (c1.bv S2) (r2.bv S2) hz fun v' F' H' al rp => ?_
  refine k z ρ2 v' F' H' kz (S2.grow (al.grow S2.sub)) (fs1.trans (fs2.trans (al.fs S2.sub))) (fun q hq => by rw [ko_al S2 al q hq, ko2 q hq, ko1 q hq]) (fun e => ?_) rp
  rw [Bool.and_eq_true] at e
  obtain ⟨e1, q1⟩ := g1 e.1
  obtain ⟨e2, q2⟩ := g2 e.2
  exact ⟨e2.trans e1, q1.trans (q2.trans (al.grow S2.sub))⟩
theorem de_op {op : Operator} {r : R2} {g : D → D → Option D} (ho : OpR X (binaryOp op) r) (hr : R2D c.K r g) (ha : DE X c pa ba a wa) (hb : DE X c pb bb b wb) (hs : ba = false ∨ pb = true := by first | exact .inl rfl | exact .inr rfl) :
    DE X c (pa && pb) false (.BinOp a op b pos) (wOp g wa wb) := ⟨(pe_op ho ha.pe hb.pe).imp fun σ H Q h => bin_ok hr hs h, ha.kk⟩
theorem de_cmp {op : CmpOp} {r : R2} {g : D → D → Option D} (ho : OpR X (compareOp op) r) (hr : R2D c.K r g) (ha : DE X c pa ba a wa) (hb : DE X c pb bb b wb) (hm : behindInMarks op b = false)
    (hs : ba = false ∨ pb = true := by first | exact .inl rfl | exact .inr rfl) : DE X c (pa && pb) false (.Compare a [op] [b] pos) (wOp g wa wb) := ⟨(pe_cmpR ho ha.pe hb.pe hm).imp fun σ H Q h => bin_ok hr hs h, ha.kk⟩
theorem de_ix {r : R2} {g : D → D → Option D} (ho : IxR X r) (hr : R2D c.K r g) (ha : DE X c pa ba a wa) (hb : DE X c pb bb b wb) (hx : PlainIx b) (hs : ba = false ∨ pb = true := by first | exact .inl rfl | exact .inr rfl) :
    DE X c (pa && pb) false (.Subscript a b pos) (wOp g wa wb) := ⟨(pe_ix ho ha.pe hb.pe hx).imp fun σ H Q h => bin_ok hr hs h, ha.kk⟩
/-- a truth as a test -/
theorem test_ok {σ : L2.St} {H : Hp} {Q : Bool → Hp → Prop} (h : liftT c pa (wTest wa) σ H Q) : liftE c pa ba wa σ H fun x H1 => ∃ k, x = .bl k ∧ Q k H1 := by
  obtain ⟨ρ, F, O, Kk, S, w, k⟩ := h
  exact ⟨ρ, F, O, _, S, w, fun x ρ1 v F1 H1 ⟨z, e, hk⟩ S1 fs1 ko1 g1 r1 => ⟨z, by subst e; exact (r1.bv S1).bl, k z ρ1 F1 H1 hk S1 fs1 ko1 g1⟩⟩
theorem dt_val {e : Expr} (h : DE X c pa ba e wa) (he : ∀ whole, isTrue e X.env whole = (do let v ← whole; standAt e.pos; holding [v] (truthy v)) := by intro _; rfl) : DT X c pa e (wTest wa) :=
  ⟨(pt_val h.pe he).imp fun σ H Q h => test_ok h⟩
theorem dt_cmp {op : CmpOp} {r : R2} {g : D → D → Option D} (ho : OpR X (compareOp op) r) (hr : R2D c.K r g) (ha : DE X c pa ba a wa) (hb : DE X c pb bb b wb) (hm : behindInMarks op b = false)
    (hs : ba = false ∨ pb = true := by first | exact .inl rfl | exact .inr rfl) : DT X c (pa && pb) (.Compare a [op] [b] pos) (wTest (wOp g wa wb)) :=
  ⟨(pt_cmpR ho ha.pe hb.pe hm).imp fun σ H Q h => bin_ok (pa := pa) (ba := ba) (bb := bb) hr hs (test_ok (ba := false) h)⟩
/-- by truth -/
def truD : D → Option Bool
  | .non => some false
  | .bl b => some b
  | .int i => some (i != 0)
  | .str x => if x.length ≤ sizeLine then some ((x.length : Int) != 0) else none
  | .lst ds => some (!ds.isEmpty)
  | .tup ds => some (!ds.isEmpty)
  | _ => none
def wTruth {R : Rgn} (wa : WE R) : WB R := fun ρ K => wa ρ fun x ρ1 => ∃ b, truD x = some b ∧ K b ρ1
theorem Reps.isEmpty {K : PySem.W.Frag} {F : Hp} {vs : List V} {ds : List D} (h : Reps K F vs ds) : vs.isEmpty = ds.isEmpty := by cases h <;> rfl
theorem BV.tru {K : PySem.W.Frag} {F H : Hp} {v : V} {d : D} {k : Bool} (h : BV K F H v d) (s : Same F H) (e : truD d = some k) : TruV K v H k := by
  cases d with
  | non => cases e; rw [h.non]; rfl
  | bl b => cases e; rw [h.bl]; rfl
  | int i => cases e; rw [h.int]; rfl
  | str x =>
    have e : (if x.length ≤ sizeLine then some ((x.length : Int) != 0) else none) = some k := e
    by_cases hz : x.length ≤ sizeLine
    · rw [if_pos hz] at e; cases e; rw [h.str]; exact ⟨hz, rfl⟩
    · rw [if_neg hz] at e; cases e
  | lst ds => cases e; obtain ⟨a, vs, rfl, h1, h2⟩ := h.lst s; exact .inl ⟨vs, SqL.of h1, by rw [h2.isEmpty]⟩
  | tup ds => cases e; obtain ⟨a, vs, rfl, h1, h2⟩ := h.tup s; exact .inr (.inl ⟨vs, h1, by rw [h2.isEmpty]⟩)
  | dct _ _ => cases e
  | dtt _ _ => cases e
  | dmx _ _ _ => cases e
  | ins _ _ _ => cases e
  | raw _ => cases e
theorem dt_truth {e : Expr} (h : DE X c pa ba e wa) (he : ∀ whole, isTrue e X.env whole = (do let v ← whole; standAt e.pos; holding [v] (truthy v)) := by intro _; rfl) : DT X c pa e (wTruth wa) :=
  ⟨(pt_truth h.pe he).imp fun σ H Q ⟨ρ, F, O, Kk, S, w, k⟩ => ⟨ρ, F, O, _, S, w, fun x ρ1 v F1 H1 ⟨z, e, hk⟩ S1 fs1 ko1 g1 r1 => ⟨z, by rw [h.kk]; exact (r1.bv S1).tru S1.sub e, k z ρ1 F1 H1 hk S1 fs1 ko1 g1⟩⟩⟩
/-! ### and, or, not, if -/
def wBand {R : Rgn} (wa wb : WB R) : WB R := fun ρ K => wa ρ fun x ρ1 => if x = true then wb ρ1 K else K false ρ1
def wBor {R : Rgn} (wa wb : WB R) : WB R := fun ρ K => wa ρ fun x ρ1 => if x = true then K true ρ1 else wb ρ1 K
def wBnot {R : Rgn} (wa : WB R) : WB R := fun ρ K => wa ρ fun x ρ1 => K (!x) ρ1
/-- a chain of and, or -/
structure DW (X : Cx) (c : Ctx) (pu : Bool) (e : Expr) (w : WB c.R) : Prop where
  pw : PW X e (liftT c pu w)
theorem DW.dt {e : Expr} {w : WB c.R} (h : DW X c pa e w) : DT X c pa e w := ⟨PW.pt h.pw⟩
theorem two_ok {wa wb : WB c.R} {wr : WB c.R} {f : TT → TT → TT} {σ : L2.St} {H : Hp} {Q : Bool → Hp → Prop} (h : liftT c (pa && pb) wr σ H Q)
    (hf : f = tAnd ∧ wr = wBand wa wb ∨ f = tOr ∧ wr = wBor wa wb) : f (liftT c pa wa) (liftT c pb wb) σ H Q := by
  obtain ⟨ρ, F, O, Kk, S, w, k⟩ := h
  rcases hf with ⟨rfl, rfl⟩ | ⟨rfl, rfl⟩
  · refine ⟨ρ, F, O, _, S, w, fun x ρ1 F1 H1 hk S1 fs1 ko1 g1 => ?_⟩
    cases x with
    | true =>
      rw [if_pos rfl] at hk ⊢
      refine ⟨ρ1, F1, O, _, S1, hk, fun y ρ2 F2 H2 hk2 S2 fs2 ko2 g2 => k y ρ2 F2 H2 hk2 S2 (fs1.trans fs2) (fun q hq => by rw [ko2 q hq, ko1 q hq]) fun e => ?_⟩
      rw [Bool.and_eq_true] at e
      obtain ⟨e1, q1⟩ := g1 e.1
      obtain ⟨e2, q2⟩ := g2 e.2
      exact ⟨e2.trans e1, q1.trans q2⟩
    | false =>
      rw [if_neg (by decide)] at hk ⊢
      exact k false ρ1 F1 H1 hk S1 fs1 ko1 fun e => g1 (by rw [Bool.and_eq_true] at e; exact e.1)
  · refine ⟨ρ, F, O, _, S, w, fun x ρ1 F1 H1 hk S1 fs1 ko1 g1 => ?_⟩
    cases x with
    | false =>
      rw [if_neg (by decide)] at hk ⊢
      refine ⟨ρ1, F1, O, _, S1, hk, fun y ρ2 F2 H2 hk2 S2 fs2 ko2 g2 => k y ρ2 F2 H2 hk2 S2 (fs1.trans fs2) (fun q hq => by rw [ko2 q hq, ko1 q hq]) fun e => ?_⟩
      rw [Bool.and_eq_true] at e
      obtain ⟨e1, q1⟩ := g1 e.1
      obtain ⟨e2, q2⟩ := g2 e.2
      exact ⟨e2.trans e1, q1.trans q2⟩
    | true =>
      rw [if_pos rfl] at hk ⊢
      exact k true ρ1 F1 H1 hk S1 fs1 ko1 fun e => g1 (by rw [Bool.and_eq_true] at e; exact e.1)
section
variable {ta tb : WB c.R} {rest : List Expr}
theorem dw_and1 (ha : DT X c pa a ta) : DW X c pa (.BoolOp .And [a] pos) ta := ⟨pw_and1 ha.pt⟩
theorem dw_or1 (ha : DT X c pa a ta) : DW X c pa (.BoolOp .Or [a] pos) ta := ⟨pw_or1 ha.pt⟩
theorem dw_and (ha : DT X c pa a ta) (hb : DW X c pb (.BoolOp .And (b :: rest) pos) tb) : DW X c (pa && pb) (.BoolOp .And (a :: b :: rest) pos) (wBand ta tb) :=
  ⟨(pw_and ha.pt hb.pw).imp fun σ H Q h => two_ok (f := tAnd) h (.inl ⟨rfl, rfl⟩)⟩
theorem dw_or (ha : DT X c pa a ta) (hb : DW X c pb (.BoolOp .Or (b :: rest) pos) tb) : DW X c (pa && pb) (.BoolOp .Or (a :: b :: rest) pos) (wBor ta tb) :=
  ⟨(pw_or ha.pt hb.pw).imp fun σ H Q h => two_ok (f := tOr) h (.inr ⟨rfl, rfl⟩)⟩
theorem dt_not (ha : DT X c pa a ta) : DT X c pa (.UnaryOp .Not a pos) (wBnot ta) :=
  ⟨(pt_not ha.pt).imp fun σ H Q ⟨ρ, F, O, Kk, S, w, k⟩ => ⟨ρ, F, O, _, S, w, fun x ρ1 F1 H1 hk S1 fs1 ko1 g1 => k (!x) ρ1 F1 H1 hk S1 fs1 ko1 g1⟩⟩
end
/-- .. as values: truths -/
def wAndV {R : Rgn} (wa wb : WE R) : WE R := fun ρ K => wa ρ fun x ρ1 => ∃ b, x = .bl b ∧ if b = true then wb ρ1 K else K (.bl false) ρ1
def wOrV {R : Rgn} (wa wb : WE R) : WE R := fun ρ K => wa ρ fun x ρ1 => ∃ b, x = .bl b ∧ if b = true then K (.bl true) ρ1 else wb ρ1 K
def wNotV {R : Rgn} (wa : WE R) : WE R := fun ρ K => wa ρ fun x ρ1 => ∃ b, x = .bl b ∧ K (.bl (!b)) ρ1
section
variable {rest : List Expr} {op : BoolOp}
theorem de_one (ha : DE X c pa ba a wa) : DE X c pa ba (.BoolOp op [a] pos) wa := ⟨pe_one ha.pe, ha.kk⟩
theorem de_and (ha : DE X c pa ba a wa) (hb : DE X c pb bb (.BoolOp .And (b :: rest) pos) wb) : DE X c (pa && pb) bb (.BoolOp .And (a :: b :: rest) pos) (wAndV wa wb) :=
  ⟨(pe_and ha.pe hb.pe).imp fun σ H Q ⟨ρ, F, O, Kk, S, w, k⟩ => by
    refine ⟨ρ, F, O, _, S, w, fun x ρ1 v F1 H1 ⟨z, e, hk⟩ S1 fs1 ko1 g1 r1 => ⟨z, by subst e; exact (r1.bv S1).bl, ?_⟩⟩
    cases z with
    | true =>
      rw [if_pos rfl] at hk ⊢
      refine ⟨ρ1, F1, O, _, S1, hk, fun y ρ2 v2 F2 H2 hk2 S2 fs2 ko2 g2 r2 => k y ρ2 v2 F2 H2 hk2 S2 (fs1.trans fs2) (fun q hq => by rw [ko2 q hq, ko1 q hq]) (fun e => ?_) r2⟩
      rw [Bool.and_eq_true] at e
      obtain ⟨e1, q1⟩ := g1 e.1
      obtain ⟨e2, q2⟩ := g2 e.2
      exact ⟨e2.trans e1, q1.trans q2⟩
    | false =>
      rw [if_neg (by decide)] at hk ⊢
      exact k (.bl false) ρ1 _ F1 H1 hk S1 fs1 ko1 (fun e => g1 (by rw [Bool.and_eq_true] at e; exact e.1)) (VRep.up (ρ := ρ1) (.bl false)), ha.kk⟩
theorem de_or (ha : DE X c pa ba a wa) (hb : DE X c pb bb (.BoolOp .Or (b :: rest) pos) wb) : DE X c (pa && pb) bb (.BoolOp .Or (a :: b :: rest) pos) (wOrV wa wb) :=
  ⟨(pe_or ha.pe hb.pe).imp fun σ H Q ⟨ρ, F, O, Kk, S, w, k⟩ => by
    refine ⟨ρ, F, O, _, S, w, fun x ρ1 v F1 H1 ⟨z, e, hk⟩ S1 fs1 ko1 g1 r1 => ⟨z, by subst e; exact (r1.bv S1).bl, ?_⟩⟩
    cases z with
    | false =>
      rw [if_neg (by decide)] at hk ⊢
      refine ⟨ρ1, F1, O, _, S1, hk, fun y ρ2 v2 F2 H2 hk2 S2 fs2 ko2 g2 r2 => k y ρ2 v2 F2 H2 hk2 S2 (fs1.trans fs2) (fun q hq => by rw [ko2 q hq, ko1 q hq]) (fun e => ?_) r2⟩
      rw [Bool.and_eq_true] at e
      obtain ⟨e1, q1⟩ := g1 e.1
      obtain ⟨e2, q2⟩ := g2 e.2
      exact ⟨e2.trans e1, q1.trans q2⟩
    | true =>
      rw [if_pos rfl] at hk ⊢
      exact k (.bl true) ρ1 _ F1 H1 hk S1 fs1 ko1 (fun e => g1 (by rw [Bool.and_eq_true] at e; exact e.1)) (VRep.up (ρ := ρ1) (.bl true)), ha.kk⟩
theorem de_not (ha : DE X c pa ba a wa) : DE X c pa false (.UnaryOp .Not a pos) (wNotV wa) :=
  ⟨(pe_not ha.pe).imp fun σ H Q ⟨ρ, F, O, Kk, S, w, k⟩ => ⟨ρ, F, O, _, S, w, fun x ρ1 v F1 H1 ⟨z, e, hk⟩ S1 fs1 ko1 g1 r1 => ⟨z, by subst e; exact (r1.bv S1).bl, k _ ρ1 _ F1 H1 hk S1 fs1 ko1 g1 (.bl _)⟩⟩, ha.kk⟩
def wIfE {R : Rgn} (wt : WB R) (wa wb : WE R) : WE R := fun ρ K => wt ρ fun x ρ1 => if x = true then wa ρ1 K else wb ρ1 K
theorem de_if {t : Expr} {pt : Bool} {wt : WB c.R} (ht : DT X c pt t wt) (ha : DE X c pa ba a wa) (hb : DE X c pb ba b wb) : DE X c (pt && (pa && pb)) ba (.IfExp t a b pos) (wIfE wt wa wb) :=
  ⟨(pe_ifExp ht.pt ha.pe hb.pe).imp fun σ H Q ⟨ρ, F, O, Kk, S, w, k⟩ => by
    refine ⟨ρ, F, O, _, S, w, fun x ρ1 F1 H1 hk S1 fs1 ko1 g1 => ?_⟩
    cases x with
    | true =>
      rw [if_pos rfl] at hk ⊢
      refine ⟨ρ1, F1, O, _, S1, hk, fun y ρ2 v2 F2 H2 hk2 S2 fs2 ko2 g2 r2 => k y ρ2 v2 F2 H2 hk2 S2 (fs1.trans fs2) (fun q hq => by rw [ko2 q hq, ko1 q hq]) (fun e => ?_) r2⟩
      rw [Bool.and_eq_true, Bool.and_eq_true] at e
      obtain ⟨e1, q1⟩ := g1 e.1
      obtain ⟨e2, q2⟩ := g2 e.2.1
      exact ⟨e2.trans e1, q1.trans q2⟩
    | false =>
      rw [if_neg (by decide)] at hk ⊢
      refine ⟨ρ1, F1, O, _, S1, hk, fun y ρ2 v2 F2 H2 hk2 S2 fs2 ko2 g2 r2 => k y ρ2 v2 F2 H2 hk2 S2 (fs1.trans fs2) (fun q hq => by rw [ko2 q hq, ko1 q hq]) (fun e => ?_) r2⟩
      rw [Bool.and_eq_true, Bool.and_eq_true] at e
      obtain ⟨e1, q1⟩ := g1 e.1
      obtain ⟨e2, q2⟩ := g2 e.2.2
      exact ⟨e2.trans e1, q1.trans q2⟩, ha.kk⟩
end
end
end Q

set_option Elab.async false
set_option linter.all false
set_option maxRecDepth 100000
set_option maxHeartbeats 4000000
namespace Q
open PySem PySem.Spec PyProof.Rows L2
theorem big_line : 100000 ≤ sizeLine := by rw [sizeLine_eq]; decide
section
variable {X : Cx} {c : Ctx} {e : Expr} {es : List Expr} {pos p : Pos} {pa pb ba bb : Bool} {we : WE c.R} {wa : WA c.R}
/-! ### arguments, displays -/
def wNil {R : Rgn} : WA R := fun ρ K => K [] ρ
def wCons {R : Rgn} (we : WE R) (wa : WA R) : WA R := fun ρ K => we ρ fun x ρ1 => wa ρ1 fun xs ρ2 => K (x :: xs) ρ2
theorem da_nil : DA X c true [] wNil := ⟨pa_nil.imp fun σ H Q ⟨ρ, F, O, Kk, S, w, k⟩ => k [] ρ [] F H w S (Same.refl _) (fun _ _ => rfl) (fun _ => ⟨rfl, Grow.refl S.sub⟩) .nil⟩
theorem da_cons (he : DE X c pa false e we) (ha : DA X c pb es wa) (hs : starEach (e :: es) X.env = (false, eval e X.env) :: starEach es X.env := by rfl) : DA X c (pa && pb) (e :: es) (wCons we wa) :=
  ⟨(pa_cons he.pe ha.pa hs).imp fun σ H Q ⟨ρ, F, O, Kk, S, w, k⟩ => ⟨ρ, F, O, _, S, w, fun x ρ1 v F1 H1 hk S1 fs1 ko1 g1 r1 => ⟨ρ1, F1, O, _, S1, hk, fun xs ρ2 vs F2 H2 hk2 S2 fs2 ko2 g2 r2 =>
    k _ ρ2 _ F2 H2 hk2 S2 (fs1.trans fs2) (fun q hq => by rw [ko2 q hq, ko1 q hq]) (fun e => by
      rw [Bool.and_eq_true] at e
      obtain ⟨e1, q1⟩ := g1 e.1
      obtain ⟨e2, q2⟩ := g2 e.2
      exact ⟨e2.trans e1, q1.trans q2⟩) (.cons (Rep.same fs2 r1) r2)⟩⟩⟩
def wTup {R : Rgn} (wa : WA R) : WE R := fun ρ K => wa ρ fun ds ρ1 => ds.length ≤ 100000 ∧ K (.tup ds) ρ1
def wLst {R : Rgn} (wa : WA R) : WE R := fun ρ K => wa ρ fun ds ρ1 => ds.length ≤ 100000 ∧ K (.lst ds) ρ1
theorem ko_upd {F H : Hp} {O : List Addr} {σ : L2.St} {ρ : DS c.R} {q : Addr} {o : HO} (S : St c F O σ ρ H) (h : H q = none) : ∀ x ∈ O, upd H q o x = H x := fun x hx => by
  rw [upd_ne]
  intro z
  subst z
  exact (S.out x hx).2.2 h
theorem de_tup {ctx} (ha : DA X c pa es wa) (hk : X.K = c.K := by rfl) : DE X c pa false (.Tuple es ctx pos) (wTup wa) :=
  ⟨(pe_tup ha.pa).imp fun σ H Q ⟨ρ, F, O, Kk, S, w, k⟩ => ⟨ρ, F, O, _, S, w, fun ds ρ1 vs F1 H1 ⟨hz, hk⟩ S1 fs1 ko1 g1 r1 => ⟨by rw [r1.length]; exact Nat.le_trans hz big_line, fun q hq => by
    have al : Al F1 H1 (upd F1 q (.tup vs)) (upd H1 q (.tup vs)) := Al.one hq
    have gr := al.grow S1.sub
    exact k _ ρ1 _ _ _ hk (S1.grow gr) (fs1.trans gr.fs) (fun x hx => by rw [ko_upd S1 hq x hx]; exact ko1 x hx) (fun e => ⟨(g1 e).1, (g1 e).2.trans gr⟩) (.tup upd_same (r1.same gr.fs))⟩⟩, hk⟩
theorem fe_lst (ha : DA X c pa es wa) (hk : X.K = c.K := by rfl) : FE X c pa (.List es pos) (wLst wa) :=
  ⟨(pe_lst ha.pa).imp fun σ H Q ⟨ρ, F, O, Kk, S, w, k⟩ => ⟨ρ, F, O, _, S, w, fun ds ρ1 vs F1 H1 ⟨hz, hk⟩ S1 fs1 ko1 g1 r1 => ⟨by rw [r1.length]; exact Nat.le_trans hz big_line, fun q hq =>
    k _ ρ1 q (.lst vs) F1 H1 hk S1 fs1 ko1 g1 hq r1⟩⟩, hk⟩
/-! ### built-ins of one argument -/
theorem c1_ok {r : List V → Hp → VK → Prop} {g : D → Option D} (hr : R1D c.K r g) {σ : L2.St} {H : Hp} {Q : VK} (h : liftE c pa false (wUn g we) σ H Q) :
    tCB r (tCons (liftE c pa ba we) tNil) σ H Q := by
  obtain ⟨ρ, F, O, Kk, S, w, k⟩ := h
  refine ⟨ρ, F, O, _, S, w, fun x ρ1 v F1 H1 ⟨z, hz, hk⟩ S1 fs1 ko1 g1 r1 => ?_⟩
  exact hr S1.sub (r1.bv S1) hz fun v' F' H' al rp => k z ρ1 v' F' H' hk (S1.grow (al.grow S1.sub)) (fs1.trans (al.fs S1.sub)) (fun q hq => by rw [ko_al S1 al q hq]; exact ko1 q hq)
    (fun e => ⟨(g1 e).1, (g1 e).2.trans (al.grow S1.sub)⟩) rp
theorem de_c1 {x : Str} {id : String} {r : List V → Hp → VK → Prop} {g : D → Option D} (hc : CallR X (.builtin id) r) (hr : R1D c.K r g) (hm : X.mg x = none) (ha : DE X c pa ba e we) (hg : Gl X x := by rfl) (hv : bootBuiltins x = some (.builtin id) := by decide +kernel)
    (hn : x ≠ "__name__" := by decide) (hdb : (x == ("__debug__" : Str)) = false := by decide)
    (he : starEach [e] X.env = (false, eval e X.env) :: starEach [] X.env := by rfl) (hpl : (backTo pos (starEach [] X.env)).any (·.1) = false := by rfl) : DE X c pa false (.Call (.Name x p) [e] [] pos) (wUn g we) :=
  ⟨(pe_callB hc hg hm hv (pa_cons ha.pe pa_nil he) hn hdb he hpl).imp fun σ H Q h => c1_ok hr h, ha.kk⟩
theorem de_t1 {x : Str} {id : String} {r : List V → Hp → VK → Prop} {g : D → Option D} (hc : CallR X (.type id) r) (hr : R1D c.K r g) (hm : X.mg x = none) (ha : DE X c pa ba e we) (hg : Gl X x := by rfl) (hv : bootBuiltins x = some (.type id) := by decide +kernel)
    (hn : x ≠ "__name__" := by decide) (hdb : (x == ("__debug__" : Str)) = false := by decide)
    (he : starEach [e] X.env = (false, eval e X.env) :: starEach [] X.env := by rfl) (hpl : (backTo pos (starEach [] X.env)).any (·.1) = false := by rfl) : DE X c pa false (.Call (.Name x p) [e] [] pos) (wUn g we) :=
  ⟨(pe_callTy hc hg hm hv (pa_cons ha.pe pa_nil he) hn hdb he hpl).imp fun σ H Q h => c1_ok hr h, ha.kk⟩
/-- .. that hand back a fresh list or dict -/
def R1F (K : PySem.W.Frag) (r : List V → Hp → VK → Prop) (g : D → Option D) : Prop := ∀ {F H : Hp} {v : V} {x z : D} {Q : VK}, Same F H → BV K F H v x → g x = some z →
  (∀ q o, H q = none → ObjD K F q o z → Q (.ref q) (upd H q o)) → r [v] H Q
theorem f1_ok {r : List V → Hp → VK → Prop} {g : D → Option D} (hr : R1F c.K r g) {σ : L2.St} {H : Hp} {Q : VK} (h : liftF c pa (wUn g we) σ H Q) :
    tCB r (tCons (liftE c pa ba we) tNil) σ H Q := by
  obtain ⟨ρ, F, O, Kk, S, w, k⟩ := h
  refine ⟨ρ, F, O, _, S, w, fun x ρ1 v F1 H1 ⟨z, hz, hk⟩ S1 fs1 ko1 g1 r1 => ?_⟩
  exact hr S1.sub (r1.bv S1) hz fun q o hq ob => k z ρ1 q o F1 H1 hk S1 fs1 ko1 g1 hq ob
theorem fe_t1 {x : Str} {id : String} {r : List V → Hp → VK → Prop} {g : D → Option D} (hc : CallR X (.type id) r) (hr : R1F c.K r g) (hm : X.mg x = none) (ha : DE X c pa ba e we) (hg : Gl X x := by rfl) (hv : bootBuiltins x = some (.type id) := by decide +kernel)
    (hn : x ≠ "__name__" := by decide) (hdb : (x == ("__debug__" : Str)) = false := by decide)
    (he : starEach [e] X.env = (false, eval e X.env) :: starEach [] X.env := by rfl) (hpl : (backTo pos (starEach [] X.env)).any (·.1) = false := by rfl) : FE X c pa (.Call (.Name x p) [e] [] pos) (wUn g we) :=
  ⟨(pe_callTy hc hg hm hv (pa_cons ha.pe pa_nil he) hn hdb he hpl).imp fun σ H Q h => f1_ok hr h, ha.kk⟩
theorem fe_c1 {x : Str} {id : String} {r : List V → Hp → VK → Prop} {g : D → Option D} (hc : CallR X (.builtin id) r) (hr : R1F c.K r g) (hm : X.mg x = none) (ha : DE X c pa ba e we) (hg : Gl X x := by rfl) (hv : bootBuiltins x = some (.builtin id) := by decide +kernel)
    (hn : x ≠ "__name__" := by decide) (hdb : (x == ("__debug__" : Str)) = false := by decide)
    (he : starEach [e] X.env = (false, eval e X.env) :: starEach [] X.env := by rfl) (hpl : (backTo pos (starEach [] X.env)).any (·.1) = false := by rfl) : FE X c pa (.Call (.Name x p) [e] [] pos) (wUn g we) :=
  ⟨(pe_callB hc hg hm hv (pa_cons ha.pe pa_nil he) hn hdb he hpl).imp fun σ H Q h => f1_ok hr h, ha.kk⟩
end
/-! ### promises of defs -/
/-- a def of the text, called by its name -/
structure Cal (P : Program) (w : World) (K : PySem.W.Frag) (mg : Str → Option Value) (base : Heap) (x : Str) (k : Nat) (ps : List Str) (sp : Sp) : Prop where
  ex : ∃ (f : Addr) (fd : FuncData), mg x = some (.ref f) ∧ PySem.W.keepIn K (.ref f) = true ∧ FnOk P w K mg base CX0 k f fd ps sp ∧ Binds K fd ps []
abbrev FnP (K : PySem.W.Frag) (x q : Str) (st : Stmt) (f : Addr) (fd : FuncData) : Prop := FunD K x q (defArgs st) (defBody st) (defScope st) [] [] f fd
abbrev WM := List D → (D → Prop) → Prop
abbrev WMR (R : Rgn) := List D → R.G → (D → R.G → Prop) → Prop
/-- it takes data, hands back data, changes nothing -/
def spD (K : PySem.W.Frag) (m : WM) : Sp := fun vs H Q _ => ∃ (ds : List D) (F : Hp) (Kk : D → Prop), SubT F H ∧ Reps K F vs ds ∧ m ds Kk ∧ ∀ d v F' H', Kk d → Grow F H F' H' → Rep K F' v d → Q v H'
/-- .. a fresh list or dict -/
def spF (K : PySem.W.Frag) (m : WM) : Sp := fun vs H Q _ => ∃ (ds : List D) (F : Hp) (Kk : D → Prop), SubT F H ∧ Reps K F vs ds ∧ m ds Kk ∧ ∀ d q o F' H', Kk d → Grow F H F' H' → H' q = none → ObjD K F' q o d → Q (.ref q) (upd H' q o)
structure GrowR (R : Rgn) (g : R.G) (F H : Hp) (Z : Addr → Prop) (g' : R.G) (F' H' : Hp) (Z' : Addr → Prop) : Prop where
  fs : Same F F'
  sub : Same F' H'
  old : ∀ b, F' b ≠ none → F b ≠ none ∨ H b = none
  keep : ∀ b o, H b = some o → ¬ Z b → H' b = some o
  live : ∀ b, H b ≠ none → H' b ≠ none
  ok : R.ok g' Z' H'
  zf : ∀ b, Z' b → F' b = none
  zi : ∀ b, Z' b → Z b ∨ H b = none
  tn : Tin F H → Tin F' H'
/-- .. and uses a region -/
def spR (R : Rgn) (K : PySem.W.Frag) (m : WMR R) : Sp := fun vs H Q _ => ∃ (ds : List D) (F : Hp) (Z : Addr → Prop) (g : R.G) (Kk : D → R.G → Prop), SubT F H ∧ Reps K F vs ds ∧ R.ok g Z H ∧ (∀ b, Z b → F b = none) ∧ m ds g Kk ∧
  ∀ d g' v F' Z' H', Kk d g' → GrowR R g F H Z g' F' H' Z' → Rep K F' v d → Q v H'
def spRF (R : Rgn) (K : PySem.W.Frag) (m : WMR R) : Sp := fun vs H Q _ => ∃ (ds : List D) (F : Hp) (Z : Addr → Prop) (g : R.G) (Kk : D → R.G → Prop), SubT F H ∧ Reps K F vs ds ∧ R.ok g Z H ∧ (∀ b, Z b → F b = none) ∧ m ds g Kk ∧
  ∀ d g' q o F' Z' H', Kk d g' → GrowR R g F H Z g' F' H' Z' → H' q = none → ObjD K F' q o d → Q (.ref q) (upd H' q o)
section
variable {X : Cx} {c : Ctx} {x : Str} {k j : Nat} {ps : List Str} {p pos : Pos} {e : Expr} {es : List Expr} {pa : Bool} {wa : WA c.R}
theorem pe_cal {sp : Sp} {t : TA} (C : Cal X.prog X.w X.K X.mg X.base x k ps sp) (hr : Room j X.A) (ha : PA X (e :: es) t) (hj : k ≤ j := by decide) (hg : Gl X x := by rfl) (hdb : (x == ("__debug__" : Str)) = false := by decide)
    (he : starEach (e :: es) X.env = (false, eval e X.env) :: starEach es X.env := by rfl) (hpl : (backTo pos (starEach es X.env)).any (·.1) = false := by rfl) : PE X (.Call (.Name x p) (e :: es) [] pos) (tCall sp [] E0 t) := by
  obtain ⟨f, fd, hm, hk, F, hb⟩ := C.ex
  exact pe_call F (hr.mono hj) hg hm hk hb .nil pass0 ha hdb he hpl
def wCall {R : Rgn} (m : WM) (wa : WA R) : WE R := fun ρ K => wa ρ fun ds ρ1 => m ds fun d => K d ρ1
def wCallR {R : Rgn} (m : WMR R) (wa : WA R) : WE R := fun ρ K => wa ρ fun ds ρ1 => m ds ρ1.g fun d g => K d ⟨g, ρ1.sl⟩
theorem app_nil (vs : List V) : vs ++ [] = vs := List.append_nil vs
theorem de_call {m : WM} (C : Cal X.prog X.w X.K X.mg X.base x k ps (spD c.K m)) (hr : Room j X.A) (ha : DA X c pa (e :: es) wa) (hj : k ≤ j := by decide) (hk : X.K = c.K := by rfl) (hg : Gl X x := by rfl) (hdb : (x == ("__debug__" : Str)) = false := by decide)
    (he : starEach (e :: es) X.env = (false, eval e X.env) :: starEach es X.env := by rfl) (hpl : (backTo pos (starEach es X.env)).any (·.1) = false := by rfl) : DE X c pa false (.Call (.Name x p) (e :: es) [] pos) (wCall m wa) :=
  ⟨(pe_cal C hr ha.pa hj hg hdb he hpl).imp fun σ H Q ⟨ρ, F, O, Kk, S, w, k⟩ => ⟨ρ, F, O, _, S, w, fun ds ρ1 vs F1 H1 hk S1 fs1 ko1 g1 r1 => ⟨ds, F1, _, S1.sbt, by rw [app_nil]; exact r1, hk, fun d v F' H' hd gr rp =>
    k d ρ1 v F' H' hd (S1.grow gr) (fs1.trans gr.fs) (fun q hq => by rw [gr.at (S1.out q hq).2.2]; exact ko1 q hq) (fun e => ⟨(g1 e).1, (g1 e).2.trans gr⟩) rp⟩⟩, hk⟩
theorem fe_call {m : WM} (C : Cal X.prog X.w X.K X.mg X.base x k ps (spF c.K m)) (hr : Room j X.A) (ha : DA X c pa (e :: es) wa) (hj : k ≤ j := by decide) (hk : X.K = c.K := by rfl) (hg : Gl X x := by rfl) (hdb : (x == ("__debug__" : Str)) = false := by decide)
    (he : starEach (e :: es) X.env = (false, eval e X.env) :: starEach es X.env := by rfl) (hpl : (backTo pos (starEach es X.env)).any (·.1) = false := by rfl) : FE X c pa (.Call (.Name x p) (e :: es) [] pos) (wCall m wa) :=
  ⟨(pe_cal C hr ha.pa hj hg hdb he hpl).imp fun σ H Q ⟨ρ, F, O, Kk, S, w, k⟩ => ⟨ρ, F, O, _, S, w, fun ds ρ1 vs F1 H1 hk S1 fs1 ko1 g1 r1 => ⟨ds, F1, _, S1.sbt, by rw [app_nil]; exact r1, hk, fun d q o F' H' hd gr hq ob =>
    k d ρ1 q o F' H' hd (S1.grow gr) (fs1.trans gr.fs) (fun q hq => by rw [gr.at (S1.out q hq).2.2]; exact ko1 q hq) (fun e => ⟨(g1 e).1, (g1 e).2.trans gr⟩) hq ob⟩⟩, hk⟩
theorem St.growR {F H F' H' : Hp} {O : List Addr} {σ : L2.St} {ρ : DS c.R} {Z Z' : Addr → Prop} {g' : c.R.G} (S : St c F O σ ρ H) (hz2 : ∀ b, Z b → ¬ c.Z0 b → c.H0 b = none) (hzO : ∀ a ∈ O, ¬ Z a) (hzo : ∀ i a, Owns σ ρ.sl i a → ¬ Z a)
    (g : GrowR c.R ρ.g F H Z g' F' H' Z') : St c F' O σ ⟨g', ρ.sl⟩ H' where
  len := S.len
  sub := g.sub
  tin := g.tn S.tin
  old := S.old.trans g.fs
  new := fun b n e => by
    rcases g.old b n with q | q
    · exact S.new b q e
    · cases h : c.H0 b with
      | none => rfl
      | some o => exact absurd q (S.live b (by rw [h]; exact fun z => by cases z))
  keep := fun b o e n => g.keep _ _ (S.keep b o e n) fun z => by
    have := hz2 b z n
    rw [e] at this
    cases this
  live := fun b n => g.live b (S.live b n)
  slots := fun i => by
    show SlotOk c.K F' H' σ i ρ.sl[i]?
    have h := S.slots i
    cases e : ρ.sl[i]? with
    | none => trivial
    | some x =>
      rw [e] at h
      cases x with
      | none => trivial
      | some x =>
        cases x with
        | fz d =>
          obtain ⟨v, h1, h2⟩ := h
          exact ⟨v, h1, h2.same g.fs⟩
        | own d =>
          obtain ⟨a, h1, h2⟩ := h
          refine ⟨a, h1, h2.same g.fs ?_⟩
          cases q : H a with
          | none => exact absurd q h2.there
          | some o => exact g.keep _ _ q (hzo i a ⟨h1, d, e⟩)
  mine := fun i a h => by
    obtain ⟨m1, m2, m3⟩ := S.mine i a h
    refine ⟨?_, m2, m3⟩
    obtain ⟨d, _, q⟩ := h.there (S.slots i)
    cases e : F' a with
    | none => rfl
    | some o =>
      rcases g.old a (by rw [e]; exact fun z => by cases z) with z | z
      · exact absurd m1 z
      · exact absurd z q.there
  inj := S.inj
  out := fun a h => by
    obtain ⟨m1, m2, m3⟩ := S.out a h
    refine ⟨?_, m2, g.live a m3⟩
    cases e : F' a with
    | none => rfl
    | some o =>
      rcases g.old a (by rw [e]; exact fun z => by cases z) with z | z
      · exact absurd m1 z
      · exact absurd z m3
  reg := by
    refine ⟨Z', g.ok, g.zf, fun b h n => ?_, fun a h z => ?_, fun i a h z => ?_⟩
    · rcases g.zi b h with q | q
      · exact hz2 b q n
      · cases e : c.H0 b with
        | none => rfl
        | some o => exact absurd q (S.live b (by rw [e]; exact fun z => by cases z))
    · rcases g.zi a z with q | q
      · exact hzO a h q
      · exact absurd q (S.out a h).2.2
    · rcases g.zi a z with q | q
      · exact hzo i a h q
      · obtain ⟨d, _, ow⟩ := h.there (S.slots i)
        exact absurd q ow.there
theorem ko_R {F H F' H' : Hp} {O : List Addr} {σ : L2.St} {ρ : DS c.R} {Z Z' : Addr → Prop} {g' : c.R.G} (S : St c F O σ ρ H) (hzO : ∀ a ∈ O, ¬ Z a) (g : GrowR c.R ρ.g F H Z g' F' H' Z') : ∀ a ∈ O, H' a = H a := fun a h => by
  cases q : H a with
  | none => exact absurd q (S.out a h).2.2
  | some o => exact g.keep _ _ q (hzO a h)
theorem de_callR {m : WMR c.R} (C : Cal X.prog X.w X.K X.mg X.base x k ps (spR c.R c.K m)) (hr : Room j X.A) (ha : DA X c pa (e :: es) wa) (hj : k ≤ j := by decide) (hk : X.K = c.K := by rfl) (hg : Gl X x := by rfl) (hdb : (x == ("__debug__" : Str)) = false := by decide)
    (he : starEach (e :: es) X.env = (false, eval e X.env) :: starEach es X.env := by rfl) (hpl : (backTo pos (starEach es X.env)).any (·.1) = false := by rfl) : DE X c false false (.Call (.Name x p) (e :: es) [] pos) (wCallR m wa) :=
  ⟨(pe_cal C hr ha.pa hj hg hdb he hpl).imp fun σ H Q ⟨ρ, F, O, Kk, S, w, k⟩ => ⟨ρ, F, O, _, S, w, fun ds ρ1 vs F1 H1 hk S1 fs1 ko1 g1 r1 => by
    obtain ⟨Z, r, z1, z2, z3, z4⟩ := S1.reg
    exact ⟨ds, F1, Z, ρ1.g, _, S1.sbt, by rw [app_nil]; exact r1, r, z1, hk, fun d g' v F' Z' H' hd gr rp =>
      k d ⟨g', ρ1.sl⟩ v F' H' hd (S1.growR z2 z3 z4 gr) (fs1.trans gr.fs) (fun q hq => by rw [ko_R S1 z3 gr q hq]; exact ko1 q hq) (fun z => by cases z) rp⟩⟩, hk⟩
theorem fe_callR {m : WMR c.R} (C : Cal X.prog X.w X.K X.mg X.base x k ps (spRF c.R c.K m)) (hr : Room j X.A) (ha : DA X c pa (e :: es) wa) (hj : k ≤ j := by decide) (hk : X.K = c.K := by rfl) (hg : Gl X x := by rfl) (hdb : (x == ("__debug__" : Str)) = false := by decide)
    (he : starEach (e :: es) X.env = (false, eval e X.env) :: starEach es X.env := by rfl) (hpl : (backTo pos (starEach es X.env)).any (·.1) = false := by rfl) : FE X c false (.Call (.Name x p) (e :: es) [] pos) (wCallR m wa) :=
  ⟨(pe_cal C hr ha.pa hj hg hdb he hpl).imp fun σ H Q ⟨ρ, F, O, Kk, S, w, k⟩ => ⟨ρ, F, O, _, S, w, fun ds ρ1 vs F1 H1 hk S1 fs1 ko1 g1 r1 => by
    obtain ⟨Z, r, z1, z2, z3, z4⟩ := S1.reg
    exact ⟨ds, F1, Z, ρ1.g, _, S1.sbt, by rw [app_nil]; exact r1, r, z1, hk, fun d g' q o F' Z' H' hd gr hq ob =>
      k d ⟨g', ρ1.sl⟩ q o F' H' hd (S1.growR z2 z3 z4 gr) (fs1.trans gr.fs) (fun q hq => by rw [ko_R S1 z3 gr q hq]; exact ko1 q hq) (fun z => by cases z) hq ob⟩⟩, hk⟩
end
end Q

set_option Elab.async false
set_option linter.all false
set_option maxRecDepth 100000
set_option maxHeartbeats 4000000
namespace Q
open PySem PySem.Spec PyProof.Rows L2
/-! ### statements over data -/
/-- what is so of the heap at a body's end -/
structure Fin (c : Ctx) (F H : Hp) (g : c.R.G) : Prop where
  sub : Same F H
  tin : Tin F H
  old : Same c.F0 F
  new : ∀ b, F b ≠ none → c.F0 b = none → c.H0 b = none
  keep : ∀ b o, c.H0 b = some o → ¬ c.Z0 b → H b = some o
  live : ∀ b, c.H0 b ≠ none → H b ≠ none
  reg : ∃ Z, c.R.ok g Z H ∧ (∀ b, Z b → F b = none) ∧ (∀ b, Z b → ¬ c.Z0 b → c.H0 b = none)
theorem St.fin {c : Ctx} {F H : Hp} {O : List Addr} {σ : L2.St} {ρ : DS c.R} (S : St c F O σ ρ H) : Fin c F H ρ.g :=
  ⟨S.sub, S.tin, S.old, S.new, S.keep, S.live, let ⟨Z, r, z1, z2, _⟩ := S.reg; ⟨Z, r, z1, z2⟩⟩
structure DEnds (R : Rgn) where
  nx : DS R → Prop
  rt : D → R.G → Prop
  bk : DS R → Prop := fun _ => False
  ct : DS R → Prop := fun _ => False
abbrev WS (R : Rgn) := DEnds R → DS R → Prop
/-- what is handed back: data; a fresh object -/
def RtOk (c : Ctx) (rt : VK) (d : D) (g : c.R.G) : Bool → Prop
  | false => ∀ v F' H', Fin c F' H' g → Rep c.K F' v d → rt v H'
  | true => ∀ q o F' H', Fin c F' H' g → H' q = none → ObjD c.K F' q o d → rt (.ref q) (upd H' q o)
def liftS (c : Ctx) (fr : Bool) (w : WS c.R) : TS := fun E σ H => ∃ (ρ : DS c.R) (F : Hp) (Dk : DEnds c.R), St c F [] σ ρ H ∧ w Dk ρ ∧
  (∀ ρ' σ' F' H', Dk.nx ρ' → St c F' [] σ' ρ' H' → Same F F' → E.nx σ' H') ∧ (∀ ρ' σ' F' H', Dk.bk ρ' → St c F' [] σ' ρ' H' → Same F F' → E.bk σ' H') ∧ (∀ ρ' σ' F' H', Dk.ct ρ' → St c F' [] σ' ρ' H' → Same F F' → E.ct σ' H') ∧
  (∀ d g, Dk.rt d g → RtOk c E.rt d g fr)
structure DS1 (X : Cx) (c : Ctx) (fr : Bool) (st : Stmt) (w : WS c.R) : Prop where
  ps : PS X st (liftS c fr w)
structure DSs (X : Cx) (c : Ctx) (fr : Bool) (st : List Stmt) (w : WS c.R) : Prop where
  ps : PSs X st (liftS c fr w)
section
variable {X : Cx} {c : Ctx} {fr : Bool} {st : Stmt} {rest : List Stmt} {e : Expr} {es : List Expr} {pos p : Pos} {pa pb ba bb : Bool} {we : WE c.R} {wa : WA c.R} {wt : WB c.R} {w w1 w2 : WS c.R}
def sNext {R : Rgn} : WS R := fun D ρ => D.nx ρ
def sSeq {R : Rgn} (w1 w2 : WS R) : WS R := fun D ρ => w1 { D with nx := fun ρ' => w2 D ρ' } ρ
/-- cut off by what is so behind the first one -/
def sCut {R : Rgn} (w1 w2 : WS R) : WS R := fun D ρ => ∃ I : DS R → Prop, w1 { D with nx := I } ρ ∧ ∀ ρ', I ρ' → w2 D ρ'
theorem ds_nil : DSs X c fr [] sNext := ⟨pss_nil.imp fun E σ H ⟨ρ, F, Dk, S, w, k1, k2, k3, k4⟩ => k1 ρ σ F H w S (Same.refl _)⟩
theorem seq_ok {E : Ends} {σ : L2.St} {H : Hp} (h : liftS c fr (sCut w1 w2) E σ H) : tSeq (liftS c fr w1) (liftS c fr w2) E σ H := by
  obtain ⟨ρ, F, Dk, S, ⟨I, w, w'⟩, k1, k2, k3, k4⟩ := h
  exact ⟨ρ, F, { Dk with nx := I }, S, w, fun ρ' σ' F' H' h S' fs => ⟨ρ', F', Dk, S', w' ρ' h, fun ρ2 σ2 F2 H2 h2 S2 fs2 => k1 ρ2 σ2 F2 H2 h2 S2 (fs.trans fs2), fun ρ2 σ2 F2 H2 h2 S2 fs2 => k2 ρ2 σ2 F2 H2 h2 S2 (fs.trans fs2),
    fun ρ2 σ2 F2 H2 h2 S2 fs2 => k3 ρ2 σ2 F2 H2 h2 S2 (fs.trans fs2), k4⟩, k2, k3, k4⟩
theorem ds_cut (h1 : DS1 X c fr st w1) (h2 : DSs X c fr rest w2) : DSs X c fr (st :: rest) (sCut w1 w2) := ⟨(pss_cons h1.ps h2.ps).imp fun E σ H h => seq_ok h⟩
theorem ds_cons (h1 : DS1 X c fr st w1) (h2 : DSs X c fr rest w2) : DSs X c fr (st :: rest) (sSeq w1 w2) :=
  ⟨(pss_cons h1.ps h2.ps).imp fun E σ H ⟨ρ, F, Dk, S, w, k⟩ => seq_ok ⟨ρ, F, Dk, S, ⟨_, w, fun _ h => h⟩, k⟩⟩
theorem ds_one (h1 : DS1 X c fr st w1) : DSs X c fr [st] w1 := ⟨pss_one h1.ps⟩
def sPass {R : Rgn} : WS R := fun D ρ => D.nx ρ
def sBreak {R : Rgn} : WS R := fun D ρ => D.bk ρ
def sCont {R : Rgn} : WS R := fun D ρ => D.ct ρ
theorem ds_pass : DS1 X c fr (.Pass pos) sPass := ⟨ps_pass.imp fun E σ H ⟨ρ, F, Dk, S, w, k1, k2, k3, k4⟩ => k1 ρ σ F H w S (Same.refl _)⟩
theorem ds_break : DS1 X c fr (.Break pos) sBreak := ⟨ps_break.imp fun E σ H ⟨ρ, F, Dk, S, w, k1, k2, k3, k4⟩ => k2 ρ σ F H w S (Same.refl _)⟩
theorem ds_continue : DS1 X c fr (.Continue pos) sCont := ⟨ps_continue.imp fun E σ H ⟨ρ, F, Dk, S, w, k1, k2, k3, k4⟩ => k3 ρ σ F H w S (Same.refl _)⟩
theorem ds_doc {x : Str} {j} {pos' : Pos} : DS1 X c fr (.Expr (.Constant (.str x) j pos') pos) sPass := ⟨(ps_expr pe_str).imp fun E σ H ⟨ρ, F, Dk, S, w, k1, k2, k3, k4⟩ => k1 ρ σ F H w S (Same.refl _)⟩
def sRet {R : Rgn} (we : WE R) : WS R := fun D ρ => we ρ fun d ρ1 => D.rt d ρ1.g
theorem ds_ret (he : DE X c pa false e we) : DS1 X c false (.Return (some e) pos) (sRet we) :=
  ⟨(ps_ret he.pe).imp fun E σ H ⟨ρ, F, Dk, S, w, k1, k2, k3, k4⟩ => ⟨ρ, F, [], _, S, w, fun d ρ1 v F1 H1 hk S1 fs1 ko1 g1 r1 => k4 d ρ1.g hk v F1 H1 S1.fin r1⟩⟩
theorem ds_retF (he : FE X c pa e we) : DS1 X c true (.Return (some e) pos) (sRet we) :=
  ⟨(ps_ret he.pe).imp fun E σ H ⟨ρ, F, Dk, S, w, k1, k2, k3, k4⟩ => ⟨ρ, F, [], _, S, w, fun d ρ1 q o F1 H1 hk S1 fs1 ko1 g1 hq ob => k4 d ρ1.g hk q o F1 H1 S1.fin hq ob⟩⟩
theorem ds_retN : DS1 X c false (.Return none pos) (fun D ρ => D.rt .non ρ.g) :=
  ⟨ps_retN.imp fun E σ H ⟨ρ, F, Dk, S, w, k1, k2, k3, k4⟩ => k4 .non ρ.g w .non F H S.fin .non⟩
theorem OwnAt.obj {K : PySem.W.Frag} {F H : Hp} {a : Addr} : ∀ {d : D}, OwnAt K F H a d → ∃ o, H a = some o ∧ ObjD K F a o d
  | .lst _, ⟨vs, h, r⟩ => ⟨_, h, r⟩
  | .dct _ _, ⟨vs, h, n, r⟩ => ⟨_, h, n, r⟩
  | .dtt _ _, ⟨vs, h, n, r⟩ => ⟨_, h, n, r⟩
  | .dmx _ _ _, ⟨vs, h, n, r⟩ => ⟨_, h, vs, rfl, n, r⟩
theorem ObjD.own {K : PySem.W.Frag} {F H : Hp} {a : Addr} {o : HO} {d : D} (h : H a = some o) (r : ObjD K F a o d) : OwnAt K F H a d := by
  cases o <;> cases d <;> simp only [ObjD] at r
  · exact ⟨_, h, r⟩
  · exact ⟨_, h, r⟩
  · exact ⟨_, h, r⟩
  · obtain ⟨kvs, e, r⟩ := r
    exact ⟨kvs, by rw [h, e], r⟩
/-- an object of the def's own is handed back as a fresh one -/
def sRetO {R : Rgn} (i : Nat) : WS R := fun D ρ => ∃ d, ρ.sl[i]? = some (some (.own d)) ∧ D.rt d ρ.g
theorem ds_retO {i : Nat} {x : Str} {pos' : Pos} (hN : X.N[i]? = some x := by rfl) (hv : Vis X.env.scope x := by first | exact .inl rfl | exact .inr (.inl rfl) | exact .inr (.inr rfl))
    (hd : (x == ("__debug__" : Str)) = false := by decide) (hcd : (x == ("__classdict__" : Str)) = false := by decide) : DS1 X c true (.Return (some (.Name x pos')) pos) (sRetO i) :=
  ⟨(ps_ret (pe_var hN hv hd hcd)).imp fun E σ H ⟨ρ, F, Dk, S, ⟨d, hd, w⟩, k1, k2, k3, k4⟩ => by
    have h := S.slots i
    rw [hd] at h
    obtain ⟨a, h1, ow⟩ := h
    obtain ⟨m1, m2, _⟩ := S.mine i a ⟨h1, d, hd⟩
    obtain ⟨o, ho, ob⟩ := ow.obj
    refine ⟨.ref a, h1, ?_⟩
    have e : upd (fun b => if b = a then none else H b) a o = H := by
      funext b
      unfold upd
      by_cases z : b = a
      · subst z; rw [if_pos rfl, ho]
      · rw [if_neg z]; show (if b = a then none else H b) = H b; rw [if_neg z]
    have nk : ∀ b u, (F b = some u ∨ c.H0 b = some u) → b ≠ a := fun b u h z => by
      subst z
      rcases h with h | h
      · rw [m1] at h; cases h
      · rw [m2] at h; cases h
    obtain ⟨Z, r, z1, z2, z3, z4⟩ := S.reg
    have fin : Fin c F (fun b => if b = a then none else H b) ρ.g := by
      refine ⟨fun b u q => ?_, (fun b xs q => by
        by_cases z : b = a
        · rw [if_pos z] at q; cases q
        · rw [if_neg z] at q; exact S.tin _ _ q), S.old, S.new, fun b u q n => ?_, fun b n => ?_, Z, c.R.fr r fun b hb => ?_, z1, z2⟩
      · show (if b = a then none else H b) = some u
        rw [if_neg (nk b u (.inl q))]; exact S.sub _ _ q
      · show (if b = a then none else H b) = some u
        rw [if_neg (nk b u (.inr q))]; exact S.keep b u q n
      · show (if b = a then none else H b) ≠ none
        cases q : c.H0 b with
        | none => exact absurd q n
        | some u => rw [if_neg (nk b u (.inr q))]; exact S.live b n
      · show (if b = a then none else H b) = H b
        rw [if_neg]
        intro z
        subst z
        exact z4 i b ⟨h1, d, hd⟩ hb
    have := k4 d ρ.g w a o F (fun b => if b = a then none else H b) fin (by rw [if_pos rfl]) ob
    rw [e] at this
    exact this⟩
def sDrop {R : Rgn} (we : WE R) : WS R := fun D ρ => we ρ fun _ ρ1 => D.nx ρ1
theorem ds_expr (he : DE X c pa ba e we) (hs : swapsWith e none pos.line X.env = pure false := by rfl) : DS1 X c fr (.Expr e pos) (sDrop we) :=
  ⟨(ps_expr he.pe hs).imp fun E σ H ⟨ρ, F, Dk, S, w, k1, k2, k3, k4⟩ => ⟨ρ, F, [], _, S, w, fun d ρ1 v F1 H1 hk S1 fs1 ko1 g1 r1 => k1 ρ1 σ F1 H1 hk S1 fs1⟩⟩
def sIf {R : Rgn} (wt : WB R) (w1 w2 : WS R) : WS R := fun D ρ => wt ρ fun b ρ1 => if b = true then w1 D ρ1 else w2 D ρ1
theorem ds_if {a b : List Stmt} (ht : DT X c pa e wt) (h1 : DSs X c fr a w1) (h2 : DSs X c fr b w2) : DS1 X c fr (.If e a b pos) (sIf wt w1 w2) :=
  ⟨(ps_if ht.pt h1.ps h2.ps).imp fun E σ H ⟨ρ, F, Dk, S, w, k1, k2, k3, k4⟩ => ⟨ρ, F, [], _, S, w, fun b ρ1 F1 H1 hk S1 fs1 ko1 g1 => by
    cases b with
    | true =>
      rw [if_pos rfl] at hk ⊢
      exact ⟨ρ1, F1, Dk, S1, hk, fun ρ2 σ2 F2 H2 h2 S2 fs2 => k1 ρ2 σ2 F2 H2 h2 S2 (fs1.trans fs2), fun ρ2 σ2 F2 H2 h2 S2 fs2 => k2 ρ2 σ2 F2 H2 h2 S2 (fs1.trans fs2), fun ρ2 σ2 F2 H2 h2 S2 fs2 => k3 ρ2 σ2 F2 H2 h2 S2 (fs1.trans fs2), k4⟩
    | false =>
      rw [if_neg (by decide)] at hk ⊢
      exact ⟨ρ1, F1, Dk, S1, hk, fun ρ2 σ2 F2 H2 h2 S2 fs2 => k1 ρ2 σ2 F2 H2 h2 S2 (fs1.trans fs2), fun ρ2 σ2 F2 H2 h2 S2 fs2 => k2 ρ2 σ2 F2 H2 h2 S2 (fs1.trans fs2), fun ρ2 σ2 F2 H2 h2 S2 fs2 => k3 ρ2 σ2 F2 H2 h2 S2 (fs1.trans fs2), k4⟩⟩⟩
/-- x = e -/
def sSet {R : Rgn} (i : Nat) (we : WE R) : WS R := fun D ρ => we ρ fun d ρ1 => D.nx (ρ1.put i (some (.fz d)))
theorem ds_set {i : Nat} {x : Str} {pos' : Pos} (hN : X.N.Nodup) (he : DE X c pa false e we) (hi : X.N[i]? = some x := by rfl) (hx : Loc X.env.scope x := by first | exact Or.inl rfl | exact Or.inr rfl) (hs : swapsWith e (some (.Name x pos')) pos.line X.env = pure false := by rfl)
    (hf : X.fn x = true ∨ X.env.scope.names.lookup x = some .local := by first | exact .inl rfl | exact .inr rfl | assumption) : DS1 X c fr (.Assign [.Name x pos'] e pos) (sSet i we) :=
  ⟨(ps_set hN hi hx he.pe hs hf).imp fun E σ H ⟨ρ, F, Dk, S, w, k1, k2, k3, k4⟩ => ⟨ρ, F, [], _, S, w, fun d ρ1 v F1 H1 hk S1 fs1 ko1 g1 r1 => k1 _ _ F1 H1 hk (S1.setF r1 i) fs1⟩⟩
/-- a slot is set to a fresh object -/
theorem St.setO {F H : Hp} {σ : L2.St} {ρ : DS c.R} (S : St c F [] σ ρ H) {q : Addr} {o : HO} {d : D} (hq : H q = none) (ob : ObjD c.K F q o d) (i : Nat) : St c F [] (σ.set i (some (.ref q))) (ρ.put i (some (.own d))) (upd H q o) := by
  have hF : F q = none := by
    cases e : F q with
    | none => rfl
    | some u => rw [S.sub _ _ e] at hq; cases hq
  have h0 : c.H0 q = none := by
    cases e : c.H0 q with
    | none => rfl
    | some u => exact absurd hq (S.live q (by rw [e]; exact fun z => by cases z))
  obtain ⟨Z, r, z1, z2, z3, z4⟩ := S.reg
  have hZ : ¬ Z q := fun z => c.R.al r q z hq
  have own : ∀ j a, Owns (σ.set i (some (.ref q))) (ρ.put i (some (.own d))).sl j a → (j = i ∧ a = q) ∨ (j ≠ i ∧ Owns σ ρ.sl j a ∧ a ≠ q) := fun j a h => by
    obtain ⟨h1, x, h2⟩ := h
    have h2 : (ρ.sl.set i (some (.own d)))[j]? = some (some (.own x)) := h2
    rw [set_get] at h1 h2
    by_cases e : i = j
    · rw [if_pos e] at h1
      split at h1
      · cases h1; exact .inl ⟨e.symm, rfl⟩
      · cases h1
    · rw [if_neg e] at h1 h2
      have ow : Owns σ ρ.sl j a := ⟨h1, x, h2⟩
      refine .inr ⟨fun z => e z.symm, ow, fun z => ?_⟩
      obtain ⟨y, _, oa⟩ := ow.there (S.slots j)
      rw [z] at oa
      exact oa.there hq
  refine ⟨by show (σ.set i _).length = (ρ.sl.set i _).length; rw [List.length_set, List.length_set]; exact S.len, fun b u e => ?_, S.tin.updH ob.noTup, S.old, S.new, fun b u e n => ?_, fun b n => ?_, fun j => ?_, fun j a h => ?_, fun j k a h h' => ?_, (fun a h => by cases h), ?_⟩
  · rw [upd_ne (fun z => by rw [z, hF] at e; cases e)]; exact S.sub _ _ e
  · rw [upd_ne (fun z => by rw [z, h0] at e; cases e)]; exact S.keep b u e n
  · rw [upd_ne (fun z => by rw [z] at n; exact n h0)]; exact S.live b n
  · show SlotOk c.K F (upd H q o) (σ.set i (some (.ref q))) j (ρ.sl.set i (some (.own d)))[j]?
    rw [set_get]
    by_cases e : i = j
    · subst e
      rw [if_pos rfl]
      by_cases z : i < ρ.sl.length
      · rw [if_pos z]
        exact ⟨q, by rw [set_get, if_pos rfl, if_pos (by rw [S.len]; exact z)], ObjD.own upd_same ob⟩
      · rw [if_neg z]; trivial
    · rw [if_neg e]
      have h := S.slots j
      have e2 : (σ.set i (some (V.ref q)))[j]? = σ[j]? := by rw [set_get, if_neg e]
      cases z : ρ.sl[j]? with
      | none => trivial
      | some x =>
        rw [z] at h
        cases x with
        | none => trivial
        | some x =>
          cases x with
          | fz d =>
            obtain ⟨v, h1, h2⟩ := h
            exact ⟨v, by rw [e2]; exact h1, h2⟩
          | own d =>
            obtain ⟨a, h1, h2⟩ := h
            refine ⟨a, by rw [e2]; exact h1, h2.same (Same.refl _) ?_⟩
            rw [upd_ne (fun y => by rw [y] at h2; exact h2.there hq)]
  · rcases own j a h with ⟨_, rfl⟩ | ⟨_, ow, _⟩
    · exact ⟨hF, h0, fun z => by cases z⟩
    · exact S.mine j a ow
  · rcases own j a h with ⟨rfl, rfl⟩ | ⟨n1, ow, na⟩
    · rcases own k a h' with ⟨rfl, _⟩ | ⟨_, _, na⟩
      · rfl
      · exact absurd rfl na
    · rcases own k a h' with ⟨_, rfl⟩ | ⟨_, ow', _⟩
      · exact absurd rfl na
      · exact S.inj j k a ow ow'
  · refine ⟨Z, c.R.fr r fun a h => by rw [upd_ne (fun y => hZ (by rw [← y]; exact h))], z1, z2, (fun a h => by cases h), fun j a h => ?_⟩
    rcases own j a h with ⟨_, rfl⟩ | ⟨_, ow, _⟩
    · exact hZ
    · exact z4 j a ow
def sNew {R : Rgn} (i : Nat) (we : WE R) : WS R := fun D ρ => we ρ fun d ρ1 => D.nx (ρ1.put i (some (.own d)))
theorem ds_new {i : Nat} {x : Str} {pos' : Pos} (hN : X.N.Nodup) (he : FE X c pa e we) (hi : X.N[i]? = some x := by rfl) (hx : Loc X.env.scope x := by first | exact Or.inl rfl | exact Or.inr rfl) (hs : swapsWith e (some (.Name x pos')) pos.line X.env = pure false := by rfl)
    (hf : X.fn x = true ∨ X.env.scope.names.lookup x = some .local := by first | exact .inl rfl | exact .inr rfl | assumption) : DS1 X c fr (.Assign [.Name x pos'] e pos) (sNew i we) :=
  ⟨(ps_set hN hi hx he.pe hs hf).imp fun E σ H ⟨ρ, F, Dk, S, w, k1, k2, k3, k4⟩ => ⟨ρ, F, [], _, S, w, fun d ρ1 q o F1 H1 hk S1 fs1 ko1 g1 hq ob => k1 _ _ F1 _ hk (S1.setO hq ob i) fs1⟩⟩
end
/-! ### a def's body -/
def startD (N : List Str) (ds : List D) : List (Option DV) := ds.map (fun d => some (.fz d)) ++ List.replicate (N.length - ds.length) none
theorem St.start {K : PySem.W.Frag} {R : Rgn} {F H : Hp} {Z : Addr → Prop} {N : List Str} {vs : List V} {ds : List D} {g : R.G} (sub : SubT F H) (r : Reps K F vs ds) (ok : R.ok g Z H) (zf : ∀ b, Z b → F b = none) :
    St ⟨K, R, H, F, Z⟩ F [] (L2.start N vs) ⟨g, startD N ds⟩ H := by
  have own : ∀ i a, ¬ Owns (L2.start N vs) (startD N ds) i a := fun i a h => by
    obtain ⟨_, d, h2⟩ := h
    unfold startD at h2
    rcases List.mem_append.mp (List.mem_of_getElem? h2) with m | m
    · obtain ⟨x, _, e⟩ := List.mem_map.mp m
      cases e
    · have := List.eq_of_mem_replicate m
      cases this
  refine ⟨?_, sub.s, sub.t, Same.refl _, fun b n e => absurd e n, fun b o e _ => e, fun b n => n, fun i => ?_, fun i a h => absurd h (own i a), fun i j a h => absurd h (own i a), (fun a h => by cases h), ⟨Z, ok, zf, fun b z n => absurd z n, (fun a h => by cases h), fun i a h => absurd h (own i a)⟩⟩
  · show (vs.map some ++ List.replicate (N.length - vs.length) none).length = (ds.map (fun d => some (DV.fz d)) ++ List.replicate (N.length - ds.length) none).length
    simp [r.length]
  · show SlotOk K F H (vs.map some ++ List.replicate (N.length - vs.length) none) i (ds.map (fun d => some (DV.fz d)) ++ List.replicate (N.length - ds.length) none)[i]?
    by_cases h : i < ds.length
    · rw [List.getElem?_append_left (by simpa using h)]
      have hd : ds[i]? = some ds[i] := by simp [h]
      obtain ⟨v, hv, rp⟩ := r.get' hd
      rw [List.getElem?_map, hd]
      refine ⟨v, ?_, rp⟩
      rw [List.getElem?_append_left (by rw [List.length_map, r.length]; exact h), List.getElem?_map, hv]
      rfl
    · rw [List.getElem?_append_right (by simpa using Nat.le_of_not_lt h)]
      cases e : (List.replicate (N.length - ds.length) (none : Option DV))[i - (ds.map (fun d => some (DV.fz d))).length]? with
      | none => trivial
      | some x =>
        have := List.eq_of_mem_replicate (List.mem_of_getElem? e)
        subst this
        trivial
section
variable {P : Program} {w : World} {K : PySem.W.Frag} {mg : Str → Option Value} {base : Heap} {x q : Str} {st : Stmt} {f : Addr} {fd : FuncData} {N ps : List Str} {k : Nat}
/-- the context of a def's body -/
abbrev bodyX (P : Program) (w : World) (K : PySem.W.Frag) (mg : Str → Option Value) (base : Heap) (N : List Str) (q : Str) (st : Stmt) (f : Addr) (cdv : Value) (A : Around) (outer : List Env) (s : Shared) (H : Hp) (E : XK) : Cx :=
  (cxOf CX0 P w K mg base N q (defScope st) f cdv A outer s H E).nox
theorem fin_grow {R : Rgn} {F H F' H' : Hp} {Z : Addr → Prop} {g : R.G} (fin : Fin ⟨K, R, H, F, Z⟩ F' H' g) : (∀ b, F' b ≠ none → F b ≠ none ∨ H b = none) := fun b n => by
  cases e : F b with
  | none => exact .inr (fin.new b n e)
  | some o => exact .inl fun z => by cases z
theorem FnD {m : WM} (F : FnP K x q st f fd) (S : FnScope N ps (defScope st)) (hm : ∀ ds Kk, m ds Kk → ds.length = ps.length)
    (hbody : ∀ (cdv : Value) (A : Around) (outer : List Env) (s : Shared) (H Fz : Hp) (E : XK), Room k (A.deeper (envOfC q (defScope st) s.heap.objs.size f cdv)) →
      ∃ w' : WS noR, DSs (bodyX P w K mg base N q st f cdv A outer s H E) ⟨K, noR, H, Fz, fun _ => False⟩ false (defBody st) w' ∧
        ∀ ds Kk, m ds Kk → w' { nx := fun _ => Kk .non, rt := fun d _ => Kk d } ⟨noG, startD N ds⟩) : FnOk P w K mg base CX0 (k + 1) f fd ps (spD K m) := by
  refine F.ok S (fun vs H Q E h => ?_) (fun cdv A outer s H vs Q E hr h => ?_)
  · obtain ⟨ds, F, Kk, _, r, hw, _⟩ := h
    rw [r.length]
    exact hm ds Kk hw
  · obtain ⟨ds, Fz, Kk, sub, r, hw, k⟩ := h
    obtain ⟨w', hb, hw'⟩ := hbody cdv A outer s H Fz E hr
    have gr : ∀ {F' H' : Hp} {g : noR.G}, Fin ⟨K, noR, H, Fz, fun _ => False⟩ F' H' g → Grow Fz H F' H' := fun fin => ⟨fin.old, fin.sub, fun b o e => fin.keep b o e id, fin_grow fin, fun _ => fin.tin⟩
    exact ⟨_, PSs.nox hb.ps, _, Fz, _, St.start sub r (fun a h => h) (fun b h => h.elim), hw' ds Kk hw, fun ρ' σ' F' H' h S' _ => k .non .non F' H' h (gr S'.fin) .non, (fun _ _ _ _ h => h.elim), (fun _ _ _ _ h => h.elim),
      fun d g h v F' H' fin rp => k d v F' H' h (gr fin) rp⟩
theorem FnF {m : WM} (F : FnP K x q st f fd) (S : FnScope N ps (defScope st)) (hm : ∀ ds Kk, m ds Kk → ds.length = ps.length)
    (hbody : ∀ (cdv : Value) (A : Around) (outer : List Env) (s : Shared) (H Fz : Hp) (E : XK), Room k (A.deeper (envOfC q (defScope st) s.heap.objs.size f cdv)) →
      ∃ w' : WS noR, DSs (bodyX P w K mg base N q st f cdv A outer s H E) ⟨K, noR, H, Fz, fun _ => False⟩ true (defBody st) w' ∧
        ∀ ds Kk, m ds Kk → w' { nx := fun _ => False, rt := fun d _ => Kk d } ⟨noG, startD N ds⟩) : FnOk P w K mg base CX0 (k + 1) f fd ps (spF K m) := by
  refine F.ok S (fun vs H Q E h => ?_) (fun cdv A outer s H vs Q E hr h => ?_)
  · obtain ⟨ds, F, Kk, _, r, hw, _⟩ := h
    rw [r.length]
    exact hm ds Kk hw
  · obtain ⟨ds, Fz, Kk, sub, r, hw, k⟩ := h
    obtain ⟨w', hb, hw'⟩ := hbody cdv A outer s H Fz E hr
    have gr : ∀ {F' H' : Hp} {g : noR.G}, Fin ⟨K, noR, H, Fz, fun _ => False⟩ F' H' g → Grow Fz H F' H' := fun fin => ⟨fin.old, fin.sub, fun b o e => fin.keep b o e id, fin_grow fin, fun _ => fin.tin⟩
    exact ⟨_, PSs.nox hb.ps, _, Fz, _, St.start sub r (fun a h => h) (fun b h => h.elim), hw' ds Kk hw, (fun ρ' σ' F' H' h S' _ => h.elim), (fun _ _ _ _ h => h.elim), (fun _ _ _ _ h => h.elim),
      fun d g h q o F' H' fin hq ob => k d q o F' H' h (gr fin) hq ob⟩
theorem FnR {R : Rgn} {m : WMR R} (F : FnP K x q st f fd) (S : FnScope N ps (defScope st)) (hm : ∀ ds g Kk, m ds g Kk → ds.length = ps.length)
    (hbody : ∀ (cdv : Value) (A : Around) (outer : List Env) (s : Shared) (H Fz : Hp) (Z : Addr → Prop) (E : XK), Room k (A.deeper (envOfC q (defScope st) s.heap.objs.size f cdv)) →
      ∃ w' : WS R, DSs (bodyX P w K mg base N q st f cdv A outer s H E) ⟨K, R, H, Fz, Z⟩ false (defBody st) w' ∧
        ∀ ds g Kk, m ds g Kk → w' { nx := fun ρ => Kk .non ρ.g, rt := fun d g => Kk d g } ⟨g, startD N ds⟩) : FnOk P w K mg base CX0 (k + 1) f fd ps (spR R K m) := by
  refine F.ok S (fun vs H Q E h => ?_) (fun cdv A outer s H vs Q E hr h => ?_)
  · obtain ⟨ds, F, Z, g, Kk, _, r, _, _, hw, _⟩ := h
    rw [r.length]
    exact hm ds g Kk hw
  · obtain ⟨ds, Fz, Z, g, Kk, sub, r, ok, zf, hw, k⟩ := h
    obtain ⟨w', hb, hw'⟩ := hbody cdv A outer s H Fz Z E hr
    have gr : ∀ {F' H' : Hp} {g' : R.G}, Fin ⟨K, R, H, Fz, Z⟩ F' H' g' → ∃ Z', GrowR R g Fz H Z g' F' H' Z' := fun {F' H' g'} fin => by
      obtain ⟨Z', ok', z1, z2⟩ := fin.reg
      refine ⟨Z', fin.old, fin.sub, fin_grow fin, fin.keep, fin.live, ok', z1, fun b h => ?_, fun _ => fin.tin⟩
      by_cases e : Z b
      · exact .inl e
      · exact .inr (z2 b h e)
    exact ⟨_, PSs.nox hb.ps, _, Fz, _, St.start sub r ok zf, hw' ds g Kk hw, fun ρ' σ' F' H' h S' _ => (gr S'.fin).elim fun Z' gz => k .non ρ'.g .non F' Z' H' h gz .non, (fun _ _ _ _ h => h.elim), (fun _ _ _ _ h => h.elim),
      fun d g' h v F' H' fin rp => (gr fin).elim fun Z' gz => k d g' v F' Z' H' h gz rp⟩
theorem FnRF {R : Rgn} {m : WMR R} (F : FnP K x q st f fd) (S : FnScope N ps (defScope st)) (hm : ∀ ds g Kk, m ds g Kk → ds.length = ps.length)
    (hbody : ∀ (cdv : Value) (A : Around) (outer : List Env) (s : Shared) (H Fz : Hp) (Z : Addr → Prop) (E : XK), Room k (A.deeper (envOfC q (defScope st) s.heap.objs.size f cdv)) →
      ∃ w' : WS R, DSs (bodyX P w K mg base N q st f cdv A outer s H E) ⟨K, R, H, Fz, Z⟩ true (defBody st) w' ∧
        ∀ ds g Kk, m ds g Kk → w' { nx := fun ρ => False, rt := fun d g => Kk d g } ⟨g, startD N ds⟩) : FnOk P w K mg base CX0 (k + 1) f fd ps (spRF R K m) := by
  refine F.ok S (fun vs H Q E h => ?_) (fun cdv A outer s H vs Q E hr h => ?_)
  · obtain ⟨ds, F, Z, g, Kk, _, r, _, _, hw, _⟩ := h
    rw [r.length]
    exact hm ds g Kk hw
  · obtain ⟨ds, Fz, Z, g, Kk, sub, r, ok, zf, hw, k⟩ := h
    obtain ⟨w', hb, hw'⟩ := hbody cdv A outer s H Fz Z E hr
    have gr : ∀ {F' H' : Hp} {g' : R.G}, Fin ⟨K, R, H, Fz, Z⟩ F' H' g' → ∃ Z', GrowR R g Fz H Z g' F' H' Z' := fun {F' H' g'} fin => by
      obtain ⟨Z', ok', z1, z2⟩ := fin.reg
      refine ⟨Z', fin.old, fin.sub, fin_grow fin, fin.keep, fin.live, ok', z1, fun b h => ?_, fun _ => fin.tin⟩
      by_cases e : Z b
      · exact .inl e
      · exact .inr (z2 b h e)
    exact ⟨_, PSs.nox hb.ps, _, Fz, _, St.start sub r ok zf, hw' ds g Kk hw, (fun ρ' σ' F' H' h S' _ => h.elim), (fun _ _ _ _ h => h.elim), (fun _ _ _ _ h => h.elim),
      fun d g' h q o F' H' fin hq ob => (gr fin).elim fun Z' gz => k d g' q o F' Z' H' h gz hq ob⟩
end
end Q

set_option Elab.async false
set_option linter.all false
set_option maxRecDepth 100000
set_option maxHeartbeats 4000000
namespace Q
open PySem PySem.Spec PyProof.Rows L2
section
variable {X : Cx} {c : Ctx} {fr : Bool} {st : Stmt} {rest : List Stmt} {e : Expr} {es : List Expr} {pos p : Pos} {pa pb ba bb : Bool} {we : WE c.R} {wa : WA c.R} {wt : WB c.R} {w w1 w2 : WS c.R}
/-- an object of the def's own is written -/
theorem St.write {F H : Hp} {O : List Addr} {σ : L2.St} {ρ : DS c.R} {i : Nat} {q : Addr} {d d' : D} {o : HO} (S : St c F O σ ρ H) (h1 : σ[i]? = some (some (.ref q))) (h2 : ρ.sl[i]? = some (some (.own d))) (ob : ObjD c.K F q o d') :
    St c F O σ (ρ.put i (some (.own d'))) (upd H q o) := by
  have ns : Owns σ ρ.sl i q := ⟨h1, d, h2⟩
  obtain ⟨m1, m2, m3⟩ := S.mine i q ns
  obtain ⟨Z, r, z1, z2, z3, z4⟩ := S.reg
  have own : ∀ j a, Owns σ (ρ.put i (some (.own d'))).sl j a → Owns σ ρ.sl j a := fun j a ⟨g1, x, g2⟩ => by
    have g2 : (ρ.sl.set i (some (.own d')))[j]? = some (some (.own x)) := g2
    rw [set_get] at g2
    by_cases e : i = j
    · subst e; exact ⟨g1, d, h2⟩
    · rw [if_neg e] at g2
      exact ⟨g1, x, g2⟩
  refine ⟨by show σ.length = (ρ.sl.set i _).length; rw [List.length_set]; exact S.len, fun b u z => ?_, S.tin.updH ob.noTup, S.old, S.new, fun b u z n => ?_, fun b n => ?_, fun j => ?_, fun j a h => S.mine j a (own j a h), fun j k a h h' => S.inj j k a (own j a h) (own k a h'), fun a h => ?_, ?_⟩
  · rw [upd_ne (fun y => by rw [y, m1] at z; cases z)]; exact S.sub _ _ z
  · rw [upd_ne (fun y => by rw [y, m2] at z; cases z)]; exact S.keep b u z n
  · rw [upd_ne (fun y => by rw [y] at n; exact n m2)]; exact S.live b n
  · show SlotOk c.K F (upd H q o) σ j (ρ.sl.set i (some (.own d')))[j]?
    rw [set_get]
    by_cases e : i = j
    · subst e
      rw [if_pos rfl]
      by_cases z : i < ρ.sl.length
      · rw [if_pos z]
        exact ⟨q, h1, ObjD.own upd_same ob⟩
      · rw [if_neg z]; trivial
    · rw [if_neg e]
      have h := S.slots j
      cases z : ρ.sl[j]? with
      | none => trivial
      | some x =>
        rw [z] at h
        cases x with
        | none => trivial
        | some x =>
          cases x with
          | fz d => exact h
          | own d =>
            obtain ⟨a, g1, g2⟩ := h
            refine ⟨a, g1, g2.same (Same.refl _) ?_⟩
            rw [upd_ne (fun y => e (S.inj i j q ns ⟨by rw [← y]; exact g1, d, z⟩))]
  · obtain ⟨n1, n2, n3⟩ := S.out a h
    refine ⟨n1, n2, ?_⟩
    rw [upd_ne (fun y => m3 (by rw [← y]; exact h))]
    exact n3
  · exact ⟨Z, c.R.fr r fun a h => by rw [upd_ne (fun y => z4 i q ns (by rw [← y]; exact h))], z1, z2, z3, fun j a h => z4 j a (own j a h)⟩
theorem own_at {F H : Hp} {O : List Addr} {σ : L2.St} {ρ : DS c.R} {i : Nat} {d : D} (S : St c F O σ ρ H) (h2 : ρ.sl[i]? = some (some (.own d))) : ∃ q, σ[i]? = some (some (.ref q)) ∧ OwnAt c.K F H q d := by
  have h := S.slots i
  rw [h2] at h
  exact h
/-- x.append(e) -/
def sApp {R : Rgn} (i : Nat) (we : WE R) : WS R := fun D ρ => (∃ ds, ρ.sl[i]? = some (some (.own (.lst ds)))) ∧ we ρ fun d ρ1 => ∃ ds, ρ1.sl[i]? = some (some (.own (.lst ds))) ∧ ds.length < 100000 ∧ D.nx (ρ1.put i (some (.own (.lst (ds ++ [d])))))
theorem ds_app {i : Nat} {x : Str} {ep pp qp : Pos} (he : DE X c pa false e we) (hk : X.K = c.K := by rfl) (hN : X.N[i]? = some x := by rfl) (hv : Vis X.env.scope x := by first | exact .inl rfl | exact .inr (.inl rfl) | exact .inr (.inr rfl))
    (hd : (x == ("__debug__" : Str)) = false := by decide) (hcd : (x == ("__classdict__" : Str)) = false := by decide)
    (hbase : attributeBase (.Name x pp) "append" X.env (eval (.Name x pp) X.env) = eval (.Name x pp) X.env := by rfl)
    (hfew : ((backTo ep (starEach [e] X.env)).all (fun x => !x.1) && (backToKw ep (keywordEach [] X.env)).all (fun x => x.1.isSome) && decide (([e] : List Expr).length + ([] : List Keyword).length + (if ([] : List Keyword).isEmpty then 0 else 1) < 30)) = true := by rfl)
    (hline : (qp.endLine == ep.line) = true := by rfl) (hst : starEach [e] X.env = (false, eval e X.env) :: starEach [] X.env := by rfl) (hplain : (backTo ep (starEach [] X.env)).any (·.1) = false := by rfl)
    (hs : swapsWith (.Call (.Attribute (.Name x pp) "append" qp) [e] [] ep) none pos.line X.env = pure false := by rfl) :
    DS1 X c fr (.Expr (.Call (.Attribute (.Name x pp) "append" qp) [e] [] ep) pos) (sApp i we) :=
  ⟨(ps_expr (pe_bm PySem.F.plainAttrs_list PySem.F.slot_list_append PySem.F.type_list_append mt_append (pe_var hN hv hd hcd) (pa_cons he.pe pa_nil hst) hbase hfew hline hst hplain) hs).imp fun E σ H ⟨ρ, F, Dk, S, ⟨⟨ds0, h0⟩, w⟩, k1, k2, k3, k4⟩ => by
    obtain ⟨q, hq, vs0, hvs0, _⟩ := own_at S h0
    refine ⟨.ref q, hq, .inl ⟨rfl, vs0, SqL.of hvs0⟩, ρ, F, [], _, S, w, fun d ρ1 v F1 H1 ⟨ds, h2, hz, hk⟩ S1 fs1 ko1 g1 r1 => ?_⟩
    obtain ⟨q', hq', vs, hvs, rv⟩ := own_at S1 h2
    rw [hq] at hq'
    cases hq'
    refine ⟨q, vs, v, rfl, rfl, hvs, by rw [rv.length]; exact Nat.lt_of_lt_of_le hz big_line, ?_⟩
    exact k1 _ σ F1 _ hk (S1.write hq h2 (o := .lst (vs ++ [v])) (rv.snoc r1)) fs1⟩
/-- x.extend(e), e a list -/
def sExt {R : Rgn} (i : Nat) (we : WE R) : WS R := fun D ρ => (∃ ds, ρ.sl[i]? = some (some (.own (.lst ds)))) ∧ we ρ fun d ρ1 => ∃ ds es, d = .lst es ∧ ρ1.sl[i]? = some (some (.own (.lst ds))) ∧ ds.length + es.length ≤ 100000 ∧ D.nx (ρ1.put i (some (.own (.lst (ds ++ es)))))
theorem ds_ext {i : Nat} {x : Str} {ep pp qp : Pos} (he : DE X c pa ba e we) (hk : X.K = c.K := by rfl) (hN : X.N[i]? = some x := by rfl) (hv : Vis X.env.scope x := by first | exact .inl rfl | exact .inr (.inl rfl) | exact .inr (.inr rfl))
    (hd : (x == ("__debug__" : Str)) = false := by decide) (hcd : (x == ("__classdict__" : Str)) = false := by decide)
    (hbase : attributeBase (.Name x pp) "extend" X.env (eval (.Name x pp) X.env) = eval (.Name x pp) X.env := by rfl)
    (hfew : ((backTo ep (starEach [e] X.env)).all (fun x => !x.1) && (backToKw ep (keywordEach [] X.env)).all (fun x => x.1.isSome) && decide (([e] : List Expr).length + ([] : List Keyword).length + (if ([] : List Keyword).isEmpty then 0 else 1) < 30)) = true := by rfl)
    (hline : (qp.endLine == ep.line) = true := by rfl) (hst : starEach [e] X.env = (false, eval e X.env) :: starEach [] X.env := by rfl) (hplain : (backTo ep (starEach [] X.env)).any (·.1) = false := by rfl)
    (hs : swapsWith (.Call (.Attribute (.Name x pp) "extend" qp) [e] [] ep) none pos.line X.env = pure false := by rfl) :
    DS1 X c fr (.Expr (.Call (.Attribute (.Name x pp) "extend" qp) [e] [] ep) pos) (sExt i we) :=
  ⟨(ps_expr (pe_bm PySem.F.plainAttrs_list PySem.F.slot_list_extend PySem.F.type_list_extend mt_extend (pe_var hN hv hd hcd) (pa_cons he.pe pa_nil hst) hbase hfew hline hst hplain) hs).imp fun E σ H ⟨ρ, F, Dk, S, ⟨⟨ds0, h0⟩, w⟩, k1, k2, k3, k4⟩ => by
    obtain ⟨q, hq, vs0, hvs0, _⟩ := own_at S h0
    refine ⟨.ref q, hq, .inl ⟨rfl, vs0, SqL.of hvs0⟩, ρ, F, [], _, S, w, fun d ρ1 v F1 H1 ⟨ds, es, e1, h2, hz, hk⟩ S1 fs1 ko1 g1 r1 => ?_⟩
    subst e1
    obtain ⟨q', hq', vs, hvs, rv⟩ := own_at S1 h2
    rw [hq] at hq'
    cases hq'
    obtain ⟨b, us, rfl, hb, ru⟩ := (r1.bv S1).lst S1.sub
    refine ⟨q, b, vs, us, rfl, rfl, hvs, hb, by rw [rv.length, ru.length]; exact Nat.le_trans hz big_line, ?_⟩
    exact k1 _ σ F1 _ hk (S1.write hq h2 (o := .lst (vs ++ us)) (rv.append ru)) fs1⟩
/-- x[k] = e, x a list of the def's own -/
def sPutL {R : Rgn} (i : Nat) (we wk : WE R) : WS R := fun D ρ => we ρ fun d ρ1 => (∃ d0, ρ1.sl[i]? = some (some (.own d0))) ∧ wk ρ1 fun k ρ2 => ∃ n ds j, k = .int n ∧ ρ2.sl[i]? = some (some (.own (.lst ds))) ∧ ixN ds.length n = some j ∧ D.nx (ρ2.put i (some (.own (.lst (ds.set j d)))))
theorem ds_putL {i : Nat} {x : Str} {k : Expr} {wk : WE c.R} {pp qp : Pos} (he : DE X c pa false e we) (hx : DE X c pb bb k wk) (hN : X.N[i]? = some x := by rfl) (hv : Vis X.env.scope x := by first | exact .inl rfl | exact .inr (.inl rfl) | exact .inr (.inr rfl))
    (hd : (x == ("__debug__" : Str)) = false := by decide) (hcd : (x == ("__classdict__" : Str)) = false := by decide)
    (hasg : ∀ v, assign (.Subscript (.Name x pp) k qp) X.env v = (do
      let ov ← holding [v] (eval (.Name x pp) X.env)
      let iv ← holding [v, ov] (eval k X.env)
      standAt qp
      holding [v, ov, iv] (setItem ov iv v)
      release [v, ov, iv] []) := by intro _; rfl)
    (hs : swapsWithSole [.Subscript (.Name x pp) k qp] e pos.line X.env = pure false := by rfl) (hw : swappedStores [.Subscript (.Name x pp) k qp] e X.env = pure none := by rfl) :
    DS1 X c fr (.Assign [.Subscript (.Name x pp) k qp] e pos) (sPutL i we wk) :=
  ⟨(ps_asg he.pe (pg_sub (pe_var hN hv hd hcd) hx.pe set_list hasg) hs hw).imp fun E σ H ⟨ρ, F, Dk, S, w, k1, k2, k3, k4⟩ => by
    refine ⟨ρ, F, [], _, S, w, fun d ρ1 v F1 H1 ⟨⟨d0, h0⟩, hk⟩ S1 fs1 ko1 g1 r1 => ?_⟩
    obtain ⟨q, hq, _⟩ := own_at S1 h0
    refine ⟨.ref q, hq, ρ1, F1, [], _, S1, hk, fun kd ρ2 kv F2 H2 ⟨n, ds, j, en, h2, hj, hk2⟩ S2 fs2 ko2 g2 r2 => ?_⟩
    subst en
    obtain ⟨q', hq', vs, hvs, rv⟩ := own_at S2 h2
    rw [hq] at hq'
    cases hq'
    refine ⟨q, vs, n, j, rfl, (r2.bv S2).int, hvs, by rw [rv.length]; exact hj, ?_⟩
    exact k1 _ σ F2 _ hk2 (S2.write hq h2 (o := .lst (vs.set j v)) (Reps.set (Rep.same fs2 r1) j rv)) (fs1.trans fs2)⟩
end
end Q

set_option Elab.async false
set_option linter.all false
set_option maxRecDepth 100000
set_option maxHeartbeats 4000000
/-! the operators of Python over data -/
namespace Q
open PySem PySem.Spec PyProof.Rows L2
theorem BV.rt {K : PySem.W.Frag} {F H : Hp} {v : V} {ds : List D} (h : BV K F H v (.tup ds)) : Rep K F v (.tup ds) := by
  rcases h with r | ⟨_, o⟩
  · exact r
  · exact o.elim
/-! ### + - -/
def addD : D → D → Option D
  | .int a, .int b => some (.int (a + b))
  | .str a, .str b => if a.length + b.length ≤ 100000 then some (.str (a ++ b)) else none
  | .lst a, .lst b => if a.length + b.length ≤ 100000 then some (.lst (a ++ b)) else none
  | .tup a, .tup b => if a.length + b.length ≤ 100000 then some (.tup (a ++ b)) else none
  | _, _ => none
def rAddA (K : PySem.W.Frag) : R2 := fun x y H Q => ((rI0 (fun i j => .int (i + j)) x y H Q ∨ (∃ i j, x = .str i ∧ y = .str j ∧ i.length + j.length ≤ sizeLine ∧ Q (.str (i ++ j)) H)) ∨ rCat x y H Q) ∨ rCatA K x y H Q
theorem op_addA {X : Cx} : OpR X (binaryOp .Add) (rAddA X.K) := ((op_add.or op_add_str).or op_cat).or op_catA
theorem add_ok {K : PySem.W.Frag} : R2D K (rAddA K) addD := fun {F H v u x y z Q} s bx by' hz k => by
  cases x <;> cases y <;> simp only [addD, reduceCtorEq] at hz
  case int.int a b => cases hz; exact .inl (.inl (.inl ⟨a, b, bx.int, by'.int, k _ F H .no (.int _)⟩))
  case str.str a b =>
    split at hz
    · next h => cases hz; exact .inl (.inl (.inr ⟨a, b, bx.str, by'.str, Nat.le_trans h big_line, k _ F H .no (.str _)⟩))
    · cases hz
  case lst.lst a b =>
    split at hz
    · next h =>
      cases hz
      obtain ⟨p, vs, rfl, h1, r1⟩ := bx.lst s
      obtain ⟨q, us, rfl, h2, r2⟩ := by'.lst s
      refine .inl (.inr ⟨p, q, vs, us, rfl, rfl, h1, h2, by rw [r1.length, r2.length]; exact Nat.le_trans h big_line, fun l hl => ?_⟩)
      exact k _ _ _ (Al.one hl) (.lst upd_same ((r1.append r2).same (Same.upd_at s hl)))
    · cases hz
  case tup.tup a b =>
    split at hz
    · next h =>
      cases hz
      obtain ⟨p, vs, e1, h1, r1⟩ := bx.tup s
      obtain ⟨q, us, e2, h2, r2⟩ := by'.tup s
      have f1 : Rep K F v (.tup a) := bx.rt
      have f2 : Rep K F u (.tup b) := by'.rt
      subst e1 e2
      refine .inr ⟨p, q, vs, us, rfl, rfl, h1, h2, by rw [r1.length, r2.length]; exact Nat.le_trans h big_line, fun e => ?_, fun _ e => ?_, fun _ _ l hl => ?_⟩
      · subst e
        cases r1
        exact k _ F H .no f2
      · subst e
        cases r2
        rw [List.append_nil] at k
        exact k _ F H .no f1
      · exact k _ _ _ (Al.one hl) (.tup upd_same ((r1.append r2).same (Same.upd_at s hl)))
    · cases hz
def subD : D → D → Option D
  | .int a, .int b => some (.int (a - b))
  | _, _ => none
theorem sub_ok {K : PySem.W.Frag} : R2D K (rI0 fun i j => .int (i - j)) subD := fun {F H v u x y z Q} s bx by' hz k => by
  cases x <;> cases y <;> simp only [subD, reduceCtorEq] at hz
  case int.int a b => cases hz; exact ⟨a, b, bx.int, by'.int, k _ F H .no (.int _)⟩
def modD : D → D → Option D
  | .int a, .int b => if 0 < b then some (.int (a % b)) else none
  | _, _ => none
theorem mod_ok {K : PySem.W.Frag} : R2D K (rI (fun _ j => 0 < j) fun i j => .int (i % j)) modD := fun {F H v u x y z Q} s bx by' hz k => by
  cases x <;> cases y <;> simp only [modD, reduceCtorEq] at hz
  case int.int a b =>
    split at hz
    · next h => cases hz; exact ⟨a, b, bx.int, by'.int, h, k _ F H .no (.int _)⟩
    · cases hz
/-! ### comparisons of numbers -/
def cmpD (p : Int → Int → Bool) : D → D → Option D
  | .int a, .int b => some (.bl (p a b))
  | _, _ => none
theorem cmp_ok {K : PySem.W.Frag} {p : Int → Int → Bool} : R2D K (rI0 fun i j => .bl (p i j)) (cmpD p) := fun {F H v u x y z Q} s bx by' hz k => by
  cases x <;> cases y <;> simp only [cmpD, reduceCtorEq] at hz
  case int.int a b => cases hz; exact ⟨a, b, bx.int, by'.int, k _ F H .no (.bl _)⟩
/-! ### equality of data -/
mutual
def pyD : D → Option PyData
  | .non => some .none
  | .bl b => some (.bool b)
  | .int i => some (.int i)
  | .str x => some (.str x)
  | .lst xs => (pyDs xs).map .list
  | .tup xs => (pyDs xs).map .tuple
  | .dct _ _ => none
  | .dtt _ _ => none
  | .dmx _ _ _ => none
  | .ins _ _ _ => none
  | .raw _ => none
def pyDs : List D → Option (List PyData)
  | [] => some []
  | x :: xs => (pyD x).bind fun y => (pyDs xs).map fun ys => y :: ys
end
mutual
theorem py_plain : ∀ {d : D} {p : PyData}, pyD d = some p → p.plain = true
  | .non, _, h => by cases h; rfl
  | .bl _, _, h => by cases h; rfl
  | .int _, _, h => by cases h; rfl
  | .str _, _, h => by cases h; rfl
  | .lst xs, _, h => by
    simp only [pyD, Option.map_eq_some_iff] at h
    obtain ⟨ps, h1, rfl⟩ := h
    exact py_plains h1
  | .tup xs, _, h => by
    simp only [pyD, Option.map_eq_some_iff] at h
    obtain ⟨ps, h1, rfl⟩ := h
    exact py_plains h1
theorem py_plains : ∀ {ds : List D} {ps : List PyData}, pyDs ds = some ps → PyData.plainAll ps = true
  | [], _, h => by cases h; rfl
  | d :: ds, _, h => by
    simp only [pyDs, Option.bind_eq_some_iff, Option.map_eq_some_iff] at h
    obtain ⟨p, h1, ps, h2, rfl⟩ := h
    simp only [PyData.plainAll, py_plain h1, py_plains h2, Bool.and_self]
end
section
variable {K : PySem.W.Frag} {F H : Hp}
mutual
theorem Rep.dp (s : Same F H) : ∀ {v : V} {d : D} {p : PyData}, Rep K F v d → pyD d = some p → Dp K H v p
  | _, _, _, .non, h => by cases h; exact .non
  | _, _, _, .bl b, h => by cases h; exact .bl b
  | _, _, _, .int b, h => by cases h; exact .int b
  | _, _, _, .str b, h => by cases h; exact .str b
  | _, _, _, .lst e r, h => by
    simp only [pyD, Option.map_eq_some_iff] at h
    obtain ⟨ps, h1, rfl⟩ := h
    exact .lst (SqL.of (s _ _ e)) (Reps.dp s r h1)
  | _, _, _, .tup e r, h => by
    simp only [pyD, Option.map_eq_some_iff] at h
    obtain ⟨ps, h1, rfl⟩ := h
    exact .tup (SqT.of (s _ _ e)) (Reps.dp s r h1)
  | _, _, _, .dK _ _ _, h => by cases h
  | _, _, _, .dT _ _ _, h => by cases h
  | _, _, _, .dM _ _ _ _ _, h => by cases h
  | _, _, _, .ins _ _ _, h => by cases h
  | _, _, _, .raw _, h => by cases h
theorem Reps.dp (s : Same F H) : ∀ {vs : List V} {ds : List D} {ps : List PyData}, Reps K F vs ds → pyDs ds = some ps → DpAll K H vs ps
  | _, _, _, .nil, h => by cases h; exact .nil
  | _, _, _, .cons r t, h => by
    simp only [pyDs, Option.bind_eq_some_iff, Option.map_eq_some_iff] at h
    obtain ⟨p, h1, ps, h2, rfl⟩ := h
    exact .cons (Rep.dp s r h1) (Reps.dp s t h2)
end
theorem BV.dp {v : V} {d : D} {p : PyData} (s : Same F H) (h : BV K F H v d) (e : pyD d = some p) : Dp K H v p := by
  rcases h with r | ⟨rfl, o⟩
  · exact r.dp s e
  · cases d <;> simp only [OwnAt] at o
    · obtain ⟨vs, h1, r⟩ := o
      simp only [pyD, Option.map_eq_some_iff] at e
      obtain ⟨ps, h2, rfl⟩ := e
      exact .lst (SqL.of h1) (r.dp s h2)
    · cases e
    · cases e
    · cases e
end
def xr : Bool → Bool → Bool
  | false, b => b
  | true, b => !b
@[simp] theorem xr_f (b : Bool) : xr false b = b := rfl
@[simp] theorem xr_t (b : Bool) : xr true b = !b := rfl
theorem rel_bl {b k : Bool} (h : b = k) : L2.RelV (.bl b) (.bool k) := by rw [h]; rfl
def rEqP (neg : Bool) (K : PySem.W.Frag) : R2 := fun x y H Q => ∃ d e, Dp K H x d ∧ Dp K H y e ∧ d.plain = true ∧ e.plain = true ∧ min d.depth e.depth ≤ 60 ∧ Q (.bl (xr neg (PyData.eqv d e))) H
section
variable {X : Cx}
theorem op_eqP (hu : X.A.units + 64 < cLine) : OpR X (compareOp .Eq) (rEqP false X.K) := by
  intro pins s σ H x y v u Q I rx ry h
  obtain ⟨d, e, hd, he, sd, se, hz, q⟩ := h
  obtain ⟨as, r1⟩ := Dp.reads I d x v hd rx
  obtain ⟨bs, r2⟩ := Dp.reads I e y u he ry
  exact SeqAt.eq_plain r1 r2 sd se (by omega) ⟨.bl _, H, I, rel_bl (by simp), q⟩
theorem op_neP (hu : X.A.units + 64 < cLine) : OpR X (compareOp .NotEq) (rEqP true X.K) := by
  intro pins s σ H x y v u Q I rx ry h
  obtain ⟨d, e, hd, he, sd, se, hz, q⟩ := h
  obtain ⟨as, r1⟩ := Dp.reads I d x v hd rx
  obtain ⟨bs, r2⟩ := Dp.reads I e y u he ry
  exact SeqAt.ne_plain r1 r2 sd se (by omega) ⟨.bl _, H, I, rel_bl (by simp), q⟩
end
def eqP0 (neg : Bool) (x y : D) : Option D := (pyD x).bind fun p => (pyD y).bind fun q => if min p.depth q.depth ≤ 60 then some (.bl (xr neg (PyData.eqv p q))) else none
theorem eq_ok0 {K : PySem.W.Frag} {neg : Bool} : R2D K (rEqP neg K) (eqP0 neg) := fun {F H v u x y z Q} s bx by' hz k => by
  simp only [eqP0, Option.bind_eq_some_iff] at hz
  obtain ⟨p, h1, q, h2, h3⟩ := hz
  split at h3
  · next h => cases h3; exact ⟨p, q, bx.dp s h1, by'.dp s h2, py_plain h1, py_plain h2, h, k _ F H .no (.bl _)⟩
  · cases h3
/-! .. told over the data itself -/
mutual
def deq : D → D → Bool
  | .non, .non => true
  | .bl a, .bl b => a == b
  | .bl a, .int j => (if a then 1 else 0) == j
  | .int i, .bl b => i == (if b then 1 else 0)
  | .int i, .int j => i == j
  | .str x, .str y => x == y
  | .lst xs, .lst ys => deqs xs ys
  | .tup xs, .tup ys => deqs xs ys
  | _, _ => false
def deqs : List D → List D → Bool
  | [], [] => true
  | x :: xs, y :: ys => deq x y && deqs xs ys
  | _, _ => false
end
mutual
def isDat : D → Bool
  | .lst xs => isDats xs
  | .tup xs => isDats xs
  | .dct _ _ => false
  | .dtt _ _ => false
  | .dmx _ _ _ => false
  | .ins _ _ _ => false
  | .raw _ => false
  | _ => true
def isDats : List D → Bool
  | [] => true
  | x :: xs => isDat x && isDats xs
end
mutual
def dep : D → Nat
  | .lst xs => deps xs + 1
  | .tup xs => deps xs + 1
  | _ => 0
def deps : List D → Nat
  | [] => 0
  | x :: xs => max (dep x) (deps xs)
end
mutual
theorem py_of : ∀ {d : D}, isDat d = true → ∃ p, pyD d = some p ∧ p.depth = dep d
  | .non, _ => ⟨_, rfl, by simp [PyData.depth, dep]⟩
  | .bl _, _ => ⟨_, rfl, by simp [PyData.depth, dep]⟩
  | .int _, _ => ⟨_, rfl, by simp [PyData.depth, dep]⟩
  | .str _, _ => ⟨_, rfl, by simp [PyData.depth, dep]⟩
  | .lst xs, h => by
    obtain ⟨ps, h1, h2⟩ := py_ofs (ds := xs) (by simpa [isDat] using h)
    exact ⟨.list ps, by simp only [pyD, h1, Option.map_some], by simp only [PyData.depth, dep, h2]⟩
  | .tup xs, h => by
    obtain ⟨ps, h1, h2⟩ := py_ofs (ds := xs) (by simpa [isDat] using h)
    exact ⟨.tuple ps, by simp only [pyD, h1, Option.map_some], by simp only [PyData.depth, dep, h2]⟩
  | .dct _ _, h => by simp [isDat] at h
  | .dtt _ _, h => by simp [isDat] at h
  | .dmx _ _ _, h => by simp [isDat] at h
  | .ins _ _ _, h => by simp [isDat] at h
  | .raw _, h => by simp [isDat] at h
theorem py_ofs : ∀ {ds : List D}, isDats ds = true → ∃ ps, pyDs ds = some ps ∧ PyData.depthAll ps = deps ds
  | [], _ => ⟨[], rfl, by simp [PyData.depthAll, deps]⟩
  | d :: ds, h => by
    have h' : isDat d = true ∧ isDats ds = true := by simpa [isDats] using h
    obtain ⟨p, h1, h2⟩ := py_of h'.1
    obtain ⟨ps, h3, h4⟩ := py_ofs h'.2
    exact ⟨p :: ps, by simp only [pyDs, h1, h3, Option.bind_some, Option.map_some], by simp only [PyData.depthAll, deps, h2, h4]⟩
end
mutual
theorem deq_of : ∀ {d e : D} {p q : PyData}, pyD d = some p → pyD e = some q → PyData.eqv p q = deq d e := fun {d e p q} h1 h2 => by
  match d, h1 with
  | .non, h1 => cases h1; cases e <;> first | (cases h2; done) | (cases h2; simp [PyData.eqv, deq]; done) | (simp only [pyD, Option.map_eq_some_iff] at h2; obtain ⟨ps, _, rfl⟩ := h2; simp [PyData.eqv, deq]; done)
  | .bl _, h1 => cases h1; cases e <;> first | (cases h2; done) | (cases h2; simp [PyData.eqv, deq]; done) | (simp only [pyD, Option.map_eq_some_iff] at h2; obtain ⟨ps, _, rfl⟩ := h2; simp [PyData.eqv, deq]; done)
  | .int _, h1 => cases h1; cases e <;> first | (cases h2; done) | (cases h2; simp [PyData.eqv, deq]; done) | (simp only [pyD, Option.map_eq_some_iff] at h2; obtain ⟨ps, _, rfl⟩ := h2; simp [PyData.eqv, deq]; done)
  | .str _, h1 => cases h1; cases e <;> first | (cases h2; done) | (cases h2; simp [PyData.eqv, deq]; done) | (simp only [pyD, Option.map_eq_some_iff] at h2; obtain ⟨ps, _, rfl⟩ := h2; simp [PyData.eqv, deq]; done)
  | .lst xs, h1 =>
    simp only [pyD, Option.map_eq_some_iff] at h1
    obtain ⟨ps, g1, rfl⟩ := h1
    match e, h2 with
    | .lst ys, h2 =>
      simp only [pyD, Option.map_eq_some_iff] at h2
      obtain ⟨qs, g2, rfl⟩ := h2
      simp only [PyData.eqv, deq]
      exact deqs_of g1 g2
    | .tup ys, h2 =>
      simp only [pyD, Option.map_eq_some_iff] at h2
      obtain ⟨qs, h2, rfl⟩ := h2
      simp [PyData.eqv, deq]
    | .non, h2 => cases h2; simp [PyData.eqv, deq]
    | .bl _, h2 => cases h2; simp [PyData.eqv, deq]
    | .int _, h2 => cases h2; simp [PyData.eqv, deq]
    | .str _, h2 => cases h2; simp [PyData.eqv, deq]
  | .tup xs, h1 =>
    simp only [pyD, Option.map_eq_some_iff] at h1
    obtain ⟨ps, g1, rfl⟩ := h1
    match e, h2 with
    | .tup ys, h2 =>
      simp only [pyD, Option.map_eq_some_iff] at h2
      obtain ⟨qs, g2, rfl⟩ := h2
      simp only [PyData.eqv, deq]
      exact deqs_of g1 g2
    | .lst ys, h2 =>
      simp only [pyD, Option.map_eq_some_iff] at h2
      obtain ⟨qs, h2, rfl⟩ := h2
      simp [PyData.eqv, deq]
    | .non, h2 => cases h2; simp [PyData.eqv, deq]
    | .bl _, h2 => cases h2; simp [PyData.eqv, deq]
    | .int _, h2 => cases h2; simp [PyData.eqv, deq]
    | .str _, h2 => cases h2; simp [PyData.eqv, deq]
theorem deqs_of : ∀ {ds es : List D} {ps qs : List PyData}, pyDs ds = some ps → pyDs es = some qs → PyData.eqvAll ps qs = deqs ds es
  | [], [], _, _, h1, h2 => by cases h1; cases h2; simp [PyData.eqvAll, deqs]
  | [], e :: es, _, _, h1, h2 => by
    cases h1
    simp only [pyDs, Option.bind_eq_some_iff, Option.map_eq_some_iff] at h2
    obtain ⟨q, _, qs, _, rfl⟩ := h2
    simp [PyData.eqvAll, deqs]
  | d :: ds, [], _, _, h1, h2 => by
    cases h2
    simp only [pyDs, Option.bind_eq_some_iff, Option.map_eq_some_iff] at h1
    obtain ⟨q, _, qs, _, rfl⟩ := h1
    simp [PyData.eqvAll, deqs]
  | d :: ds, e :: es, _, _, h1, h2 => by
    simp only [pyDs, Option.bind_eq_some_iff, Option.map_eq_some_iff] at h1 h2
    obtain ⟨p, h3, ps, h4, rfl⟩ := h1
    obtain ⟨q, h5, qs, h6, rfl⟩ := h2
    simp only [PyData.eqvAll, deqs]
    rw [deq_of h3 h5, deqs_of h4 h6]
end
def eqD (neg : Bool) (x y : D) : Option D := if isDat x = true ∧ isDat y = true ∧ min (dep x) (dep y) ≤ 60 then some (.bl (xr neg (deq x y))) else none
theorem eq_ok {K : PySem.W.Frag} {neg : Bool} : R2D K (rEqP neg K) (eqD neg) := fun {F H v u x y z Q} s bx by' hz k => by
  unfold eqD at hz
  split at hz
  · next h =>
    obtain ⟨p, h1, h2⟩ := py_of h.1
    obtain ⟨q, h3, h4⟩ := py_of h.2.1
    refine eq_ok0 (z := z) s bx by' ?_ k
    unfold eqP0
    rw [h1, h3, Option.bind_some, Option.bind_some, h2, h4, if_pos h.2.2, deq_of h1 h3]
    exact hz
  · cases hz
/-! ### in -/
def rInP (neg : Bool) (K : PySem.W.Frag) : R2 := fun x y H Q => ∃ d es, Dp K H x d ∧ (Dp K H y (.list es) ∨ Dp K H y (.tuple es)) ∧ d.plain = true ∧ PyData.plainAll es = true ∧ min (PyData.depthAll es) d.depth ≤ 60 ∧ Q (.bl (xr neg (es.any fun z => PyData.eqv z d))) H
section
variable {X : Cx}
theorem op_inP (hu : X.A.units + 64 < cLine) : OpR X (compareOp .In) (rInP false X.K) := by
  intro pins s σ H x y v u Q I rx ry h
  obtain ⟨d, es, hd, he | he, sd, se, hz, q⟩ := h
  · obtain ⟨as, r1⟩ := Dp.reads I d x v hd rx
    obtain ⟨bs, r2⟩ := Dp.reads I _ y u he ry
    exact SeqAt.in_list_data r2 r1 se sd (by omega) ⟨.bl _, H, I, rel_bl (by simp), q⟩
  · obtain ⟨as, r1⟩ := Dp.reads I d x v hd rx
    obtain ⟨bs, r2⟩ := Dp.reads I _ y u he ry
    exact SeqAt.in_tuple_data r2 r1 se sd (by omega) ⟨.bl _, H, I, rel_bl (by simp), q⟩
theorem op_niP (hu : X.A.units + 64 < cLine) : OpR X (compareOp .NotIn) (rInP true X.K) := by
  intro pins s σ H x y v u Q I rx ry h
  obtain ⟨d, es, hd, he | he, sd, se, hz, q⟩ := h
  · obtain ⟨as, r1⟩ := Dp.reads I d x v hd rx
    obtain ⟨bs, r2⟩ := Dp.reads I _ y u he ry
    exact SeqAt.notIn_list_data r2 r1 se sd (by omega) ⟨.bl _, H, I, rel_bl (by simp), q⟩
  · obtain ⟨as, r1⟩ := Dp.reads I d x v hd rx
    obtain ⟨bs, r2⟩ := Dp.reads I _ y u he ry
    exact SeqAt.notIn_tuple_data r2 r1 se sd (by omega) ⟨.bl _, H, I, rel_bl (by simp), q⟩
end
def inSq (neg : Bool) (x : D) (ds : List D) : Option D := if isDat x = true ∧ isDats ds = true ∧ min (deps ds) (dep x) ≤ 60 then some (.bl (xr neg (ds.any fun z => deq z x))) else none
theorem any_deq {x : D} {p : PyData} (hp : pyD x = some p) : ∀ {ds : List D} {ps : List PyData}, pyDs ds = some ps → (ps.any fun z => PyData.eqv z p) = ds.any fun z => deq z x
  | [], _, h => by cases h; rfl
  | d :: ds, _, h => by
    simp only [pyDs, Option.bind_eq_some_iff, Option.map_eq_some_iff] at h
    obtain ⟨q, h1, qs, h2, rfl⟩ := h
    rw [List.any_cons, List.any_cons, deq_of h1 hp, any_deq hp h2]
/-- a sign in a text -/
def inTx (neg : Bool) (x : D) (z : Str) : Option D := match x with
  | .str ⟨⟨[c]⟩⟩ => some (.bl (xr neg (decide (c ∈ z.cps.toList))))
  | _ => none
def inD (neg : Bool) (x : D) : D → Option D
  | .lst ds => inSq neg x ds
  | .tup ds => inSq neg x ds
  | .str z => inTx neg x z
  | _ => none
def rSign (neg : Bool) : R2 := fun x y H Q => ∃ (c : Nat) (z : Str), x = .str ⟨#[c]⟩ ∧ y = .str z ∧ Q (.bl (xr neg (decide (c ∈ z.cps.toList)))) H
def rInA (neg : Bool) (K : PySem.W.Frag) : R2 := fun x y H Q => rInP neg K x y H Q ∨ rSign neg x y H Q
theorem OpR.imp {X : Cx} {f : Value → Value → Sem Value} {r r' : R2} (h : OpR X f r) (i : ∀ x y H Q, r' x y H Q → r x y H Q) : OpR X f r' := fun pins s σ H x y v u Q I rx ry q => h pins s σ H x y v u Q I rx ry (i x y H Q q)
theorem op_inA {X : Cx} (hu : X.A.units + 64 < cLine) : OpR X (compareOp .In) (rInA false X.K) := (op_inP hu).or (OpR.imp op_in_sign fun x y H Q ⟨c, z, e1, e2, q⟩ => ⟨c, z, e1, e2, by exact q⟩)
theorem op_niA {X : Cx} (hu : X.A.units + 64 < cLine) : OpR X (compareOp .NotIn) (rInA true X.K) := (op_niP hu).or (OpR.imp op_notIn_sign fun x y H Q ⟨c, z, e1, e2, q⟩ => ⟨c, z, e1, e2, by exact q⟩)
theorem inSq_ok {K : PySem.W.Frag} {neg : Bool} {F H : Hp} {v u : V} {x z : D} {y : D} {ds : List D} {Q : VK} (s : Same F H) (bx : BV K F H v x) (by' : BV K F H u y) (hy : y = .lst ds ∨ y = .tup ds) (hz : inSq neg x ds = some z)
    (k : ∀ v' F' H', Al F H F' H' → Rep K F' v' z → Q v' H') : rInA neg K v u H Q := by
  unfold inSq at hz
  split at hz
  · next h =>
    obtain ⟨p, h1, h2⟩ := py_of h.1
    obtain ⟨ps, h3, h4⟩ := py_ofs h.2.1
    cases hz
    refine .inl ⟨p, ps, bx.dp s h1, ?_, py_plain h1, py_plains h3, by rw [h2, h4]; exact h.2.2, by rw [any_deq h1 h3]; exact k _ F H .no (.bl _)⟩
    rcases hy with rfl | rfl
    · exact .inl (by'.dp s (by simp only [pyD, h3, Option.map_some]))
    · exact .inr (by'.dp s (by simp only [pyD, h3, Option.map_some]))
  · cases hz
theorem in_ok {K : PySem.W.Frag} {neg : Bool} : R2D K (rInA neg K) (inD neg) := fun {F H v u x y z Q} s bx by' hz k => by
  cases y <;> simp only [inD, reduceCtorEq] at hz
  case lst ds => exact inSq_ok s bx by' (.inl rfl) hz k
  case tup ds => exact inSq_ok s bx by' (.inr rfl) hz k
  case str t =>
    unfold inTx at hz
    split at hz
    · next c => cases hz; exact .inr ⟨c, t, bx.str, by'.str, k _ F H .no (.bl _)⟩
    · cases hz
/-! ### [i] -/
def signs (z : Str) : List D := z.cps.toList.map fun c => .str ⟨#[c]⟩
def ixD : D → D → Option D
  | .lst ds, .int i => (ixN ds.length i).bind fun j => ds[j]?
  | .tup ds, .int i => (ixN ds.length i).bind fun j => ds[j]?
  | .str z, .int i => if z.length ≤ 100000 then (ixN z.cps.toList.length i).bind fun j => (signs z)[j]? else none
  | _, _ => none
theorem ix_at {K : PySem.W.Frag} {F : Hp} {vs : List V} {ds : List D} {i : Int} {z : D} (r : Reps K F vs ds) (h : ((ixN ds.length i).bind fun j => ds[j]?) = some z) : ∃ v, atI vs i = some v ∧ Rep K F v z := by
  simp only [Option.bind_eq_some_iff] at h
  obtain ⟨j, h1, h2⟩ := h
  obtain ⟨v, h3, h4⟩ := r.get' h2
  refine ⟨v, ?_, h4⟩
  unfold atI
  rw [r.length, h1]
  exact h3
theorem ix_ok {K : PySem.W.Frag} : R2D K (rIx K) ixD := fun {F H v u x y z Q} s bx by' hz k => by
  cases x <;> cases y <;> simp only [ixD, reduceCtorEq] at hz
  case lst.int ds i =>
    obtain ⟨p, vs, rfl, h1, r⟩ := bx.lst s
    obtain ⟨w, h2, h3⟩ := ix_at r hz
    exact .inl ⟨p, vs, i, w, rfl, by'.int, SqL.of h1, h2, k _ F H .no h3⟩
  case tup.int ds i =>
    obtain ⟨p, vs, rfl, h1, r⟩ := bx.tup s
    obtain ⟨w, h2, h3⟩ := ix_at r hz
    exact .inr (.inl ⟨p, vs, i, w, rfl, by'.int, h1, h2, k _ F H .no h3⟩)
  case str.int t i =>
    split at hz
    · next h =>
      simp only [Option.bind_eq_some_iff] at hz
      obtain ⟨j, h1, h2⟩ := hz
      simp only [signs, List.getElem?_map, Option.map_eq_some_iff] at h2
      obtain ⟨c, h2, rfl⟩ := h2
      exact .inr (.inr ⟨t, i, c, bx.str, by'.int, Nat.le_trans h big_line, by unfold atI; rw [h1]; exact h2, k _ F H .no (.str _)⟩)
    · cases hz
end Q

set_option Elab.async false
set_option linter.all false
set_option maxRecDepth 100000
set_option maxHeartbeats 4000000
/-! operators, built-ins: rules over data, any kinds -/
namespace Q
open PySem PySem.Spec PyProof.Rows L2
section
variable {X : Cx} {c : Ctx} {e a b d : Expr} {es : List Expr} {pos p : Pos} {pa pb pd ba bb bd : Bool} {wa wb wd we : WE c.R} {j : Nat}
theorem de_add (ha : DE X c pa ba a wa) (hb : DE X c pb bb b wb) (hs : ba = false ∨ pb = true := by first | exact .inl rfl | exact .inr rfl) : DE X c (pa && pb) false (.BinOp a .Add b pos) (wOp addD wa wb) :=
  de_op (op_addA (X := X)) (by rw [ha.kk]; exact add_ok) ha hb hs
theorem de_sub (ha : DE X c pa ba a wa) (hb : DE X c pb bb b wb) (hs : ba = false ∨ pb = true := by first | exact .inl rfl | exact .inr rfl) : DE X c (pa && pb) false (.BinOp a .Sub b pos) (wOp subD wa wb) := de_op (op_sub (X := X)) sub_ok ha hb hs
theorem de_mod (ha : DE X c pa ba a wa) (hb : DE X c pb bb b wb) (hs : ba = false ∨ pb = true := by first | exact .inl rfl | exact .inr rfl) : DE X c (pa && pb) false (.BinOp a .Mod b pos) (wOp modD wa wb) := de_op (op_mod (X := X)) mod_ok ha hb hs
/-- a comparison, as a value and as a test -/
structure CmpR (X : Cx) (c : Ctx) (op : CmpOp) (g : D → D → Option D) : Prop where
  ex : ∃ r, OpR X (compareOp op) r ∧ R2D c.K r g
theorem c_lt : CmpR X c .Lt (cmpD fun i j => decide (i < j)) := ⟨_, op_lt, cmp_ok⟩
theorem c_le : CmpR X c .LtE (cmpD fun i j => decide (i ≤ j)) := ⟨_, op_le, cmp_ok⟩
theorem c_gt : CmpR X c .Gt (cmpD fun i j => decide (j < i)) := ⟨_, op_gt, cmp_ok⟩
theorem c_ge : CmpR X c .GtE (cmpD fun i j => decide (j ≤ i)) := ⟨_, op_ge, cmp_ok⟩
theorem c_eq (hr : Room j X.A) (hk : X.K = c.K := by rfl) : CmpR X c .Eq (eqD false) := ⟨_, op_eqP hr.units, by rw [hk]; exact eq_ok⟩
theorem c_ne (hr : Room j X.A) (hk : X.K = c.K := by rfl) : CmpR X c .NotEq (eqD true) := ⟨_, op_neP hr.units, by rw [hk]; exact eq_ok⟩
theorem c_in (hr : Room j X.A) (hk : X.K = c.K := by rfl) : CmpR X c .In (inD false) := ⟨_, op_inA hr.units, by rw [hk]; exact in_ok⟩
theorem c_ni (hr : Room j X.A) (hk : X.K = c.K := by rfl) : CmpR X c .NotIn (inD true) := ⟨_, op_niA hr.units, by rw [hk]; exact in_ok⟩
def isNonD : D → Option Bool
  | .non => some true
  | .raw _ => none
  | _ => some false
def isD (neg : Bool) (x : D) : D → Option D
  | .non => (isNonD x).map fun k => .bl (xr neg (k))
  | _ => none
theorem isN_of {K : PySem.W.Frag} {F H : Hp} {v : V} {x : D} {k : Bool} (h : BV K F H v x) (e : isNonD x = some k) : decide (v = .non) = k := by
  rcases h with r | ⟨rfl, o⟩
  · cases r <;> cases e <;> simp
  · cases x <;> cases e <;> simp [OwnAt] at o ⊢
theorem is_ok {K : PySem.W.Frag} : R2D K (fun x y H Q => y = .non ∧ Q (.bl (decide (x = .non))) H) (isD false) := fun {F H v u x y z Q} s bx by' hz k => by
  cases y <;> simp only [isD, reduceCtorEq, Option.map_eq_some_iff] at hz
  obtain ⟨b, h1, rfl⟩ := hz
  refine ⟨by'.non, ?_⟩
  rw [isN_of bx h1]
  exact k _ F H .no (.bl _)
theorem isn_ok {K : PySem.W.Frag} : R2D K (fun x y H Q => y = .non ∧ Q (.bl (!decide (x = .non))) H) (isD true) := fun {F H v u x y z Q} s bx by' hz k => by
  cases y <;> simp only [isD, reduceCtorEq, Option.map_eq_some_iff] at hz
  obtain ⟨b, h1, rfl⟩ := hz
  refine ⟨by'.non, ?_⟩
  rw [isN_of bx h1]
  exact k _ F H .no (.bl _)
theorem c_is : CmpR X c .Is (isD false) := ⟨_, op_isN, is_ok⟩
theorem c_isn : CmpR X c .IsNot (isD true) := ⟨_, op_notN, isn_ok⟩
theorem de_cm {op : CmpOp} {g : D → D → Option D} (ho : CmpR X c op g) (ha : DE X c pa ba a wa) (hb : DE X c pb bb b wb) (hm : behindInMarks op b = false := by rfl)
    (hs : ba = false ∨ pb = true := by first | exact .inl rfl | exact .inr rfl) : DE X c (pa && pb) false (.Compare a [op] [b] pos) (wOp g wa wb) := by
  obtain ⟨r, h1, h2⟩ := ho.ex
  exact de_cmp h1 h2 ha hb hm hs
theorem dt_cm {op : CmpOp} {g : D → D → Option D} (ho : CmpR X c op g) (ha : DE X c pa ba a wa) (hb : DE X c pb bb b wb) (hm : behindInMarks op b = false := by rfl)
    (hs : ba = false ∨ pb = true := by first | exact .inl rfl | exact .inr rfl) : DT X c (pa && pb) (.Compare a [op] [b] pos) (wTest (wOp g wa wb)) := by
  obtain ⟨r, h1, h2⟩ := ho.ex
  exact dt_cmp h1 h2 ha hb hm hs
/-- a op b op' d -/
def wChain {R : Rgn} (g g' : D → D → Option D) (wa wb wd : WE R) : WE R := fun ρ K => wa ρ fun x ρ1 => wb ρ1 fun y ρ2 => ∃ z, g x y = some (.bl z) ∧ if z = true then wd ρ2 fun w ρ3 => ∃ z', g' y w = some z' ∧ K z' ρ3 else K (.bl false) ρ2
theorem chain_ok {r r' : R2} {g g' : D → D → Option D} (h1 : R2D c.K r g) (h2 : R2D c.K r' g') {σ : L2.St} {H : Hp} {Q : VK} (h : liftE c true false (wChain g g' wa wb wd) σ H Q) (hc : pa = true ∧ pb = true ∧ pd = true) :
    tChain r r' (liftE c pa ba wa) (liftE c pb bb wb) (liftE c pd bd wd) σ H Q := by
  obtain ⟨rfl, rfl, rfl⟩ := hc
  obtain ⟨ρ, F, O, Kk, S, w, k⟩ := h
  refine ⟨ρ, F, O, _, S, w, fun x ρ1 v F1 H1 hk S1 fs1 ko1 g1 r1 => ⟨ρ1, F1, O, _, S1, hk, fun y ρ2 u F2 H2 ⟨z, hz, kz⟩ S2 fs2 ko2 g2 r2 => ?_⟩⟩
  obtain ⟨e1, q1⟩ := g1 rfl
  obtain ⟨e2, q2⟩ := g2 rfl
  subst e2
  subst e1
  have c1 : VRep c.K F2 σ ρ2.sl v x ba := r1.carry fs2 (.inr rfl)
  refine h1 S2.sub (c1.bv S2) (r2.bv S2) hz fun v' F3 H3 al rp => ?_
  have S3 := S2.grow (al.grow S2.sub)
  cases rp
  refine ⟨z, rfl, ?_⟩
  cases z with
  | false =>
    rw [if_neg (by decide)] at kz ⊢
    exact k _ _ _ F3 H3 kz S3 (fs1.trans (fs2.trans (al.fs S2.sub))) (fun q hq => by rw [ko_al S2 al q hq, ko2 q hq, ko1 q hq]) (fun _ => ⟨rfl, q1.trans (q2.trans (al.grow S2.sub))⟩) (.bl false)
  | true =>
    rw [if_pos rfl] at kz ⊢
    refine ⟨ρ2, F3, O, _, S3, kz, fun w' ρ4 v4 F4 H4 ⟨z', hz', kz'⟩ S4 fs4 ko4 g4 r4 => ?_⟩
    obtain ⟨e4, q4⟩ := g4 rfl
    subst e4
    have c2 : VRep c.K F4 σ ρ4.sl u y bb := r2.carry ((al.fs S2.sub).trans fs4) (.inr rfl)
    refine h2 S4.sub (c2.bv S4) (r4.bv S4) hz' fun v5 F5 H5 al5 rp5 => ?_
    exact k _ _ _ F5 H5 kz' (S4.grow (al5.grow S4.sub)) (fs1.trans (fs2.trans ((al.fs S2.sub).trans (fs4.trans (al5.fs S4.sub))))) (fun q hq => by rw [ko_al S4 al5 q hq, ko4 q hq, ko_al S2 al q hq, ko2 q hq, ko1 q hq])
      (fun _ => ⟨rfl, q1.trans (q2.trans ((al.grow S2.sub).trans (q4.trans (al5.grow S4.sub))))⟩) rp5
theorem de_chain {op op' : CmpOp} {g g' : D → D → Option D} (ho : CmpR X c op g) (ho' : CmpR X c op' g') (ha : DE X c pa ba a wa) (hb : DE X c pb bb b wb) (hd : DE X c pd bd d wd)
    (hc : pa = true ∧ pb = true ∧ pd = true := by exact ⟨rfl, rfl, rfl⟩) (hm : lastMarks [op, op'] [b, d] = false := by with_unfolding_all rfl) : DE X c true false (.Compare a [op, op'] [b, d] pos) (wChain g g' wa wb wd) := by
  obtain ⟨r, h1, h2⟩ := ho.ex
  obtain ⟨r', h1', h2'⟩ := ho'.ex
  exact ⟨(pe_chain h1 h1' ha.pe hb.pe hd.pe hm).imp fun σ H Q h => chain_ok h2 h2' h hc, ha.kk⟩
theorem dt_chain {op op' : CmpOp} {g g' : D → D → Option D} (ho : CmpR X c op g) (ho' : CmpR X c op' g') (ha : DE X c pa ba a wa) (hb : DE X c pb bb b wb) (hd : DE X c pd bd d wd)
    (hc : pa = true ∧ pb = true ∧ pd = true := by exact ⟨rfl, rfl, rfl⟩) (hm : lastMarks [op, op'] [b, d] = false := by with_unfolding_all rfl) : DT X c true (.Compare a [op, op'] [b, d] pos) (wTest (wChain g g' wa wb wd)) := by
  obtain ⟨r, h1, h2⟩ := ho.ex
  obtain ⟨r', h1', h2'⟩ := ho'.ex
  exact ⟨(pt_chain h1 h1' ha.pe hb.pe hd.pe hm).imp fun σ H Q h => chain_ok h2 h2' (test_ok (ba := false) h) hc⟩
/-! ### subscripts, slices -/
theorem de_ixA (ha : DE X c pa ba a wa) (hb : DE X c pb bb b wb) (hx : PlainIx b := by exact fun _ _ => rfl) (hs : ba = false ∨ pb = true := by first | exact .inl rfl | exact .inr rfl) : DE X c (pa && pb) false (.Subscript a b pos) (wOp ixD wa wb) :=
  de_ix (ix_seq (X := X)) (by rw [ha.kk]; exact ix_ok) ha hb hx hs
def wPart {R : Rgn} (w : Option (WE R)) (ρ : DS R) (K : Option Int → Prop) : Prop := match w with
  | none => K none
  | some w => w ρ fun x ρ1 => ∃ i, x = .int i ∧ ρ1 = ρ ∧ K (some i)
structure DP (X : Cx) (c : Ctx) (e : Option Expr) (w : Option (WE c.R)) : Prop where
  po : PO X e (fun σ H Q => ∃ (ρ : DS c.R) (F : Hp) (O : List Addr) (Kk : Option Int → Prop), St c F O σ ρ H ∧ wPart w ρ Kk ∧ ∀ o F' H', Kk o → St c F' O σ ρ H' → Same F F' → (∀ a ∈ O, H' a = H a) → Grow F H F' H' → Q o H')
theorem dp_no : DP X c none none := ⟨⟨fun pins s σ H Q I ⟨ρ, F, O, Kk, S, w, k⟩ => po_none.run pins s σ H Q I (k none F H w S (Same.refl _) (fun _ _ => rfl) (Grow.refl S.sub))⟩⟩
theorem dp_at (h : DE X c true ba e we) : DP X c (some e) (some we) := ⟨⟨fun pins s σ H Q I ⟨ρ, F, O, Kk, S, w, k⟩ => (po_some h.pe).run pins s σ H Q I
  ⟨ρ, F, O, _, S, w, fun x ρ1 v F1 H1 ⟨i, e1, e2, hk⟩ S1 fs1 ko1 g1 r1 => by subst e1; subst e2; exact ⟨i, (r1.bv S1).int, k (some i) F1 H1 hk S1 fs1 ko1 (g1 rfl).2⟩⟩⟩⟩
def cutD (xs : List D) (lo hi : Option Int) : List D := (xs.drop (HT.sIx xs.length 0 lo)).take (HT.sIx xs.length xs.length hi - HT.sIx xs.length 0 lo)
def slD (lo hi : Option Int) : D → Option D
  | .lst ds => some (.lst (cutD ds lo hi))
  | .tup ds => some (.tup (cutD ds lo hi))
  | .str z => if z.length ≤ 100000 then some (.str (cutS z lo hi)) else none
  | _ => none
def wSl {R : Rgn} (we : WE R) (lo hi : Option (WE R)) : WE R := fun ρ K => we ρ fun x ρ1 => wPart lo ρ1 fun l => wPart hi ρ1 fun h => ∃ z, slD l h x = some z ∧ K z ρ1
theorem Reps.cut {K : PySem.W.Frag} {F : Hp} {vs : List V} {ds : List D} (r : Reps K F vs ds) (lo hi : Option Int) : Reps K F (cutV vs lo hi) (cutD ds lo hi) := by
  unfold cutV cutD
  rw [r.length]
  exact (r.drop _).take _
theorem rst {K : PySem.W.Frag} {F H : Hp} {v : V} {x z : D} {lo hi : Option Int} {Q : VK} (s : Same F H) (bx : BV K F H v x) (hz : slD lo hi x = some z) (k : ∀ v' F' H', Al F H F' H' → Rep K F' v' z → Q v' H') :
    (rSlL K v lo hi H Q ∨ rSlA K v lo hi H Q) ∨ rSlS v lo hi H Q := by
  cases x <;> simp only [slD, reduceCtorEq] at hz
  case lst ds =>
    cases hz
    obtain ⟨p, vs, rfl, h1, r⟩ := bx.lst s
    exact .inl (.inl ⟨p, vs, rfl, SqL.of h1, fun l hl => k _ _ _ (Al.one hl) (.lst upd_same ((r.cut lo hi).same (Same.upd_at s hl)))⟩)
  case tup ds =>
    cases hz
    have f1 := bx.rt
    obtain ⟨p, vs, rfl, h1, r⟩ := bx.tup s
    refine .inl (.inr ⟨p, vs, rfl, h1, fun ⟨e1, e2⟩ => ?_, fun _ l hl => k _ _ _ (Al.one hl) (.tup upd_same ((r.cut lo hi).same (Same.upd_at s hl)))⟩)
    have : cutD ds lo hi = ds := by
      unfold cutD
      rw [← r.length, e1, e2, List.drop_zero, Nat.sub_zero, r.length, List.take_length]
    rw [this] at k
    exact k _ F H .no f1
  case str t =>
    split at hz
    · next h => cases hz; exact .inr ⟨t, bx.str, Nat.le_trans h big_line, k _ F H .no (.str _)⟩
    · cases hz
theorem de_sl {lo hi : Option Expr} {wl wh : Option (WE c.R)} {p2 : Pos} (he : DE X c pa ba e we) (hl : DP X c lo wl) (hh : DP X c hi wh) : DE X c pa false (.Subscript e (.Slice lo hi none p2) pos) (wSl we wl wh) :=
  ⟨(pe_slice ((sl_list (X := X)).or sl_tupA |>.or sl_str) he.pe hl.po hh.po).imp fun σ H Q ⟨ρ, F, O, Kk, S, w, k⟩ => ⟨ρ, F, O, _, S, w, fun x ρ1 v F1 H1 hk S1 fs1 ko1 g1 r1 => ⟨ρ1, F1, O, _, S1, hk, fun l F2 H2 hk2 S2 fs2 ko2 g2 =>
    ⟨ρ1, F2, O, _, S2, hk2, fun h F3 H3 ⟨z, hz, hk3⟩ S3 fs3 ko3 g3 => by
      have c1 : VRep c.K F3 σ ρ1.sl v x ba := (r1.carry fs2 (.inr rfl)).carry fs3 (.inr rfl)
      rw [he.kk]
      exact rst S3.sub (c1.bv S3) hz fun v' F' H' al rp => k z ρ1 v' F' H' hk3 (S3.grow (al.grow S3.sub)) (fs1.trans (fs2.trans (fs3.trans (al.fs S3.sub)))) (fun q hq => by rw [ko_al S3 al q hq, ko3 q hq, ko2 q hq, ko1 q hq])
        (fun e => ⟨(g1 e).1, (g1 e).2.trans (g2.trans (g3.trans (al.grow S3.sub)))⟩) rp⟩⟩⟩, he.kk⟩
/-! ### len, list, tuple, all, any -/
def lenD : D → Option D
  | .lst ds => some (.int ds.length)
  | .tup ds => some (.int ds.length)
  | .str z => if z.length ≤ 100000 then some (.int z.length) else none
  | .dct ks _ => some (.int ks.length)
  | .dtt ks _ => some (.int ks.length)
  | _ => none
theorem Reps.len2 {K : PySem.W.Frag} {F : Hp} {α : Type} {kvs : List (α × V)} {ks ds : List D} {f : α → D} (n : ks = kvs.map fun p => f p.1) : ks.length = kvs.length := by rw [n, List.length_map]
def rLenA (K : PySem.W.Frag) : List V → Hp → VK → Prop := fun xs H Q => (((∃ p ys, xs = [.ref p] ∧ (SqL K H p ys ∨ SqT K H p ys) ∧ Q (.int ys.length) H) ∨ (∃ z, xs = [.str z] ∧ z.length ≤ sizeLine ∧ Q (.int z.length) H)) ∨
  (∃ a kvs, xs = [V.ref a] ∧ Rd H a (.dK kvs) ∧ Q (.int kvs.length) H)) ∨ ∃ a kvs, xs = [V.ref a] ∧ Rd H a (.dT kvs) ∧ Q (.int ((kvs.length : Nat) : Int)) H
theorem len_dK : CallR X (.builtin "len") (fun xs H Q => ∃ a kvs, xs = [V.ref a] ∧ Rd H a (.dK kvs) ∧ Q (.int kvs.length) H) := by
  intro pins s σ H xs us Q I r ⟨a, kvs, e, ha, q⟩
  subst e
  obtain ⟨u, e, ru⟩ := vals1 r
  subst e
  cases ru
  exact d_len I ha fun t s' J => ⟨.int kvs.length, H, J, ⟨t, rfl⟩, q⟩
theorem len_dT : CallR X (.builtin "len") (fun xs H Q => ∃ a kvs, xs = [V.ref a] ∧ Rd H a (.dT kvs) ∧ Q (.int ((kvs.length : Nat) : Int)) H) := by
  intro pins s σ H xs us Q I r ⟨a, kvs, e, ha, q⟩
  subst e
  obtain ⟨u, e, ru⟩ := vals1 r
  subst e
  cases ru
  obtain ⟨z, hd, ys, rel, dd⟩ := dt_rd I.hok ha
  have len : kvs.length = ys.length := Paired.length rel
  refine call_len_dictH hd dd (by rw [sizeLine_eq] at z; omega) ?_
  rw [← len]
  exact ⟨.int ((kvs.length : Nat) : Int), H, I.tok _, ⟨_, rfl⟩, q⟩
theorem call_lenA : CallR X (.builtin "len") (rLenA X.K) := ((call_len_seq.or call_len_str).or len_dK).or len_dT
theorem len_ok {K : PySem.W.Frag} : R1D K (rLenA K) lenD := fun {F H v x z Q} s bx hz k => by
  cases x <;> simp only [lenD, reduceCtorEq] at hz
  case lst ds =>
    cases hz
    obtain ⟨p, vs, rfl, h1, r⟩ := bx.lst s
    exact .inl (.inl (.inl ⟨p, vs, rfl, .inl (SqL.of h1), by rw [r.length]; exact k _ F H .no (.int _)⟩))
  case tup ds =>
    cases hz
    obtain ⟨p, vs, rfl, h1, r⟩ := bx.tup s
    exact .inl (.inl (.inl ⟨p, vs, rfl, .inr h1, by rw [r.length]; exact k _ F H .no (.int _)⟩))
  case str t =>
    split at hz
    · next h => cases hz; exact .inl (.inl (.inr ⟨t, by rw [bx.str], Nat.le_trans h big_line, k _ F H .no (.int _)⟩))
    · cases hz
  case dct ks ds =>
    cases hz
    obtain ⟨p, kvs, rfl, h1, n, r⟩ := bx.dct s
    exact .inl (.inr ⟨p, kvs, rfl, h1, by rw [← Reps.len2 (K := K) (F := F) (ds := ds) n]; exact k _ F H .no (.int _)⟩)
  case dtt ks ds =>
    cases hz
    obtain ⟨p, kvs, rfl, h1, n, r⟩ := bx.dtt s
    exact .inr ⟨p, kvs, rfl, h1, by rw [← Reps.len2 (K := K) (F := F) (ds := ds) n]; exact k _ F H .no (.int _)⟩
theorem de_len (hm : X.mg "len" = none) (ha : DE X c pa ba e we) (hg : Gl X "len" := by rfl)
    (he : starEach [e] X.env = (false, eval e X.env) :: starEach [] X.env := by rfl) (hpl : (backTo pos (starEach [] X.env)).any (·.1) = false := by rfl) : DE X c pa false (.Call (.Name "len" p) [e] [] pos) (wUn lenD we) :=
  de_c1 (call_lenA (X := X)) (by rw [ha.kk]; exact len_ok) hm ha hg (by decide +kernel) (by decide) (by decide) he hpl
def tupleD : D → Option D
  | .lst ds => some (.tup ds)
  | .tup ds => some (.tup ds)
  | _ => none
theorem tuple_ok {K : PySem.W.Frag} : R1D K (fun xs H Q => ∃ p ys, xs = [.ref p] ∧ ((SqL K H p ys ∧ ∀ l, H l = none → Q (.ref l) (upd H l (.tup ys))) ∨ (SqT K H p ys ∧ Q (.ref p) H))) tupleD := fun {F H v x z Q} s bx hz k => by
  cases x <;> simp only [tupleD, reduceCtorEq] at hz
  case lst ds =>
    cases hz
    obtain ⟨p, vs, rfl, h1, r⟩ := bx.lst s
    exact ⟨p, vs, rfl, .inl ⟨SqL.of h1, fun l hl => k _ _ _ (Al.one hl) (.tup upd_same (r.same (Same.upd_at s hl)))⟩⟩
  case tup ds =>
    cases hz
    have f1 := bx.rt
    obtain ⟨p, vs, rfl, h1, r⟩ := bx.tup s
    exact ⟨p, vs, rfl, .inr ⟨h1, k _ F H .no f1⟩⟩
theorem de_tuple (hm : X.mg "tuple" = none) (ha : DE X c pa ba e we) (hg : Gl X "tuple" := by rfl)
    (he : starEach [e] X.env = (false, eval e X.env) :: starEach [] X.env := by rfl) (hpl : (backTo pos (starEach [] X.env)).any (·.1) = false := by rfl) : DE X c pa false (.Call (.Name "tuple" p) [e] [] pos) (wUn tupleD we) :=
  de_t1 (call_tuple_of (X := X)) (by rw [ha.kk]; exact tuple_ok) hm ha hg (by decide +kernel) (by decide) (by decide) he hpl
def listD : D → Option D
  | .lst ds => some (.lst ds)
  | .tup ds => some (.lst ds)
  | _ => none
theorem list_ok {K : PySem.W.Frag} : R1F K (fun xs H Q => ∃ p ys, xs = [.ref p] ∧ (SqL K H p ys ∨ SqT K H p ys) ∧ ∀ l, H l = none → Q (.ref l) (upd H l (.lst ys))) listD := fun {F H v x z Q} s bx hz k => by
  cases x <;> simp only [listD, reduceCtorEq] at hz
  case lst ds =>
    cases hz
    obtain ⟨p, vs, rfl, h1, r⟩ := bx.lst s
    exact ⟨p, vs, rfl, .inl (SqL.of h1), fun l hl => k l (.lst vs) hl r⟩
  case tup ds =>
    cases hz
    obtain ⟨p, vs, rfl, h1, r⟩ := bx.tup s
    exact ⟨p, vs, rfl, .inr h1, fun l hl => k l (.lst vs) hl r⟩
theorem fe_list (hm : X.mg "list" = none) (ha : DE X c pa ba e we) (hg : Gl X "list" := by rfl)
    (he : starEach [e] X.env = (false, eval e X.env) :: starEach [] X.env := by rfl) (hpl : (backTo pos (starEach [] X.env)).any (·.1) = false := by rfl) : FE X c pa (.Call (.Name "list" p) [e] [] pos) (wUn listD we) :=
  fe_t1 (call_list_of (X := X)) (by rw [ha.kk]; exact list_ok) hm ha hg (by decide +kernel) (by decide) (by decide) he hpl
def blsD : List D → Option (List Bool)
  | [] => some []
  | .bl b :: ds => (blsD ds).map fun bs => b :: bs
  | _ :: _ => none
theorem bls_of {K : PySem.W.Frag} {F : Hp} : ∀ {vs : List V} {ds : List D} {bs : List Bool}, Reps K F vs ds → blsD ds = some bs → vs = bs.map V.bl
  | _, _, _, .nil, h => by cases h; rfl
  | _, .bl b :: _, _, .cons r t, h => by
    simp only [blsD, Option.map_eq_some_iff] at h
    obtain ⟨bs, h1, rfl⟩ := h
    cases r
    rw [bls_of t h1]; rfl
  | _, .non :: _, _, .cons _ _, h => by cases h
  | _, .int _ :: _, _, .cons _ _, h => by cases h
  | _, .str _ :: _, _, .cons _ _, h => by cases h
  | _, .lst _ :: _, _, .cons _ _, h => by cases h
  | _, .tup _ :: _, _, .cons _ _, h => by cases h
  | _, .dct _ _ :: _, _, .cons _ _, h => by cases h
  | _, .dtt _ _ :: _, _, .cons _ _, h => by cases h
  | _, .dmx _ _ _ :: _, _, .cons _ _, h => by cases h
  | _, .ins _ _ _ :: _, _, .cons _ _, h => by cases h
  | _, .raw _ :: _, _, .cons _ _, h => by cases h
def allD : D → Option D
  | .lst ds => (blsD ds).map fun bs => .bl (bs.all id)
  | _ => none
def anyD : D → Option D
  | .lst ds => (blsD ds).map fun bs => .bl (bs.any id)
  | _ => none
theorem all_ok {K : PySem.W.Frag} : R1D K (rAll K) allD := fun {F H v x z Q} s bx hz k => by
  cases x <;> simp only [allD, reduceCtorEq, Option.map_eq_some_iff] at hz
  obtain ⟨bs, h2, rfl⟩ := hz
  obtain ⟨p, vs, rfl, h1, r⟩ := bx.lst s
  have e := bls_of r h2
  subst e
  exact ⟨p, bs, rfl, SqL.of h1, k _ F H .no (.bl _)⟩
theorem any_ok {K : PySem.W.Frag} : R1D K (rAny K) anyD := fun {F H v x z Q} s bx hz k => by
  cases x <;> simp only [anyD, reduceCtorEq, Option.map_eq_some_iff] at hz
  obtain ⟨bs, h2, rfl⟩ := hz
  obtain ⟨p, vs, rfl, h1, r⟩ := bx.lst s
  have e := bls_of r h2
  subst e
  exact ⟨p, bs, rfl, SqL.of h1, k _ F H .no (.bl _)⟩
theorem de_all (hm : X.mg "all" = none) (ha : DE X c pa ba e we) (hc : X.calm = true := by rfl) (hg : Gl X "all" := by rfl)
    (he : starEach [e] X.env = (false, eval e X.env) :: starEach [] X.env := by rfl) (hpl : (backTo pos (starEach [] X.env)).any (·.1) = false := by rfl) : DE X c pa false (.Call (.Name "all" p) [e] [] pos) (wUn allD we) :=
  de_c1 (cr_all (X := X) hc) (by rw [ha.kk]; exact all_ok) hm ha hg (by decide +kernel) (by decide) (by decide) he hpl
theorem de_any (hm : X.mg "any" = none) (ha : DE X c pa ba e we) (hc : X.calm = true := by rfl) (hg : Gl X "any" := by rfl)
    (he : starEach [e] X.env = (false, eval e X.env) :: starEach [] X.env := by rfl) (hpl : (backTo pos (starEach [] X.env)).any (·.1) = false := by rfl) : DE X c pa false (.Call (.Name "any" p) [e] [] pos) (wUn anyD we) :=
  de_c1 (cr_any (X := X) hc) (by rw [ha.kk]; exact any_ok) hm ha hg (by decide +kernel) (by decide) (by decide) he hpl
/-! ### isinstance with built-in types -/
def tyD : D → Option String
  | .non => some "NoneType"
  | .bl _ => some "bool"
  | .int _ => some "int"
  | .str _ => some "str"
  | .lst _ => some "list"
  | .tup _ => some "tuple"
  | .dct _ _ => some "dict"
  | _ => none
theorem ty_of {K : PySem.W.Frag} {F H : Hp} {v : V} {x : D} {t : String} (s : Same F H) (h : BV K F H v x) (e : tyD x = some t) : TyX K H v (.type t) := by
  cases x <;> cases e
  case non => rw [h.non]; exact .base .non
  case bl b => rw [h.bl]; exact .base (.bl b)
  case int b => rw [h.int]; exact .base (.int b)
  case str b => rw [h.str]; exact .base (.str b)
  case lst ds => obtain ⟨p, vs, rfl, h1, r⟩ := h.lst s; exact .base (.lst h1)
  case tup ds =>
    obtain ⟨p, vs, rfl, h1, r⟩ := h.tup s
    rcases h1 with (h1 | ⟨o, h1⟩) | h1
    · exact .base (.tup h1)
    · exact .fTuple h1
    · obtain ⟨o, its, n, e, cc, _⟩ := h1
      exact .kTuple e cc
  case dct ks ds =>
    obtain ⟨p, kvs, rfl, h1, n, r⟩ := h.dct s
    rcases h1 with h1 | ⟨o, h1⟩
    · exact .base (.dK h1)
    · exact .fDict h1
end
end Q

set_option Elab.async false
set_option linter.all false
set_option maxRecDepth 100000
set_option maxHeartbeats 4000000
/-! isinstance, names of the module, targets, what is gone through, comprehensions -/
namespace Q
open PySem PySem.Spec PyProof.Rows L2
/-! ### isinstance -/
inductive Ty where | non | bool | int | str | list | tuple | dict
deriving DecidableEq
def Ty.nm : Ty → String
  | .non => "NoneType" | .bool => "bool" | .int => "int" | .str => "str" | .list => "list" | .tuple => "tuple" | .dict => "dict"
def kD2 : D → Option Ty
  | .non => some .non
  | .bl _ => some .bool
  | .int _ => some .int
  | .str _ => some .str
  | .lst _ => some .list
  | .tup _ => some .tuple
  | .dct _ _ => some .dict
  | _ => none
def isTy : Ty → Ty → Bool
  | .bool, .int => true
  | a, b => decide (a = b)
def isaD (ns : List Ty) (x : D) : Option D := (kD2 x).map fun t => .bl (ns.any (isTy t))
theorem kit_tt {K : PySem.W.Frag} (a b : Ty) : PySem.W.kitOne K (.type a.nm) (.type b.nm) = some (isTy a b) := kit_ty (by cases a <;> cases b <;> decide +kernel)
theorem kit_ts {K : PySem.W.Frag} (a : Ty) : ∀ bs : List Ty, PySem.W.kitAny K (.type a.nm) (bs.map fun b : Ty => Value.type b.nm) = some (bs.any (isTy a))
  | [] => rfl
  | b :: bs => by
    show (match PySem.W.kitOne K (.type a.nm) (.type b.nm) with | some true => some true | some false => PySem.W.kitAny K (.type a.nm) (bs.map fun b : Ty => Value.type b.nm) | none => none) = _
    rw [kit_tt, kit_ts a bs, List.any_cons]
    cases isTy a b <;> rfl
theorem ty_of2 {K : PySem.W.Frag} {F H : Hp} {v : V} {x : D} {t : Ty} (s : Same F H) (h : BV K F H v x) (e : kD2 x = some t) : TyX K H v (.type t.nm) := by
  cases x <;> cases e <;> exact ty_of s h rfl
section
variable {X : Cx} {c : Ctx} {e a b d : Expr} {es : List Expr} {pos p p2 p3 : Pos} {pa pb pd ba bb bd : Bool} {wa wb wd we : WE c.R} {j : Nat}
/-- the name of a built-in type -/
structure TyN (X : Cx) (x : Str) (t : Ty) : Prop where
  g : Gl X x
  m : X.mg x = none
  v : bootBuiltins x = some (.type t.nm)
  n : x ≠ "__name__" := by decide
  d : (x == ("__debug__" : Str)) = false := by decide
theorem TyN.pe {x : Str} {t : Ty} (h : TyN X x t) : PE X (.Name x pos) (tC (.ty t.nm)) := pe_bltn h.g h.m h.v rfl h.n h.d
theorem isa_ok {F H : Hp} {v : V} {x z : D} {t : Ty} {Q : VK} (s : Same F H) (bx : BV c.K F H v x) (hz : isaD [t] x = some z) (k : Rep c.K F (.bl (isTy ((kD2 x).getD .non) t)) z → Q (.bl (isTy ((kD2 x).getD .non) t)) H) : rIsi c.K [v, .ty t.nm] H Q := by
  simp only [isaD, Option.map_eq_some_iff] at hz
  obtain ⟨u, h1, rfl⟩ := hz
  have k := k (by rw [h1]; simp only [Option.getD_some, List.any_cons, List.any_nil, Bool.or_false]; exact .bl _)
  rw [h1] at k
  exact ⟨v, _, _, _, _, rfl, .ty _, ty_of2 s bx h1, kit_tt u t, k⟩
theorem de_is1 {x : Str} {t : Ty} (hm : X.mg "isinstance" = none) (ht : TyN X x t) (he : DE X c pa ba e we) (hg : Gl X "isinstance" := by rfl)
    (he1 : starEach [e, .Name x p2] X.env = (false, eval e X.env) :: starEach [.Name x p2] X.env := by rfl) (he2 : starEach [.Name x p2] X.env = (false, eval (.Name x p2) X.env) :: starEach [] X.env := by rfl)
    (hpl : (backTo pos (starEach [.Name x p2] X.env)).any (·.1) = false := by rfl) : DE X c pa false (.Call (.Name "isinstance" p) [e, .Name x p2] [] pos) (wUn (isaD [t]) we) :=
  ⟨(pe_callB (call_isi (X := X)) hg hm (by decide +kernel) (pa_cons he.pe (pa_cons ht.pe pa_nil he2) he1) (by decide) (by decide) he1 hpl).imp fun σ H Q ⟨ρ, F, O, Kk, S, w, k⟩ => ⟨ρ, F, O, _, S, w, fun x ρ1 v F1 H1 ⟨z, hz, hk⟩ S1 fs1 ko1 g1 r1 => by
    rw [he.kk]
    exact isa_ok S1.sub (r1.bv S1) hz fun rp => k z ρ1 _ F1 H1 hk S1 fs1 ko1 g1 rp⟩, he.kk⟩
/-- several types -/
structure TyNs (X : Cx) (es : List Expr) (ns : List Ty) : Prop where
  pa : PA X es (fun _ H Q => Q (ns.map fun t => V.ty t.nm) H)
theorem tns_nil : TyNs X [] [] := ⟨pa_nil⟩
theorem tns_cons {x : Str} {t : Ty} {ns : List Ty} (ht : TyN X x t) (hs : TyNs X es ns) (he : starEach (.Name x p :: es) X.env = (false, eval (.Name x p) X.env) :: starEach es X.env := by rfl) : TyNs X (.Name x p :: es) (t :: ns) :=
  ⟨pa_cons ht.pe hs.pa he⟩
theorem clsV_ns : ∀ ns : List Ty, Paired ClsV (ns.map fun t => V.ty t.nm) (ns.map fun t => Value.type t.nm)
  | [] => .nil
  | t :: ns => .cons (.ty _) (clsV_ns ns)
theorem de_isN {ns : List Ty} {kk} (hm : X.mg "isinstance" = none) (ht : TyNs X es ns) (he : DE X c pa ba e we) (hl : ns.length ≤ 10 := by decide) (hg : Gl X "isinstance" := by rfl)
    (he1 : starEach [e, .Tuple es kk p2] X.env = (false, eval e X.env) :: starEach [.Tuple es kk p2] X.env := by rfl) (he2 : starEach [.Tuple es kk p2] X.env = (false, eval (.Tuple es kk p2) X.env) :: starEach [] X.env := by rfl)
    (hpl : (backTo pos (starEach [.Tuple es kk p2] X.env)).any (·.1) = false := by rfl) : DE X c pa false (.Call (.Name "isinstance" p) [e, .Tuple es kk p2] [] pos) (wUn (isaD ns) we) :=
  ⟨(pe_callB (call_isiT (X := X)) hg hm (by decide +kernel) (pa_cons he.pe (pa_cons (pe_tup ht.pa) pa_nil he2) he1) (by decide) (by decide) he1 hpl).imp fun σ H Q ⟨ρ, F, O, Kk, S, w, k⟩ => ⟨ρ, F, O, _, S, w, fun x ρ1 v F1 H1 ⟨z, hz, hk⟩ S1 fs1 ko1 g1 r1 => by
    refine ⟨by rw [List.length_map]; exact Nat.le_trans hl (Nat.le_trans (by decide) big_line), fun q hq => ?_⟩
    simp only [isaD, Option.map_eq_some_iff] at hz
    obtain ⟨u, h1, rfl⟩ := hz
    have al : Al F1 H1 (upd F1 q (.tup (ns.map fun t => V.ty t.nm))) (upd H1 q (.tup (ns.map fun t => V.ty t.nm))) := Al.one hq
    have gr := al.grow S1.sub
    have S2 := S1.grow gr
    rw [he.kk]
    exact ⟨v, q, _, _, _, _, rfl, upd_same, clsV_ns ns, ty_of2 S2.sub ((r1.grow gr.fs).bv S2) h1, kit_ts u ns, k _ ρ1 _ _ _ hk S2 (fs1.trans gr.fs) (fun x hx => by rw [ko_upd S1 hq x hx]; exact ko1 x hx) (fun e => ⟨(g1 e).1, (g1 e).2.trans gr⟩) (.bl _)⟩⟩, he.kk⟩
/-! ### names of the module -/
structure GlD (K : PySem.W.Frag) (mg : Str → Option Value) (x : Str) (d : D) : Prop where
  ex : ∃ u v, mg x = some u ∧ L2.RelV v u ∧ ∀ F, Rep K F v d
theorem de_g {x : Str} {d : D} (h : GlD c.K X.mg x d) (hk : X.K = c.K := by rfl) (hg : Gl X x := by rfl) (hd : (x == ("__debug__" : Str)) = false := by decide) : DE X c true false (.Name x pos) (wC c.R d) := by
  obtain ⟨u, v, h1, h2, h3⟩ := h.ex
  exact de_of_c (pe_glob hg h1 h2 hd) h3 hk
end
/-! ### targets -/
def Wp (ts : List Nat) (σ σ' : L2.St) : Prop := ∀ vs : List Nat, (∀ i ∈ ts, i ∈ vs) → wipe σ' vs = wipe σ vs
theorem wipe_out' {σ : L2.St} {i : Nat} {v : Option V} : ∀ {vs : List Nat}, i ∈ vs → wipe (σ.set i v) vs = wipe σ vs
  | [], h => by cases h
  | j :: vs, h => by
    by_cases e : i = j
    · subst e
      by_cases m : i ∈ vs
      · show (wipe (σ.set i v) vs).set i none = (wipe σ vs).set i none
        rw [wipe_out' m]
      · apply List.ext_getElem?
        intro k
        show ((wipe (σ.set i v) vs).set i none)[k]? = ((wipe σ vs).set i none)[k]?
        rw [set_get, set_get, wipe_length, wipe_length, List.length_set]
        by_cases q : i = k
        · rw [if_pos q, if_pos q]
        · rw [if_neg q, if_neg q]
          by_cases m : k ∈ vs
          · clear h
            have : ∀ us : List Nat, k ∈ us → ∀ τ τ' : L2.St, τ.length = τ'.length → (wipe τ us)[k]? = (wipe τ' us)[k]? := by
              intro us
              induction us with
              | nil => intro h; cases h
              | cons u us ih =>
                intro h τ τ' hl
                show ((wipe τ us).set u none)[k]? = ((wipe τ' us).set u none)[k]?
                rw [set_get, set_get, wipe_length, wipe_length, hl]
                by_cases z : u = k
                · rw [if_pos z, if_pos z]
                · rw [if_neg z, if_neg z]
                  rcases List.mem_cons.mp h with m | m
                  · exact absurd m.symm z
                  · exact ih m τ τ' hl
            exact this vs m _ _ (by rw [List.length_set])
          · rw [wipe_out m, wipe_out m, set_get, if_neg q]
    · have m : i ∈ vs := (List.mem_cons.mp h).resolve_left e
      show (wipe (σ.set i v) vs).set j none = (wipe σ vs).set j none
      rw [wipe_out' m]
abbrev WG (R : Rgn) := D → DS R → (DS R → Prop) → Prop
abbrev WGs (R : Rgn) := List D → DS R → (DS R → Prop) → Prop
def liftG (c : Ctx) (ts : List Nat) (g : WG c.R) : TG := fun v σ H Q => ∃ (ρ : DS c.R) (F : Hp) (O : List Addr) (Kk : DS c.R → Prop) (d : D), St c F O σ ρ H ∧ Rep c.K F v d ∧ g d ρ Kk ∧ ∀ ρ' σ', Kk ρ' → St c F O σ' ρ' H → Wp ts σ σ' → Q σ' H
def liftGs (c : Ctx) (ts : List Nat) (g : WGs c.R) : TGs := fun vs σ H Q => ∃ (ρ : DS c.R) (F : Hp) (O : List Addr) (Kk : DS c.R → Prop) (ds : List D), St c F O σ ρ H ∧ Reps c.K F vs ds ∧ g ds ρ Kk ∧ ∀ ρ' σ', Kk ρ' → St c F O σ' ρ' H → Wp ts σ σ' → Q σ' H
theorem _root_.L2.PG.imp {X : Cx} {e : Expr} {t u : TG} (h : PG X e t) (i : ∀ v σ H Q, u v σ H Q → t v σ H Q) : PG X e u := ⟨fun pins s σ H v w Q I r q => h.run pins s σ H v w Q I r (i v σ H Q q)⟩
theorem _root_.L2.PGs.imp {X : Cx} {e : List Expr} {t u : TGs} (h : PGs X e t) (i : ∀ v σ H Q, u v σ H Q → t v σ H Q) : PGs X e u := ⟨fun pins s σ H v w Q I r q => h.run pins s σ H v w Q I r (i v σ H Q q)⟩
theorem _root_.L2.PI.imp {X : Cx} {tg e : Expr} {t u : TI} (h : PI X tg e t) (i : ∀ σ H Q, u σ H Q → t σ H Q) : PI X tg e u := ⟨fun pins s σ H Q I q => h.run pins s σ H Q I (i σ H Q q)⟩
theorem _root_.L2.PI.or {X : Cx} {tg e : Expr} {t u : TI} (h : PI X tg e t) (k : PI X tg e u) : PI X tg e (fun σ H R => t σ H R ∨ u σ H R) := ⟨fun pins s σ H Q I q => q.elim (h.run pins s σ H Q I) (k.run pins s σ H Q I)⟩
structure DG (X : Cx) (c : Ctx) (e : Expr) (ts : List Nat) (g : WG c.R) : Prop where
  pg : PG X e (liftG c ts g)
structure DGs (X : Cx) (c : Ctx) (es : List Expr) (ts : List Nat) (g : WGs c.R) : Prop where
  pgs : PGs X es (liftGs c ts g)
section
variable {X : Cx} {c : Ctx} {e : Expr} {es : List Expr} {pos p : Pos} {ts us : List Nat} {g : WG c.R} {gs : WGs c.R}
def gNm {R : Rgn} (i : Nat) : WG R := fun d ρ K => K (ρ.put i (some (.fz d)))
theorem dg_name {x : Str} {i : Nat} (hN : X.N.Nodup) (hi : X.N[i]? = some x := by rfl) (hx : Loc X.env.scope x := by first | exact Or.inl rfl | exact Or.inr rfl)
    (hf : X.fn x = true ∨ X.env.scope.names.lookup x = some .local := by first | exact .inl rfl | exact .inr rfl | assumption) : DG X c (.Name x pos) [i] (gNm i) :=
  ⟨(pg_name hN hi hx hf).imp fun v σ H Q ⟨ρ, F, O, Kk, d, S, r, w, k⟩ => k _ _ w (S.setF r i) fun vs h => wipe_out' (h i (by simp))⟩
def gNl {R : Rgn} : WGs R := fun ds ρ K => ds = [] ∧ K ρ
def gCs {R : Rgn} (g : WG R) (gs : WGs R) : WGs R := fun ds ρ K => ∃ d es, ds = d :: es ∧ g d ρ fun ρ1 => gs es ρ1 K
theorem dgs_nil : DGs X c [] [] gNl := ⟨pgs_nil.imp fun vs σ H Q ⟨ρ, F, O, Kk, ds, S, r, ⟨e, w⟩, k⟩ => by subst e; cases r; exact ⟨rfl, k ρ σ w S fun _ _ => rfl⟩⟩
theorem dgs_cons (h1 : DG X c e ts g) (h2 : DGs X c es us gs) (hs : (assignEach (e :: es) X.env).map (·.2) = assign e X.env :: (assignEach es X.env).map (·.2) := by rfl) : DGs X c (e :: es) (ts ++ us) (gCs g gs) :=
  ⟨(pgs_cons h1.pg h2.pgs hs).imp fun vs σ H Q ⟨ρ, F, O, Kk, ds, S, r, ⟨d, ds', e, w⟩, k⟩ => by
    subst e
    cases r with
    | cons r1 r2 =>
      exact ⟨_, _, rfl, ρ, F, O, _, d, S, r1, w, fun ρ1 σ1 hk S1 w1 => ⟨ρ1, F, O, Kk, ds', S1, r2, hk, fun ρ2 σ2 hk2 S2 w2 => k ρ2 σ2 hk2 S2 fun vs h => by
        rw [w2 vs fun i m => h i (List.mem_append.mpr (.inr m)), w1 vs fun i m => h i (List.mem_append.mpr (.inl m))]⟩⟩⟩
def gTp {R : Rgn} (n : Nat) (gs : WGs R) : WG R := fun d ρ K => ∃ ds, d = .tup ds ∧ ds.length = n ∧ gs ds ρ K
theorem dg_tup {kk : Nat} {n : Nat} (h : DGs X c es us gs) (hk : X.K = c.K := by rfl) (hc : X.calm = true := by rfl) (hn : (assignEach es X.env).length = n := by rfl) (hst : (assignEach es X.env).findIdx? (·.1) = none := by rfl) : DG X c (.Tuple es kk pos) us (gTp n gs) :=
  ⟨(pg_tup hc h.pgs hn hst).imp fun v σ H Q ⟨ρ, F, O, Kk, d, S, r, ⟨ds, e, hl, w⟩, k⟩ => by
    subst e
    cases r with
    | tup h1 r1 => rw [hk]; exact ⟨_, _, rfl, SqT.of (S.sub _ _ h1), by rw [r1.length]; exact hl, ρ, F, O, Kk, ds, S, r1, w, k⟩⟩
/-- target = e -/
def sAsg {R : Rgn} (we : WE R) (g : WG R) : WS R := fun D ρ => we ρ fun d ρ1 => g d ρ1 D.nx
theorem ds_asg {fr pa : Bool} {we : WE c.R} {tg : Expr} (he : DE X c pa false e we) (hg : DG X c tg ts g) (hs : swapsWithSole [tg] e pos.line X.env = pure false := by rfl) (hw : swappedStores [tg] e X.env = pure none := by rfl) (h1 : (assignEach [tg] X.env).map (·.2) = [assign tg X.env] := by rfl) : DS1 X c fr (.Assign [tg] e pos) (sAsg we g) :=
  ⟨(ps_asg he.pe hg.pg hs hw h1).imp fun E σ H ⟨ρ, F, Dk, S, w, k1, k2, k3, k4⟩ => ⟨ρ, F, [], _, S, w, fun d ρ1 v F1 H1 hk S1 fs1 ko1 g1 r1 => ⟨ρ1, F1, [], _, d, S1, r1, hk, fun ρ2 σ2 hk2 S2 _ => k1 ρ2 σ2 F1 H1 hk2 S2 fs1⟩⟩⟩
end
end Q

set_option Elab.async false
set_option linter.all false
set_option maxRecDepth 100000
set_option maxHeartbeats 4000000
/-! going through things; comprehensions -/
namespace Q
open PySem PySem.Spec PyProof.Rows L2
/-- J hands out the data ds, one after another, as long as what was data stays -/
structure Walks (K : PySem.W.Frag) (F0 : Hp) (J : It) (ds : List D) : Prop where
  go : ∀ F H i, Same F0 F → SubT F H → i < ds.length → J.go i H ∧ ∀ x H', J.yld i H x H' → ∃ d F', ds[i]? = some d ∧ Al F H F' H' ∧ Rep K F' x d
  stop : ∀ F H, Same F0 F → Same F H → J.stop ds.length H
section
variable {K : PySem.W.Frag} {F0 : Hp} {a : Addr} {vs : List V} {ds : List D}
theorem walks_list (h : F0 a = some (.lst vs)) (r : Reps K F0 vs ds) : Walks K F0 (Itl K a) ds where
  go := fun F H i s1 st hi => by
    have s2 := st.s
    have hs : SqL K H a vs := SqL.of (s2 _ _ (s1 _ _ h))
    obtain ⟨v, hv, rv⟩ := r.get' (List.getElem?_eq_getElem hi)
    exact ⟨⟨vs, v, hs, hv⟩, fun x H' ⟨e, y⟩ => ⟨_, F, List.getElem?_eq_getElem hi, by rw [e]; exact .no, by
      have := y vs hs
      rw [hv] at this
      cases this
      exact rv.same s1⟩⟩
  stop := fun F H s1 s2 => ⟨vs, SqL.of (s2 _ _ (s1 _ _ h)), by rw [r.length]; exact Nat.le_refl _⟩
theorem walks_tup (h : SqT K F0 a vs) (r : Reps K F0 vs ds) : Walks K F0 (Itt K a) ds where
  go := fun F H i s1 st hi => by
    have s2 := st.s
    have hs : SqT K H a vs := SqT.same (s1.trans s2) h
    obtain ⟨v, hv, rv⟩ := r.get' (List.getElem?_eq_getElem hi)
    exact ⟨⟨vs, v, hs, hv⟩, fun x H' ⟨e, y⟩ => ⟨_, F, List.getElem?_eq_getElem hi, by rw [e]; exact .no, by
      have := y vs hs
      rw [hv] at this
      cases this
      exact rv.same s1⟩⟩
  stop := fun F H s1 s2 => ⟨vs, SqT.same (s1.trans s2) h, by rw [r.length]; exact Nat.le_refl _⟩
theorem signs_length (z : Str) : (signs z).length = z.cps.size := by simp [signs]
theorem walks_str (z : Str) : Walks K F0 (Its z) (signs z) where
  go := fun F H i s1 st hi => by
    have s2 := st.s
    have hi' : i < z.cps.size := by rw [← signs_length]; exact hi
    refine ⟨hi', fun x H' ⟨e, ch, h1, h2⟩ => ⟨.str ⟨#[ch]⟩, F, ?_, by rw [e]; exact .no, by rw [h2]; exact .str _⟩⟩
    simp only [signs, List.getElem?_map, Option.map_eq_some_iff]
    exact ⟨ch, by simpa using h1, rfl⟩
  stop := fun F H s1 s2 => by show z.cps.size ≤ (signs z).length; rw [signs_length]; exact Nat.le_refl _
def rngD (lo : Int) (n : Nat) : List D := (List.range n).map fun i => .int (lo + (i : Nat))
theorem walks_rng (lo : Int) (n : Nat) : Walks K F0 (Itr lo n) (rngD lo n) where
  go := fun F H i s1 st hi => by
    have s2 := st.s
    have hi' : i < n := by simpa [rngD] using hi
    refine ⟨hi', fun x H' ⟨e, h2⟩ => ⟨.int (lo + (i : Nat)), F, ?_, by rw [e]; exact .no, by rw [h2]; exact .int _⟩⟩
    simp [rngD, List.getElem?_range hi']
  stop := fun F H s1 s2 => by show n ≤ (rngD lo n).length; simp [rngD]
def enumD : Nat → List D → List D
  | _, [] => []
  | n, d :: ds => .tup [.int (n : Nat), d] :: enumD (n + 1) ds
theorem enumD_length : ∀ (n : Nat) (ds : List D), (enumD n ds).length = ds.length
  | _, [] => rfl
  | n, _ :: ds => by rw [enumD, List.length_cons, List.length_cons, enumD_length]
theorem enumD_get : ∀ (n : Nat) (ds : List D) (i : Nat) (d : D), ds[i]? = some d → (enumD n ds)[i]? = some (.tup [.int ((n + i : Nat)), d])
  | _, [], i, _, h => by simp at h
  | n, x :: ds, 0, d, h => by simp at h; subst h; rfl
  | n, x :: ds, i + 1, d, h => by
    rw [enumD, List.getElem?_cons_succ, enumD_get (n + 1) ds i d (by simpa using h)]
    congr 5
    omega
theorem al_tup {F H : Hp} {q : Addr} {us : List V} {es : List D} (s : Same F H) (hq : H q = none) (r : Reps K F us es) : Al F H (upd F q (.tup us)) (upd H q (.tup us)) ∧ Rep K (upd F q (.tup us)) (.ref q) (.tup es) :=
  ⟨Al.one hq, .tup upd_same (r.same (Same.upd_at s hq))⟩
theorem walks_enum (h : F0 a = some (.lst vs)) (r : Reps K F0 vs ds) : Walks K F0 (Ite K a) (enumD 0 ds) where
  go := fun F H i s1 st hi => by
    have s2 := st.s
    rw [enumD_length] at hi
    have hs : SqL K H a vs := SqL.of (s2 _ _ (s1 _ _ h))
    obtain ⟨v, hv, rv⟩ := r.get' (List.getElem?_eq_getElem hi)
    refine ⟨⟨vs, v, hs, hv⟩, fun x H' ⟨q, y, e1, e2, e3, e4⟩ => ?_⟩
    have := e4 vs hs
    rw [hv] at this
    cases this
    obtain ⟨al, rp⟩ := al_tup (K := K) (us := [.int ((i : Nat) : Int), v]) (es := [.int ((i : Nat) : Int), ds[i]]) s2 e2 (.cons (.int _) (.cons (rv.same s1) .nil))
    refine ⟨_, _, enumD_get 0 ds i _ (List.getElem?_eq_getElem hi), by rw [e3]; exact al, by rw [e1, Nat.zero_add]; exact rp⟩
  stop := fun F H s1 s2 => ⟨vs, SqL.of (s2 _ _ (s1 _ _ h)), by rw [enumD_length, r.length]; exact Nat.le_refl _⟩
def zipD (xs ys : List D) : List D := List.zipWith (fun x y => .tup [x, y]) xs ys
theorem zipD_get {xs ys : List D} {i : Nat} {x y : D} (hx : xs[i]? = some x) (hy : ys[i]? = some y) : (zipD xs ys)[i]? = some (.tup [x, y]) := by
  unfold zipD
  rw [List.getElem?_zipWith, hx, hy]
theorem walks_zip {b : Addr} {us : List V} {es : List D} (h : F0 a = some (.lst vs)) (r : Reps K F0 vs ds) (h' : F0 b = some (.lst us)) (r' : Reps K F0 us es) : Walks K F0 (Itz K a b) (zipD ds es) where
  go := fun F H i s1 st hi => by
    have s2 := st.s
    have hi1 : i < ds.length := by simp [zipD] at hi; omega
    have hi2 : i < es.length := by simp [zipD] at hi; omega
    have hs : SqL K H a vs := SqL.of (s2 _ _ (s1 _ _ h))
    have hs' : SqL K H b us := SqL.of (s2 _ _ (s1 _ _ h'))
    obtain ⟨v, hv, rv⟩ := r.get' (List.getElem?_eq_getElem hi1)
    obtain ⟨u, hu, ru⟩ := r'.get' (List.getElem?_eq_getElem hi2)
    refine ⟨⟨vs, us, v, u, hs, hs', hv, hu⟩, fun x H' ⟨q, y, y', e1, e2, e3, e4, e5⟩ => ?_⟩
    have t1 := e4 vs hs
    have t2 := e5 us hs'
    rw [hv] at t1
    rw [hu] at t2
    cases t1
    cases t2
    obtain ⟨al, rp⟩ := al_tup (K := K) (us := [v, u]) (es := [ds[i], es[i]]) s2 e2 (.cons (rv.same s1) (.cons (ru.same s1) .nil))
    exact ⟨_, _, zipD_get (List.getElem?_eq_getElem hi1) (List.getElem?_eq_getElem hi2), by rw [e3]; exact al, by rw [e1]; exact rp⟩
  stop := fun F H s1 s2 => ⟨vs, us, SqL.of (s2 _ _ (s1 _ _ h)), SqL.of (s2 _ _ (s1 _ _ h')), by
    have := r.length
    have := r'.length
    simp only [zipD, List.length_zipWith]
    omega⟩
end
abbrev WI (R : Rgn) := DS R → (List D → DS R → Prop) → Prop
def liftI (c : Ctx) (w : WI c.R) : TI := fun σ H R => ∃ (ρ : DS c.R) (F : Hp) (O : List Addr) (Kk : List D → DS c.R → Prop), St c F O σ ρ H ∧ w ρ Kk ∧
  ∀ ds ρ' F' H' J, Kk ds ρ' → St c F' O σ ρ' H' → Same F F' → (∀ a ∈ O, H' a = H a) → Walks c.K F' J ds → R J H'
structure DI (X : Cx) (c : Ctx) (tg e : Expr) (w : WI c.R) : Prop where
  pi : PI X tg e (liftI c w)
/-- going through a value -/
structure VI (X : Cx) (tg : Expr) (r : V → Hp → (It → Hp → Prop) → Prop) : Prop where
  run : ∀ (pins : List (Addr × Obj)) (s : Shared) (σ : L2.St) (H : Hp) (x : V) (v : Value) (R : It → Hp → Prop), L2.Inv X pins σ H s → L2.RelV x v → r x H R → wpAny (model X.prog X.w) X.A (pyIter v) (PIE X pins σ tg R) X.xe s
def rWalk (K : PySem.W.Frag) : V → Hp → (It → Hp → Prop) → Prop := fun x H R => (∃ a xs, x = .ref a ∧ SqL K H a xs ∧ R (Itl K a) H) ∨ (∃ a xs, x = .ref a ∧ SqT K H a xs ∧ R (Itt K a) H) ∨ ∃ z, x = .str z ∧ R (Its z) H
theorem vi_walk {X : Cx} {tg : Expr} : VI X tg (rWalk X.K) := ⟨fun pins s σ H x v R I rx h => by
  rcases h with ⟨a, xs, rfl, hq, q⟩ | ⟨a, xs, rfl, hq, q⟩ | ⟨z, rfl, q⟩
  · cases rx
    obtain ⟨its, _, p, _⟩ := I.list hq
    exact wpAny_pyIter_list p.isList (pi_one (tk := s.toks) I _ (turn_list a _) ⟨_, Heap.get?_push_size _ rfl, rfl, rfl⟩ q)
  · cases rx
    obtain ⟨its, _, p, _⟩ := I.tuple hq
    exact wpAny_pyIter_tuple (show s.heap.IsTuple a its.toArray from p) (pi_one (tk := s.toks) I _ (turn_tuple a _) ⟨_, Heap.get?_push_size _ rfl, rfl, rfl⟩ q)
  · obtain ⟨tk, rfl⟩ := rx
    by_cases ha : z.cps.all (· < 128) = true
    · exact wpAny_pyIter_ascii ha (pi_one (tk := s.toks) I _ (turn_str _ z tk "str_ascii_iterator" (.inl rfl)) ⟨_, Heap.get?_push_size _ rfl, rfl, rfl⟩ q)
    · exact wpAny_pyIter_wide (Bool.not_eq_true _ ▸ ha) (pi_one (tk := s.toks) I _ (turn_str _ z tk "str_iterator" (.inr rfl)) ⟨_, Heap.get?_push_size _ rfl, rfl, rfl⟩ q)⟩
theorem VI.pi {X : Cx} {tg e : Expr} {te : TE} {r : V → Hp → (It → Hp → Prop) → Prop} (h : VI X tg r) (he : PE X e te) : PI X tg e (fun σ H R => te σ H fun x H1 => r x H1 R) :=
  ⟨fun pins s σ H R I q => thn (he.run pins s σ H _ I q) fun v s1 ⟨x, H1, I1, r1, q1⟩ => h.run pins s1 σ H1 x v R I1 r1 q1⟩
def seqD : D → Option (List D)
  | .lst ds => some ds
  | .tup ds => some ds
  | .str z => some (signs z)
  | _ => none
section
variable {X : Cx} {c : Ctx} {fr : Bool} {tg iter e e2 elt : Expr} {es ifs : List Expr} {pos p : Pos} {pa pb bb : Bool} {ts us : List Nat} {g : WG c.R} {we wb : WE c.R} {wi : WI c.R} {wt : WB c.R}
def wSq {R : Rgn} (we : WE R) : WI R := fun ρ K => we ρ fun d ρ1 => ∃ ds, seqD d = some ds ∧ K ds ρ1
theorem di_seq (he : DE X c pa false e we) : DI X c tg e (wSq we) :=
  ⟨(vi_walk.pi he.pe).imp fun σ H R ⟨ρ, F, O, Kk, S, w, k⟩ => ⟨ρ, F, O, _, S, w, fun d ρ1 v F1 H1 ⟨ds, hd, hk⟩ S1 fs1 ko1 g1 r1 => by
    rw [he.kk]
    cases d <;> simp only [seqD, reduceCtorEq, Option.some.injEq] at hd <;> subst hd
    case lst ds =>
      cases r1 with
      | lst h r => exact .inl ⟨_, _, rfl, SqL.of (S1.sub _ _ h), k _ ρ1 F1 H1 _ hk S1 fs1 ko1 (walks_list h r)⟩
    case tup ds =>
      cases r1 with
      | tup h r => exact .inr (.inl ⟨_, _, rfl, SqT.of (S1.sub _ _ h), k _ ρ1 F1 H1 _ hk S1 fs1 ko1 (walks_tup (SqT.of h) r)⟩)
    case str z =>
      cases r1
      exact .inr (.inr ⟨_, rfl, k _ ρ1 F1 H1 _ hk S1 fs1 ko1 (walks_str _)⟩)⟩⟩
def wRg {R : Rgn} (we : WE R) : WI R := fun ρ K => we ρ fun d ρ1 => ∃ n : Int, d = .int n ∧ -1000000000 ≤ n ∧ n ≤ 1000000000 ∧ K (rngD 0 n.toNat) ρ1
theorem di_rng (hm : X.mg "range" = none) (he : DE X c pa bb e we) (hg : Gl X "range" := by rfl) (h1 : starEach [e] X.env = (false, eval e X.env) :: starEach [] X.env := by rfl) (hs : starEach [e] X.env = [(false, eval e X.env)] := by rfl) : DI X c tg (.Call (.Name "range" p) [e] [] pos) (wRg we) :=
  ⟨(pi_range1 hg hm (pa_cons he.pe pa_nil h1) hs).imp fun σ H R ⟨ρ, F, O, Kk, S, w, k⟩ => ⟨ρ, F, O, _, S, w, fun d ρ1 v F1 H1 ⟨n, hd, n1, n2, hk⟩ S1 fs1 ko1 g1 r1 => by
    subst hd
    exact ⟨n, by rw [(r1.bv S1).int], by omega, by omega, k _ ρ1 F1 H1 _ hk S1 fs1 ko1 (walks_rng 0 n.toNat)⟩⟩⟩
def wRg2 {R : Rgn} (we wb : WE R) : WI R := fun ρ K => we ρ fun d ρ1 => wb ρ1 fun d' ρ2 => ∃ i n : Int, d = .int i ∧ d' = .int n ∧ (-1000000000 ≤ i ∧ i ≤ 1000000000 ∧ -1000000000 ≤ n ∧ n ≤ 1000000000) ∧ K (rngD i (n - i).toNat) ρ2
theorem di_rng2 (hm : X.mg "range" = none) (he : DE X c pa false e we) (he2 : DE X c pb false e2 wb) (hg : Gl X "range" := by rfl) (h1 : starEach [e, e2] X.env = (false, eval e X.env) :: starEach [e2] X.env := by rfl) (h2 : starEach [e2] X.env = (false, eval e2 X.env) :: starEach [] X.env := by rfl)
    (h3 : starEach [e, e2] X.env = [(false, eval e X.env), (false, eval e2 X.env)] := by rfl) (h4 : starEach [e2] X.env = [(false, eval e2 X.env)] := by rfl) : DI X c tg (.Call (.Name "range" p) [e, e2] [] pos) (wRg2 we wb) :=
  ⟨(pi_range2 hg hm (pa_cons he.pe (pa_cons he2.pe pa_nil h2) h1) h3 h4).imp fun σ H R ⟨ρ, F, O, Kk, S, w, k⟩ => ⟨ρ, F, O, _, S, w, fun d ρ1 v F1 H1 hk1 S1 fs1 ko1 g1 r1 => ⟨ρ1, F1, O, _, S1, hk1, fun d' ρ2 u F2 H2 ⟨i, n, e1, e2, hb, hk⟩ S2 fs2 ko2 g2 r2 => by
    subst e1
    subst e2
    cases r1
    cases r2
    exact ⟨i, n, rfl, by omega, k _ ρ2 F2 H2 _ hk S2 (fs1.trans fs2) (fun q hq => by rw [ko2 q hq, ko1 q hq]) (walks_rng i (n - i).toNat)⟩⟩⟩⟩
def wEn {R : Rgn} (we : WE R) : WI R := fun ρ K => we ρ fun d ρ1 => ∃ ds, d = .lst ds ∧ K (enumD 0 ds) ρ1
theorem di_enum {elts : List Expr} {kk : Nat} {tpos : Pos} (hm : X.mg "enumerate" = none) (he : DE X c pa false e we) (hg : Gl X "enumerate" := by rfl) (h1 : starEach [e] X.env = (false, eval e X.env) :: starEach [] X.env := by rfl) (hs : starEach [e] X.env = [(false, eval e X.env)] := by rfl) : DI X c (.Tuple elts kk tpos) (.Call (.Name "enumerate" p) [e] [] pos) (wEn we) :=
  ⟨(pi_enum hg hm (pa_cons he.pe pa_nil h1) hs).imp fun σ H R ⟨ρ, F, O, Kk, S, w, k⟩ => ⟨ρ, F, O, _, S, w, fun d ρ1 v F1 H1 ⟨ds, hd, hk⟩ S1 fs1 ko1 g1 r1 => by
    subst hd
    cases r1 with
    | lst h r => rw [he.kk]; exact ⟨_, _, rfl, SqL.of (S1.sub _ _ h), k _ ρ1 F1 H1 _ hk S1 fs1 ko1 (walks_enum h r)⟩⟩⟩
def wZp {R : Rgn} (we wb : WE R) : WI R := fun ρ K => we ρ fun d ρ1 => wb ρ1 fun d' ρ2 => ∃ ds es, d = .lst ds ∧ d' = .lst es ∧ K (zipD ds es) ρ2
theorem di_zip {elts : List Expr} {kk : Nat} {tpos : Pos} (hm : X.mg "zip" = none) (he : DE X c pa false e we) (he2 : DE X c pb false e2 wb) (hg : Gl X "zip" := by rfl) (h1 : starEach [e, e2] X.env = (false, eval e X.env) :: starEach [e2] X.env := by rfl) (h2 : starEach [e2] X.env = (false, eval e2 X.env) :: starEach [] X.env := by rfl)
    (h4 : (backTo pos (starEach [e2] X.env)).any (·.1) = false := by rfl) : DI X c (.Tuple elts kk tpos) (.Call (.Name "zip" p) [e, e2] [] pos) (wZp we wb) :=
  ⟨(pi_zip hg hm (pa_cons he.pe (pa_cons he2.pe pa_nil h2) h1) h1 h4).imp fun σ H R ⟨ρ, F, O, Kk, S, w, k⟩ => ⟨ρ, F, O, _, S, w, fun d ρ1 v F1 H1 hk1 S1 fs1 ko1 g1 r1 => ⟨ρ1, F1, O, _, S1, hk1, fun d' ρ2 u F2 H2 ⟨ds, es, e1, e2, hk⟩ S2 fs2 ko2 g2 r2 => by
    subst e1
    subst e2
    have r1 := Rep.same fs2 r1
    cases r1 with
    | lst h r =>
      cases r2 with
      | lst h' r' => rw [he.kk]; exact ⟨_, _, _, _, rfl, SqL.of (S2.sub _ _ h), SqL.of (S2.sub _ _ h'), k _ ρ2 F2 H2 _ hk S2 (fs1.trans fs2) (fun q hq => by rw [ko2 q hq, ko1 q hq]) (walks_zip h r h' r')⟩⟩⟩⟩
/-! ### for -/
def forGo {R : Rgn} (g : WG R) (wb : WS R) (Dk : DEnds R) : List D → DS R → Prop
  | [], ρ => Dk.nx ρ
  | d :: ds, ρ => g d ρ fun ρ2 => wb { Dk with nx := forGo g wb Dk ds, ct := forGo g wb Dk ds, bk := Dk.nx } ρ2
def sFor {R : Rgn} (wi : WI R) (g : WG R) (wb : WS R) : WS R := fun Dk ρ => wi ρ fun ds ρ1 => forGo g wb Dk ds ρ1
theorem ds_for {body : List Stmt} {wb : WS c.R} (hi : DI X c tg iter wi) (hg : DG X c tg ts g) (hb : DSs X c fr body wb) (hp : PassesOwn (model X.prog X.w) X.A X.env X.xe := by exact PassesOwn.never) (hc : X.calm = true := by rfl)
    (hs : ∀ x, foldedSetIterable iter X.env x = pure x := by intro _; rfl) : DS1 X c fr (.For tg iter body [] pos) (sFor wi g wb) :=
  ⟨(ps_for hp hc hi.pi hg.pg hb.ps hs).imp fun E σ H ⟨ρ, F, Dk, S, w, k1, k2, k3, k4⟩ => ⟨ρ, F, [], _, S, w, fun ds ρ1 F1 H1 J hk S1 fs1 ko1 wk => by
    refine ⟨fun i m σ' H' => ∃ ρ' F', m = ds.length - i ∧ i ≤ ds.length ∧ St c F' [] σ' ρ' H' ∧ Same F1 F' ∧ forGo g wb Dk (ds.drop i) ρ', ⟨ds.length, ρ1, F1, rfl, Nat.zero_le _, S1, Same.refl _, hk⟩, ?_⟩
    rintro i m σ' H' ⟨ρ', F', rfl, hi, S', fs', hw⟩
    by_cases hlt : i < ds.length
    · obtain ⟨hgo, hy⟩ := wk.go F' H' i fs' S'.sbt hlt
      refine .inr ⟨hgo, fun σ2 H2 => ∃ ρ2 F2, St c F2 [] σ2 ρ2 H2 ∧ Same F1 F2 ∧ forGo g wb Dk (ds.drop (i + 1)) ρ2, fun σ2 H2 ⟨ρ2, F2, S2, fs2, h2⟩ => ⟨ds.length - (i + 1), by omega, ρ2, F2, rfl, hlt, S2, fs2, h2⟩, fun x H2 y => ?_⟩
      obtain ⟨d, F2, hd, al, rp⟩ := hy x H2 y
      rw [List.drop_eq_getElem_cons hlt] at hw
      have e : d = ds[i] := by
        rw [List.getElem?_eq_getElem hlt] at hd
        exact (Option.some.inj hd).symm
      subst e
      have S2 := S'.grow (al.grow S'.sub)
      have fs2 : Same F1 F2 := fs'.trans (al.fs S'.sub)
      refine ⟨ρ', F2, [], _, ds[i], S2, rp, hw, fun ρ3 σ3 hk3 S3 _ => ⟨ρ3, F2, _, S3, hk3, fun ρ4 σ4 F4 H4 h4 S4 fs4 => ⟨ρ4, F4, S4, fs2.trans fs4, h4⟩, fun ρ4 σ4 F4 H4 h4 S4 fs4 => k1 ρ4 σ4 F4 H4 h4 S4 (fs1.trans (fs2.trans fs4)), fun ρ4 σ4 F4 H4 h4 S4 fs4 => ⟨ρ4, F4, S4, fs2.trans fs4, h4⟩, k4⟩⟩
    · have e : i = ds.length := by omega
      subst e
      rw [List.drop_length] at hw
      exact .inl ⟨wk.stop F' H' fs' S'.sub, k1 ρ' σ' F' H' hw S' (fs1.trans fs')⟩⟩⟩
end
end Q

set_option Elab.async false
set_option linter.all false
set_option maxRecDepth 100000
set_option maxHeartbeats 4000000
/-! list comprehensions over data -/
namespace Q
open PySem PySem.Spec PyProof.Rows L2
section
variable {c : Ctx} {F F' H H' : Hp} {O : List Addr} {σ : L2.St} {ρ : DS c.R} {p : Addr} {o : HO}
/-- an object being made is set apart -/
theorem St.protect (S : St c F O σ ρ H) (hp : H p = none) (nt : NoTup o := by exact fun _ z => by cases z) : St c F (p :: O) σ ρ (upd H p o) := by
  have hF : F p = none := by
    cases e : F p with
    | none => rfl
    | some u => rw [S.sub _ _ e] at hp; cases hp
  have h0 : c.H0 p = none := by
    cases e : c.H0 p with
    | none => rfl
    | some u => exact absurd hp (S.live p (by rw [e]; exact fun z => by cases z))
  have no : ∀ i, ¬ Owns σ ρ.sl i p := fun i h => by
    obtain ⟨d, _, ow⟩ := h.there (S.slots i)
    exact ow.there hp
  obtain ⟨Z, r, z1, z2, z3, z4⟩ := S.reg
  have hZ : ¬ Z p := fun z => c.R.al r p z hp
  refine ⟨S.len, fun b u e => ?_, S.tin.updH nt, S.old, S.new, fun b u e n => ?_, fun b n => ?_, fun i => ?_, fun i a h => ?_, S.inj, fun a h => ?_, Z, c.R.fr r fun a h => ?_, z1, z2, fun a h => ?_, z4⟩
  · rw [upd_ne (fun z => by rw [z, hF] at e; cases e)]; exact S.sub _ _ e
  · rw [upd_ne (fun z => by rw [z, h0] at e; cases e)]; exact S.keep b u e n
  · rw [upd_ne (fun z => by rw [z] at n; exact n h0)]; exact S.live b n
  · have h := S.slots i
    cases e : ρ.sl[i]? with
    | none => trivial
    | some x =>
      rw [e] at h
      cases x with
      | none => trivial
      | some x =>
        cases x with
        | fz d => exact h
        | own d =>
          obtain ⟨a, h1, h2⟩ := h
          exact ⟨a, h1, h2.same (Same.refl _) (upd_ne fun z => no i (by rw [← z]; exact ⟨h1, d, e⟩))⟩
  · obtain ⟨m1, m2, m3⟩ := S.mine i a h
    exact ⟨m1, m2, fun z => (List.mem_cons.mp z).elim (fun y => no i (by rw [← y]; exact h)) m3⟩
  · rcases List.mem_cons.mp h with y | y
    · subst y; exact ⟨hF, h0, by rw [upd_same]; exact fun z => by cases z⟩
    · obtain ⟨m1, m2, m3⟩ := S.out a y
      exact ⟨m1, m2, by rw [upd_ne (fun z => m3 (by rw [z]; exact hp))]; exact m3⟩
  · rw [upd_ne (fun z => hZ (by rw [← z]; exact h))]
  · rcases List.mem_cons.mp h with y | y
    · subst y; exact hZ
    · exact z3 a y
/-- .. and written -/
theorem St.writeO (S : St c F O σ ρ H) (hp : p ∈ O) (nt : NoTup o := by exact fun _ z => by cases z) : St c F O σ ρ (upd H p o) := by
  obtain ⟨hF, h0, _⟩ := S.out p hp
  have no : ∀ i, ¬ Owns σ ρ.sl i p := fun i h => (S.mine i p h).2.2 hp
  obtain ⟨Z, r, z1, z2, z3, z4⟩ := S.reg
  refine ⟨S.len, fun b u e => ?_, S.tin.updH nt, S.old, S.new, fun b u e n => ?_, fun b n => ?_, fun i => ?_, S.mine, S.inj, fun a h => ?_, Z, c.R.fr r fun a h => ?_, z1, z2, z3, z4⟩
  · rw [upd_ne (fun z => by rw [z, hF] at e; cases e)]; exact S.sub _ _ e
  · rw [upd_ne (fun z => by rw [z, h0] at e; cases e)]; exact S.keep b u e n
  · rw [upd_ne (fun z => by rw [z] at n; exact n h0)]; exact S.live b n
  · have h := S.slots i
    cases e : ρ.sl[i]? with
    | none => trivial
    | some x =>
      rw [e] at h
      cases x with
      | none => trivial
      | some x =>
        cases x with
        | fz d => exact h
        | own d =>
          obtain ⟨a, h1, h2⟩ := h
          exact ⟨a, h1, h2.same (Same.refl _) (upd_ne fun z => no i (by rw [← z]; exact ⟨h1, d, e⟩))⟩
  · obtain ⟨m1, m2, m3⟩ := S.out a h
    refine ⟨m1, m2, ?_⟩
    by_cases z : a = p
    · subst z; rw [upd_same]; exact fun y => by cases y
    · rw [upd_ne z]; exact m3
  · rw [upd_ne (fun z => z3 p hp (by rw [← z]; exact h))]
/-- .. and handed back -/
def gone (H : Hp) (p : Addr) : Hp := fun b => if b = p then none else H b
theorem gone_at {H : Hp} {p : Addr} : gone H p p = none := if_pos rfl
theorem gone_ne {H : Hp} {p b : Addr} (h : b ≠ p) : gone H p b = H b := if_neg h
theorem Tin.gone {F H : Hp} {p : Addr} (t : Tin F H) : Tin F (Q.gone H p) := fun b xs e => by
  by_cases z : b = p
  · subst z; rw [gone_at] at e; cases e
  · rw [gone_ne z] at e; exact t _ _ e
theorem gone_upd {H : Hp} {p : Addr} {o : HO} (h : H p = some o) : upd (gone H p) p o = H := by
  funext b
  by_cases z : b = p
  · subst z; rw [upd_same, h]
  · rw [upd_ne z, gone_ne z]
theorem St.release (S : St c F (p :: O) σ ρ H) (np : p ∉ O) : St c F O σ ρ (gone H p) := by
  obtain ⟨hF, h0, _⟩ := S.out p (by simp)
  have no : ∀ i, ¬ Owns σ ρ.sl i p := fun i h => (S.mine i p h).2.2 (by simp)
  obtain ⟨Z, r, z1, z2, z3, z4⟩ := S.reg
  refine ⟨S.len, fun b u e => ?_, S.tin.gone, S.old, S.new, fun b u e n => ?_, fun b n => ?_, fun i => ?_, fun i a h => ?_, S.inj, fun a h => ?_, Z, c.R.fr r fun a h => ?_, z1, z2, fun a h => z3 a (by simp [h]), z4⟩
  · rw [gone_ne (fun z => by rw [z, hF] at e; cases e)]; exact S.sub _ _ e
  · rw [gone_ne (fun z => by rw [z, h0] at e; cases e)]; exact S.keep b u e n
  · rw [gone_ne (fun z => by rw [z] at n; exact n h0)]; exact S.live b n
  · have h := S.slots i
    cases e : ρ.sl[i]? with
    | none => trivial
    | some x =>
      rw [e] at h
      cases x with
      | none => trivial
      | some x =>
        cases x with
        | fz d => exact h
        | own d =>
          obtain ⟨a, h1, h2⟩ := h
          exact ⟨a, h1, h2.same (Same.refl _) (gone_ne fun z => no i (by rw [← z]; exact ⟨h1, d, e⟩))⟩
  · obtain ⟨m1, m2, m3⟩ := S.mine i a h
    exact ⟨m1, m2, fun z => m3 (by simp [z])⟩
  · obtain ⟨m1, m2, m3⟩ := S.out a (by simp [h])
    exact ⟨m1, m2, by rw [gone_ne (fun z => np (by rw [← z]; exact h))]; exact m3⟩
  · rw [gone_ne (fun z => z3 p (by simp) (by rw [← z]; exact h))]
/-- a slot forgotten -/
theorem St.forget (S : St c F O σ ρ H) (i : Nat) : St c F O (σ.set i none) (ρ.put i none) H := by
  have own : ∀ j a, Owns (σ.set i none) (ρ.put i none).sl j a → Owns σ ρ.sl j a := fun j a h => by
    obtain ⟨h1, x, h2⟩ := h
    have h2 : (ρ.sl.set i none)[j]? = some (some (.own x)) := h2
    rw [set_get] at h1 h2
    by_cases e : i = j
    · rw [if_pos e] at h2
      split at h2 <;> cases h2
    · rw [if_neg e] at h1 h2
      exact ⟨h1, x, h2⟩
  obtain ⟨Z, r, z1, z2, z3, z4⟩ := S.reg
  refine ⟨by show (σ.set i none).length = (ρ.sl.set i none).length; rw [List.length_set, List.length_set]; exact S.len, S.sub, S.tin, S.old, S.new, S.keep, S.live, fun j => ?_, fun j a h => S.mine j a (own j a h), fun j k a h h' => S.inj j k a (own j a h) (own k a h'), S.out, Z, r, z1, z2, z3, fun j a h => z4 j a (own j a h)⟩
  show SlotOk c.K F H (σ.set i none) j (ρ.sl.set i none)[j]?
  rw [set_get]
  by_cases e : i = j
  · rw [if_pos e]
    split <;> trivial
  · rw [if_neg e]
    have h := S.slots j
    have e2 : (σ.set i none)[j]? = σ[j]? := by rw [set_get, if_neg e]
    cases q : ρ.sl[j]? with
    | none => trivial
    | some x =>
      rw [q] at h
      cases x with
      | none => trivial
      | some x =>
        cases x with
        | fz d => obtain ⟨v, h1, h2⟩ := h; exact ⟨v, by rw [e2]; exact h1, h2⟩
        | own d => obtain ⟨a, h1, h2⟩ := h; exact ⟨a, by rw [e2]; exact h1, h2⟩
def wipeL (sl : List (Option DV)) : List Nat → List (Option DV)
  | [] => sl
  | v :: vs => (wipeL sl vs).set v none
theorem St.wiped (S : St c F O σ ρ H) : ∀ vs : List Nat, St c F O (wipe σ vs) ⟨ρ.g, wipeL ρ.sl vs⟩ H
  | [] => S
  | v :: vs => (S.wiped vs).forget v
/-- the slots that a block has used are as they were -/
def backL (sl sl' : List (Option DV)) : List Nat → List (Option DV)
  | [] => sl'
  | v :: vs => (backL sl sl' vs).set v (sl.getD v none)
def NoOwn (sl : List (Option DV)) (vs : List Nat) : Prop := ∀ i ∈ vs, ∀ d, sl[i]? ≠ some (some (.own d))
theorem backL_length (sl sl' : List (Option DV)) : ∀ vs : List Nat, (backL sl sl' vs).length = sl'.length
  | [] => rfl
  | v :: vs => by rw [backL, List.length_set, backL_length]
theorem backL_out (sl sl' : List (Option DV)) {i : Nat} : ∀ {vs : List Nat}, i ∉ vs → (backL sl sl' vs)[i]? = sl'[i]?
  | [], _ => rfl
  | v :: vs, h => by
    rw [backL, set_get, if_neg (fun z => h (by simp [z]))]
    exact backL_out sl sl' fun z => h (by simp [z])
theorem backL_in (sl sl' : List (Option DV)) (hl : sl.length = sl'.length) {i : Nat} : ∀ {vs : List Nat}, i ∈ vs → (backL sl sl' vs)[i]? = sl[i]?
  | [], h => by cases h
  | v :: vs, h => by
    rw [backL, set_get]
    by_cases e : v = i
    · subst e
      rw [if_pos rfl, backL_length]
      by_cases z : v < sl'.length
      · rw [if_pos z, List.getD_eq_getElem?_getD]
        have : v < sl.length := by omega
        rw [List.getElem?_eq_getElem this]
        rfl
      · rw [if_neg z, List.getElem?_eq_none (by omega)]
    · rw [if_neg e]
      exact backL_in sl sl' hl ((List.mem_cons.mp h).resolve_left fun z => e z.symm)
theorem St.back {F1 H1 : Hp} {O1 : List Addr} {ρ1 : DS c.R} {vs : List Nat} (S1 : St c F1 O1 σ ρ1 H1) (no : NoOwn ρ1.sl vs) (S : St c F O (wipe σ vs) ρ H) (fs : Same F1 F) : St c F O σ ⟨ρ.g, backL ρ1.sl ρ.sl vs⟩ H := by
  have hl : ρ1.sl.length = ρ.sl.length := by rw [← S1.len, ← S.len, wipe_length]
  have own : ∀ i a, Owns σ (backL ρ1.sl ρ.sl vs) i a → Owns (wipe σ vs) ρ.sl i a := fun i a ⟨h1, d, h2⟩ => by
    by_cases m : i ∈ vs
    · rw [backL_in _ _ hl m] at h2
      exact absurd h2 (no i m d)
    · rw [backL_out _ _ m] at h2
      exact ⟨by rw [wipe_out m]; exact h1, d, h2⟩
  obtain ⟨Z, r, z1, z2, z3, z4⟩ := S.reg
  refine ⟨by show σ.length = (backL ρ1.sl ρ.sl vs).length; rw [backL_length, ← S.len, wipe_length], S.sub, S.tin, S.old, S.new, S.keep, S.live, fun j => ?_, fun j a h => S.mine j a (own j a h), fun j k a h h' => S.inj j k a (own j a h) (own k a h'), S.out, Z, r, z1, z2, z3, fun j a h => z4 j a (own j a h)⟩
  show SlotOk c.K F H σ j (backL ρ1.sl ρ.sl vs)[j]?
  by_cases m : j ∈ vs
  · rw [backL_in _ _ hl m]
    have h := S1.slots j
    cases q : ρ1.sl[j]? with
    | none => trivial
    | some x =>
      rw [q] at h
      cases x with
      | none => trivial
      | some x =>
        cases x with
        | fz d => obtain ⟨v, h1, h2⟩ := h; exact ⟨v, h1, h2.same fs⟩
        | own d => exact absurd q (no j m d)
  · rw [backL_out _ _ m]
    have h := S.slots j
    have e2 := wipe_out (σ := σ) m
    cases q : ρ.sl[j]? with
    | none => trivial
    | some x =>
      rw [q] at h
      cases x with
      | none => trivial
      | some x =>
        cases x with
        | fz d => obtain ⟨v, h1, h2⟩ := h; exact ⟨v, by rw [← e2]; exact h1, h2⟩
        | own d => obtain ⟨a, h1, h2⟩ := h; exact ⟨a, by rw [← e2]; exact h1, h2⟩
theorem wipe_twice {σ : L2.St} {vs : List Nat} : ∀ {us : List Nat}, (∀ i ∈ us, i ∈ vs) → wipe (wipe σ us) vs = wipe σ vs
  | [], _ => rfl
  | u :: us, h => by
    show wipe ((wipe σ us).set u none) vs = wipe σ vs
    rw [wipe_out' (h u (by simp)), wipe_twice fun i m => h i (by simp [m])]
end
theorem itT {A B : Prop} (h : A) : if (true : Bool) = true then A else B := by rw [if_pos rfl]; exact h
theorem itF {A B : Prop} (h : B) : if (false : Bool) = true then A else B := by rw [if_neg (by decide)]; exact h
/-- a comprehension's tests -/
structure DTs (X : Cx) (c : Ctx) (ifs : List Expr) (w : WB c.R) : Prop where
  pts : PTs X ifs (liftT c false w)
theorem _root_.L2.PTs.imp {X : Cx} {es : List Expr} {t u : TT} (h : PTs X es t) (i : ∀ σ H Q, u σ H Q → t σ H Q) : PTs X es u := ⟨fun pins s σ H Q I q => h.run pins s σ H Q I (i σ H Q q)⟩
def wYes {R : Rgn} : WB R := fun ρ K => K true ρ
section
variable {X : Cx} {c : Ctx} {fr : Bool} {tg iter e elt : Expr} {ifs : List Expr} {pos p : Pos} {pa pb bb : Bool} {ts vs : List Nat} {g : WG c.R} {we : WE c.R} {wi : WI c.R} {wt : WB c.R}
theorem dts_nil : DTs X c [] wYes := ⟨pts_nil.imp fun σ H Q ⟨ρ, F, O, Kk, S, w, k⟩ => k true ρ F H w S (Same.refl _) (fun _ _ => rfl) (fun z => by cases z)⟩
theorem dts_one (h : DT X c pa e wt) : DTs X c [e] wt := ⟨(pts_one h.pt).imp fun σ H Q ⟨ρ, F, O, Kk, S, w, k⟩ => ⟨ρ, F, O, Kk, S, w, fun d ρ' F' H' hk S' fs ko g' => k d ρ' F' H' hk S' fs ko (fun z => by cases z)⟩⟩
def lcGo {R : Rgn} (g : WG R) (wt : WB R) (we : WE R) (vs : List Nat) (K : List D → DS R → Prop) : List D → List D → DS R → Prop
  | [], acc, ρ => K acc ρ
  | d :: ds, acc, ρ => g d ρ fun ρ2 => wt ρ2 fun b ρ3 => if b = true then we ρ3 fun y ρ4 => lcGo g wt we vs K ds (acc ++ [y]) ⟨ρ4.g, wipeL ρ4.sl vs⟩ else lcGo g wt we vs K ds acc ⟨ρ3.g, wipeL ρ3.sl vs⟩
def wLc {R : Rgn} (wi : WI R) (g : WG R) (wt : WB R) (we : WE R) (vs : List Nat) : WE R := fun ρ K => wi ρ fun ds ρ1 => ds.length ≤ 100000 ∧ NoOwn ρ1.sl vs ∧ lcGo g wt we vs (fun acc ρ2 => K (.lst acc) ⟨ρ2.g, backL ρ1.sl ρ2.sl vs⟩) ds [] ⟨ρ1.g, wipeL ρ1.sl vs⟩
theorem lc_ok {σ : L2.St} {H : Hp} {Q : VK} (h : liftF c false (wLc wi g wt we vs) σ H Q) (hv : ∀ i ∈ ts, i ∈ vs) : tLc (liftI c wi) (liftG c ts g) (liftT c false wt) (liftE c pb false we) vs σ H Q := by
  obtain ⟨ρ, F, O, Kk, S, w, k⟩ := h
  refine ⟨ρ, F, O, _, S, w, fun ds ρ1 F1 H1 J ⟨hz, no, hk⟩ S1 fs1 ko1 wk L hD => ?_⟩
  have nDO : L ∉ O := fun m => (S1.out L m).2.2 hD
  refine ⟨fun i m H' => ∃ (F' : Hp) (ρ' : DS c.R) (acc : List V) (accD : List D), m = ds.length - i ∧ i ≤ ds.length ∧ St c F' (L :: O) (wipe σ vs) ρ' H' ∧ Same F1 F' ∧ (∀ a ∈ O, H' a = H1 a) ∧ H' L = some (.lst acc) ∧ Reps c.K F' acc accD ∧ acc.length ≤ i ∧
    lcGo g wt we vs (fun acc ρ2 => Kk (.lst acc) ⟨ρ2.g, backL ρ1.sl ρ2.sl vs⟩) (ds.drop i) accD ρ', ⟨ds.length, F1, ⟨ρ1.g, wipeL ρ1.sl vs⟩, [], [], rfl, Nat.zero_le _, (S1.wiped vs).protect hD, Same.refl _, fun a m => upd_ne fun z => nDO (by rw [← z]; exact m), upd_same, .nil, Nat.le_refl _, hk⟩, ?_⟩
  rintro i m H' ⟨F', ρ', acc, accD, rfl, hi, S', fs', ko', hacc, rac, hla, hw⟩
  by_cases hlt : i < ds.length
  · obtain ⟨hgo, hy⟩ := wk.go F' H' i fs' S'.sbt hlt
    refine .inr ⟨hgo, fun H2 => ∃ (F2 : Hp) (ρ2 : DS c.R) (acc2 : List V) (accD2 : List D), St c F2 (L :: O) (wipe σ vs) ρ2 H2 ∧ Same F1 F2 ∧ (∀ a ∈ O, H2 a = H1 a) ∧ H2 L = some (.lst acc2) ∧ Reps c.K F2 acc2 accD2 ∧ acc2.length ≤ i + 1 ∧
      lcGo g wt we vs (fun acc ρ2 => Kk (.lst acc) ⟨ρ2.g, backL ρ1.sl ρ2.sl vs⟩) (ds.drop (i + 1)) accD2 ρ2, fun H2 ⟨F2, ρ2, acc2, accD2, q1, q2, q3, q4, q5, q6, q7⟩ => ⟨ds.length - (i + 1), by omega, F2, ρ2, acc2, accD2, rfl, hlt, q1, q2, q3, q4, q5, q6, q7⟩, fun x H2 y => ?_⟩
    obtain ⟨d, F2, hd, al, rp⟩ := hy x H2 y
    rw [List.drop_eq_getElem_cons hlt] at hw
    have e : d = ds[i] := by
      rw [List.getElem?_eq_getElem hlt] at hd
      exact (Option.some.inj hd).symm
    subst e
    have S2 := S'.grow (al.grow S'.sub)
    have fs2 : Same F1 F2 := fs'.trans (al.fs S'.sub)
    have k2 : ∀ a ∈ L :: O, H2 a = H' a := ko_al S' al
    refine ⟨ρ', F2, L :: O, _, ds[i], S2, rp, hw, fun ρ3 σ3 hk3 S3 w3 => ⟨?_, ρ3, F2, L :: O, _, S3, hk3, fun b ρ4 F4 H4 hk4 S4 fs4 ko4 _ => ?_⟩⟩
    · rw [w3 vs hv, wipe_twice fun _ m => m]
    have w3' : wipe σ3 vs = wipe σ vs := by rw [w3 vs hv, wipe_twice fun _ m => m]
    have a4 : H4 L = some (.lst acc) := by rw [ko4 L (by simp), k2 L (by simp), hacc]
    have o4 : ∀ a ∈ O, H4 a = H1 a := fun a m => by rw [ko4 a (by simp [m]), k2 a (by simp [m]), ko' a m]
    have r4 := (rac.same (al.fs S'.sub)).same fs4
    cases b with
    | false =>
      rw [if_neg (by decide)] at hk4
      refine itF ?_
      exact ⟨F4, _, acc, accD, by rw [← w3']; exact S4.wiped vs, fs2.trans fs4, o4, a4, r4, Nat.le_succ_of_le hla, hk4⟩
    | true =>
      rw [if_pos rfl] at hk4
      refine itT ?_
      refine ⟨ρ4, F4, L :: O, _, S4, hk4, fun z ρ5 v F5 H5 hk5 S5 fs5 ko5 _ r5 => ?_⟩
      have r5 : Rep c.K F5 v z := r5
      refine ⟨acc, by rw [ko5 L (by simp), a4], by have := big_line; omega, F5, _, acc ++ [v], accD ++ [z], ?_, fs2.trans (fs4.trans fs5), fun a m => ?_, upd_same, (r4.same fs5).snoc r5, by simp; omega, hk5⟩
      · rw [← w3']; exact (S5.writeO (by simp)).wiped vs
      · rw [upd_ne (fun z => nDO (by rw [← z]; exact m)), ko5 a (by simp [m]), o4 a m]
  · have e : i = ds.length := by omega
    subst e
    rw [List.drop_length] at hw
    refine .inl ⟨wk.stop F' H' fs' S'.sub, ?_⟩
    have S3 := S1.back no (S'.release nDO) fs'
    have := k (.lst accD) ⟨ρ'.g, backL ρ1.sl ρ'.sl vs⟩ L (.lst acc) F' (gone H' L) hw S3 (fs1.trans fs') (fun a m => by rw [gone_ne (fun z => nDO (by rw [← z]; exact m)), ko' a m, ko1 a m]) (fun z => by cases z) gone_at rac
    rw [gone_upd hacc] at this
    exact this
theorem fe_lc {scope : Scope} {own : List (Str × Nat)} (hN : X.N.Nodup) (hi : DI X c tg iter wi) (ok : BlkOk X.N X.env.scope scope own)
    (hg : ∀ (s : Shared) (H : Hp) (C : Addr) (cl : List (Str × Addr)) (fp : List Addr), DG (X.blk s H scope (compEnvC scope cl C X.env) fp) c tg ts g) (ht : ∀ (s : Shared) (H : Hp) (C : Addr) (cl : List (Str × Addr)) (fp : List Addr), DTs (X.blk s H scope (compEnvC scope cl C X.env) fp) c ifs wt)
    (he : ∀ (s : Shared) (H : Hp) (C : Addr) (cl : List (Str × Addr)) (fp : List Addr), DE (X.blk s H scope (compEnvC scope cl C X.env) fp) c pb false elt we) (hv : ∀ i ∈ ts, i ∈ own.map (·.2) := by decide) (hk : X.K = c.K := by rfl) (hc : X.calm = true := by rfl)
    (hs : ∀ x, foldedSetIterable iter X.env x = pure x := by intro _; rfl) : FE X c false (.ListComp elt [⟨tg, iter, ifs, 0⟩] scope pos) (wLc wi g wt we (own.map (·.2))) :=
  ⟨(pe_lc hc hN hi.pi ok (fun s H C cl fp => (hg s H C cl fp).pg) (fun s H C cl fp => (ht s H C cl fp).pts) (fun s H C cl fp => (he s H C cl fp).pe) hs).imp fun σ H Q h => lc_ok h hv, hk⟩
/-- x = [..], x a plain local -/
theorem ps_lc {scope : Scope} {own : List (Str × Nat)} {spos py : Pos} {i : Nat} {y : Str} (hN : X.N.Nodup) (hi : DI X c tg iter wi) (ok : BlkOk X.N X.env.scope scope own)
    (hg : ∀ (s : Shared) (H : Hp) (C : Addr) (cl : List (Str × Addr)) (fp : List Addr), DG (X.blk s H scope (compEnvC scope cl C X.env) fp) c tg ts g) (ht : ∀ (s : Shared) (H : Hp) (C : Addr) (cl : List (Str × Addr)) (fp : List Addr), DTs (X.blk s H scope (compEnvC scope cl C X.env) fp) c ifs wt)
    (he : ∀ (s : Shared) (H : Hp) (C : Addr) (cl : List (Str × Addr)) (fp : List Addr), DE (X.blk s H scope (compEnvC scope cl C X.env) fp) c pb false elt we) (hsw : swapsWith (.ListComp elt [⟨tg, iter, ifs, 0⟩] scope pos) (some (.Name y py)) spos.line X.env = pure true)
    (hy : X.N[i]? = some y := by rfl) (hyl : X.env.scope.names.lookup y = some .local := by rfl) (hv : ∀ i ∈ ts, i ∈ own.map (·.2) := by decide) (hk : X.K = c.K := by rfl) (hc : X.calm = true := by rfl)
    (hs : ∀ x, foldedSetIterable iter X.env x = pure x := by intro _; rfl) : PS X (.Assign [.Name y py] (.ListComp elt [⟨tg, iter, ifs, 0⟩] scope pos) spos) (tAsg (liftF c false (wLc wi g wt we (own.map (·.2)))) (gName i)) :=
  (ps_setLc hc hN hy hyl hsw hi.pi ok (fun s H C cl fp => (hg s H C cl fp).pg) (fun s H C cl fp => (ht s H C cl fp).pts) (fun s H C cl fp => (he s H C cl fp).pe) hs).imp fun E σ H h => lc_ok h hv
/-- the last step of a statement: an object may become data -/
def sGh (D : Ends) : Ends := { D with nx := fun σ H => D.nx σ H ∨ ∃ d o, H d = some o ∧ ∀ o', Fzn o o' → D.nx σ (upd H d o') }
theorem _root_.L2.PS.gh {X : Cx} {st : Stmt} {t : TS} (h : PS X st t) : PS X st (fun D σ H => t (sGh D) σ H) := ⟨fun pins s σ H D I q => thn (h.run pins s σ H (sGh D) I q) fun f s1 z => by
  cases f with
  | next =>
    obtain ⟨σ', H', I2, z⟩ := z
    rcases z with z | ⟨d, o, e, z⟩
    · exact ⟨σ', H', I2, z⟩
    · obtain ⟨H2, I3, q2⟩ := inv_fz I2 e z
      exact ⟨σ', H2, I3, q2⟩
  | brk => exact z
  | cont => exact z
  | ret v => exact z⟩
theorem ds_newP {st : Stmt} {i : Nat} (h : PS X st (tAsg (liftF c false we) (gName i))) : DS1 X c fr st (sNew i we) :=
  ⟨h.imp fun E σ H ⟨ρ, F, Dk, S, w, k1, k2, k3, k4⟩ => ⟨ρ, F, [], _, S, w, fun d ρ1 q o F1 H1 hk S1 fs1 ko1 g1 hq ob => k1 _ _ F1 _ hk (S1.setO hq ob i) fs1⟩⟩
theorem ds_setP {st : Stmt} {i : Nat} (h : PS X st (tAsg (liftF c false we) (gName i))) : DS1 X c fr st (sSet i we) :=
  ⟨h.gh.imp fun E σ H ⟨ρ, F, Dk, S, w, k1, k2, k3, k4⟩ => ⟨ρ, F, [], _, S, w, fun d ρ1 q o F1 H1 hk S1 fs1 ko1 g1 hq ob => .inr ⟨q, o, upd_same, fun o' f => by
    rw [upd_upd]
    have al : Al F1 H1 (upd F1 q o') (upd H1 q o') := Al.one hq
    have gr := al.grow S1.sub
    exact k1 _ _ (upd F1 q o') _ hk ((S1.grow gr).setF (ob.rep f (Same.none S1.sub hq)) i) (fs1.trans gr.fs)⟩⟩⟩
end
end Q

set_option Elab.async false
set_option linter.all false
set_option maxRecDepth 100000
set_option maxHeartbeats 4000000
/-! answers without a change; promises as functions -/
namespace Q
open PySem PySem.Spec PyProof.Rows L2
/-- what answers y and changes nothing -/
def Ev {R : Rgn} (we : WE R) (ρ : DS R) (y : D) : Prop := ∀ K, K y ρ → we ρ K
def EvB {R : Rgn} (wt : WB R) (ρ : DS R) (b : Bool) : Prop := ∀ K, K b ρ → wt ρ K
def EvI {R : Rgn} (wi : WI R) (ρ : DS R) (ds : List D) : Prop := ∀ K, K ds ρ → wi ρ K
/-- a def's promise: on data that fit, this answer -/
def wF (ok : List D → Prop) (g : List D → D) : WM := fun ds Kk => ok ds ∧ Kk (g ds)
def tame : D → Prop
  | .str z => z.length ≤ 100000
  | .ins _ _ _ => False
  | .raw _ => False
  | .dtt _ _ => False
  | .dmx _ _ _ => False
  | _ => True
section
variable {R : Rgn} {ρ : DS R} {g : WG R} {wt : WB R} {we : WE R} {wi : WI R} {i : Nat}
theorem put_put {x y : Option DV} : (ρ.put i x).put i y = ρ.put i y := by
  show (⟨ρ.g, (ρ.sl.set i x).set i y⟩ : DS R) = ⟨ρ.g, ρ.sl.set i y⟩
  rw [List.set_set]
theorem put_back {x : Option DV} (h : ρ.sl[i]? = some x) : ρ.put i x = ρ := by
  show (⟨ρ.g, ρ.sl.set i x⟩ : DS R) = ρ
  have : ρ.sl.set i x = ρ.sl := by
    apply List.ext_getElem?
    intro j
    rw [set_get]
    by_cases e : i = j
    · subst e
      rw [if_pos rfl, h]
      have : i < ρ.sl.length := (List.getElem?_eq_some_iff.mp h).1
      rw [if_pos this]
    · rw [if_neg e]
  rw [this]
theorem lcGo_ev {α : Type} {h : α → D} {K : List D → DS R → Prop} {p : α → Bool} {f : α → D} : ∀ (xs : List α) (acc : List D), (∀ d ∈ xs, EvB wt (ρ.put i (some (.fz (h d)))) (p d)) → (∀ d ∈ xs, p d = true → Ev we (ρ.put i (some (.fz (h d)))) (f d)) →
    K (acc ++ (xs.filter p).map f) (ρ.put i none) → lcGo (gNm i) wt we [i] K (xs.map h) acc (ρ.put i none)
  | [], acc, _, _, k => by
    rw [List.filter_nil, List.map_nil, List.append_nil] at k
    exact k
  | d :: xs, acc, h1, h2, k => by
    rw [List.map_cons]
    unfold lcGo
    show wt ((ρ.put i none).put i (some (.fz (h d)))) _
    rw [put_put]
    refine h1 d (by simp) _ ?_
    have e : (⟨(ρ.put i (some (DV.fz (h d)))).g, wipeL (ρ.put i (some (DV.fz (h d)))).sl [i]⟩ : DS R) = ρ.put i none := put_put
    cases hp : p d with
    | false =>
      refine itF ?_
      rw [e]
      refine lcGo_ev xs acc (fun x m => h1 x (by simp [m])) (fun x m => h2 x (by simp [m])) ?_
      rw [List.filter_cons_of_neg (by rw [hp]; decide)] at k
      exact k
    | true =>
      refine itT (h2 d (by simp) hp _ ?_)
      rw [e]
      refine lcGo_ev xs _ (fun x m => h1 x (by simp [m])) (fun x m => h2 x (by simp [m])) ?_
      rw [List.filter_cons_of_pos hp, List.map_cons] at k
      rw [List.append_assoc]
      exact k
theorem wLc_fm {α : Type} {h : α → D} {xs : List α} {p : α → Bool} {f : α → D} {x : Option DV} (hi : EvI wi ρ (xs.map h)) (hz : xs.length ≤ 100000) (hx : ρ.sl[i]? = some x) (no : ∀ d, x ≠ some (.own d)) (ht : ∀ d ∈ xs, EvB wt (ρ.put i (some (.fz (h d)))) (p d))
    (he : ∀ d ∈ xs, p d = true → Ev we (ρ.put i (some (.fz (h d)))) (f d)) : Ev (wLc wi (gNm i) wt we [i]) ρ (.lst ((xs.filter p).map f)) := by
  intro K k
  refine hi _ ⟨by rw [List.length_map]; exact hz, fun j m d q => ?_, ?_⟩
  · have e : j = i := by simpa using m
    subst e
    rw [hx] at q
    exact no d (Option.some.inj q)
  · refine lcGo_ev xs [] ht he ?_
    rw [List.nil_append]
    have : (⟨(ρ.put i none).g, backL ρ.sl (ρ.put i none).sl [i]⟩ : DS R) = ρ := by
      show (⟨ρ.g, (ρ.sl.set i none).set i (ρ.sl.getD i none)⟩ : DS R) = ρ
      rw [List.set_set, List.getD_eq_getElem?_getD, hx]
      exact put_back hx
    rw [this]
    exact k
theorem wLc_m {α : Type} {h : α → D} {xs : List α} {f : α → D} {x : Option DV} (hi : EvI wi ρ (xs.map h)) (hz : xs.length ≤ 100000) (hx : ρ.sl[i]? = some x) (no : ∀ d, x ≠ some (.own d)) (he : ∀ d ∈ xs, Ev we (ρ.put i (some (.fz (h d)))) (f d)) :
    Ev (wLc wi (gNm i) wYes we [i]) ρ (.lst (xs.map f)) := by
  have q := wLc_fm (p := fun _ => true) (wt := wYes) hi hz hx no (fun d _ K k => k) fun d m _ => he d m
  rw [List.filter_eq_self.mpr fun _ _ => rfl] at q
  exact q
theorem wLc_map {ds : List D} {f : D → D} {x : Option DV} (hi : EvI wi ρ ds) (hz : ds.length ≤ 100000) (hx : ρ.sl[i]? = some x) (no : ∀ d, x ≠ some (.own d)) (he : ∀ d ∈ ds, Ev we (ρ.put i (some (.fz d))) (f d)) :
    Ev (wLc wi (gNm i) wYes we [i]) ρ (.lst (ds.map f)) := wLc_m (h := id) (by rw [List.map_id]; exact hi) hz hx no he
theorem wLc_filter {ds : List D} {f : D → D} {p : D → Bool} {x : Option DV} (hi : EvI wi ρ ds) (hz : ds.length ≤ 100000) (hx : ρ.sl[i]? = some x) (no : ∀ d, x ≠ some (.own d)) (ht : ∀ d ∈ ds, EvB wt (ρ.put i (some (.fz d))) (p d))
    (he : ∀ d ∈ ds, p d = true → Ev we (ρ.put i (some (.fz d))) (f d)) : Ev (wLc wi (gNm i) wt we [i]) ρ (.lst ((ds.filter p).map f)) := wLc_fm (h := id) (by rw [List.map_id]; exact hi) hz hx no ht he
end
theorem eqv_str (a b : Str) : PyData.eqv (.str a) (.str b) = decide (a = b) := by simp only [PyData.eqv]; first | rfl | (cases h : decide (a = b) <;> simp_all)
theorem bls_map {α : Type} (p : α → Bool) : ∀ xs : List α, blsD (xs.map fun x => .bl (p x)) = some (xs.map p)
  | [] => rfl
  | x :: xs => by rw [List.map_cons, blsD, bls_map p xs]; rfl
theorem all_map {α : Type} (p : α → Bool) (xs : List α) : allD (.lst (xs.map fun x => .bl (p x))) = some (.bl (xs.all p)) := by
  rw [allD, bls_map]
  simp [Option.map, Function.comp_def]
theorem any_map {α : Type} (p : α → Bool) (xs : List α) : anyD (.lst (xs.map fun x => .bl (p x))) = some (.bl (xs.any p)) := by
  rw [anyD, bls_map]
  simp [Option.map, Function.comp_def]
theorem seq_of {R : Rgn} {we : WE R} {ρ : DS R} {d : D} {ds : List D} (h : Ev we ρ d) (e : seqD d = some ds) : EvI (wSq we) ρ ds := fun K k => h _ ⟨ds, e, k⟩
end Q

set_option Elab.async false
set_option linter.all false
set_option maxRecDepth 100000
set_option maxHeartbeats 4000000
/-! what the operators answer, kind by kind -/
namespace Q
open PySem PySem.Spec PyProof.Rows L2
@[simp] theorem tr_non  : truD .non = some false := rfl
@[simp] theorem kd_non  : kD2 .non = some .non := rfl
@[simp] theorem nn_non  : isNonD .non = some true := rfl
@[simp] theorem da_non  : isDat .non = true := by simp only [isDat]
@[simp] theorem dp_non  : dep .non = 0 := by simp only [dep]
@[simp] theorem tr_bl (b : Bool) : truD (.bl b) = some b := rfl
@[simp] theorem kd_bl (b : Bool) : kD2 (.bl b) = some .bool := rfl
@[simp] theorem nn_bl (b : Bool) : isNonD (.bl b) = some false := rfl
@[simp] theorem da_bl (b : Bool) : isDat (.bl b) = true := by simp only [isDat]
@[simp] theorem dp_bl (b : Bool) : dep (.bl b) = 0 := by simp only [dep]
@[simp] theorem tr_int (i : Int) : truD (.int i) = some (i != 0) := rfl
@[simp] theorem kd_int (i : Int) : kD2 (.int i) = some .int := rfl
@[simp] theorem nn_int (i : Int) : isNonD (.int i) = some false := rfl
@[simp] theorem da_int (i : Int) : isDat (.int i) = true := by simp only [isDat]
@[simp] theorem dp_int (i : Int) : dep (.int i) = 0 := by simp only [dep]
@[simp] theorem tr_str (s : Str) : truD (.str s) = if s.length ≤ sizeLine then some ((s.length : Int) != 0) else none := rfl
@[simp] theorem kd_str (s : Str) : kD2 (.str s) = some .str := rfl
@[simp] theorem nn_str (s : Str) : isNonD (.str s) = some false := rfl
@[simp] theorem da_str (s : Str) : isDat (.str s) = true := by simp only [isDat]
@[simp] theorem dp_str (s : Str) : dep (.str s) = 0 := by simp only [dep]
@[simp] theorem tr_lst (xs : List D) : truD (.lst xs) = some (!xs.isEmpty) := rfl
@[simp] theorem kd_lst (xs : List D) : kD2 (.lst xs) = some .list := rfl
@[simp] theorem nn_lst (xs : List D) : isNonD (.lst xs) = some false := rfl
@[simp] theorem da_lst (xs : List D) : isDat (.lst xs) = isDats xs := by simp only [isDat]
@[simp] theorem dp_lst (xs : List D) : dep (.lst xs) = deps xs + 1 := by simp only [dep]
@[simp] theorem tr_tup (ts : List D) : truD (.tup ts) = some (!ts.isEmpty) := rfl
@[simp] theorem kd_tup (ts : List D) : kD2 (.tup ts) = some .tuple := rfl
@[simp] theorem nn_tup (ts : List D) : isNonD (.tup ts) = some false := rfl
@[simp] theorem da_tup (ts : List D) : isDat (.tup ts) = isDats ts := by simp only [isDat]
@[simp] theorem dp_tup (ts : List D) : dep (.tup ts) = deps ts + 1 := by simp only [dep]
@[simp] theorem kd_dct (ks vs : List D) : kD2 (.dct ks vs) = some .dict := rfl
@[simp] theorem nn_dct (ks vs : List D) : isNonD (.dct ks vs) = some false := rfl
@[simp] theorem nn_dtt (ks vs : List D) : isNonD (.dtt ks vs) = some false := rfl
@[simp] theorem nn_dmx (w : World) (ks vs : List D) : isNonD (.dmx w ks vs) = some false := rfl
@[simp] theorem eq_non_non   : deq .non .non = true := by simp [deq]
@[simp] theorem eq_non_bl  (b' : Bool) : deq .non (.bl b') = false := by simp [deq]
@[simp] theorem eq_non_int  (i' : Int) : deq .non (.int i') = false := by simp [deq]
@[simp] theorem eq_non_str  (s' : Str) : deq .non (.str s') = false := by simp [deq]
@[simp] theorem eq_non_lst  (xs' : List D) : deq .non (.lst xs') = false := by simp [deq]
@[simp] theorem eq_non_tup  (ts' : List D) : deq .non (.tup ts') = false := by simp [deq]
@[simp] theorem eq_bl_non (b : Bool)  : deq (.bl b) .non = false := by simp [deq]
@[simp] theorem eq_bl_bl (b : Bool) (b' : Bool) : deq (.bl b) (.bl b') = (b == b') := by simp [deq]
@[simp] theorem eq_bl_int (b : Bool) (i' : Int) : deq (.bl b) (.int i') = ((if b then 1 else 0) == i') := by simp [deq]
@[simp] theorem eq_bl_str (b : Bool) (s' : Str) : deq (.bl b) (.str s') = false := by simp [deq]
@[simp] theorem eq_bl_lst (b : Bool) (xs' : List D) : deq (.bl b) (.lst xs') = false := by simp [deq]
@[simp] theorem eq_bl_tup (b : Bool) (ts' : List D) : deq (.bl b) (.tup ts') = false := by simp [deq]
@[simp] theorem eq_int_non (i : Int)  : deq (.int i) .non = false := by simp [deq]
@[simp] theorem eq_int_bl (i : Int) (b' : Bool) : deq (.int i) (.bl b') = (i == (if b' then 1 else 0)) := by simp [deq]
@[simp] theorem eq_int_int (i : Int) (i' : Int) : deq (.int i) (.int i') = (i == i') := by simp [deq]
@[simp] theorem eq_int_str (i : Int) (s' : Str) : deq (.int i) (.str s') = false := by simp [deq]
@[simp] theorem eq_int_lst (i : Int) (xs' : List D) : deq (.int i) (.lst xs') = false := by simp [deq]
@[simp] theorem eq_int_tup (i : Int) (ts' : List D) : deq (.int i) (.tup ts') = false := by simp [deq]
@[simp] theorem eq_str_non (s : Str)  : deq (.str s) .non = false := by simp [deq]
@[simp] theorem eq_str_bl (s : Str) (b' : Bool) : deq (.str s) (.bl b') = false := by simp [deq]
@[simp] theorem eq_str_int (s : Str) (i' : Int) : deq (.str s) (.int i') = false := by simp [deq]
@[simp] theorem eq_str_str (s : Str) (s' : Str) : deq (.str s) (.str s') = (s == s') := by simp [deq]
@[simp] theorem eq_str_lst (s : Str) (xs' : List D) : deq (.str s) (.lst xs') = false := by simp [deq]
@[simp] theorem eq_str_tup (s : Str) (ts' : List D) : deq (.str s) (.tup ts') = false := by simp [deq]
@[simp] theorem eq_lst_non (xs : List D)  : deq (.lst xs) .non = false := by simp [deq]
@[simp] theorem eq_lst_bl (xs : List D) (b' : Bool) : deq (.lst xs) (.bl b') = false := by simp [deq]
@[simp] theorem eq_lst_int (xs : List D) (i' : Int) : deq (.lst xs) (.int i') = false := by simp [deq]
@[simp] theorem eq_lst_str (xs : List D) (s' : Str) : deq (.lst xs) (.str s') = false := by simp [deq]
@[simp] theorem eq_lst_lst (xs : List D) (xs' : List D) : deq (.lst xs) (.lst xs') = deqs xs xs' := by simp [deq]
@[simp] theorem eq_lst_tup (xs : List D) (ts' : List D) : deq (.lst xs) (.tup ts') = false := by simp [deq]
@[simp] theorem eq_tup_non (ts : List D)  : deq (.tup ts) .non = false := by simp [deq]
@[simp] theorem eq_tup_bl (ts : List D) (b' : Bool) : deq (.tup ts) (.bl b') = false := by simp [deq]
@[simp] theorem eq_tup_int (ts : List D) (i' : Int) : deq (.tup ts) (.int i') = false := by simp [deq]
@[simp] theorem eq_tup_str (ts : List D) (s' : Str) : deq (.tup ts) (.str s') = false := by simp [deq]
@[simp] theorem eq_tup_lst (ts : List D) (xs' : List D) : deq (.tup ts) (.lst xs') = false := by simp [deq]
@[simp] theorem eq_tup_tup (ts : List D) (ts' : List D) : deq (.tup ts) (.tup ts') = deqs ts ts' := by simp [deq]
@[simp] theorem it_non_non : isTy .non .non = true := rfl
@[simp] theorem it_non_bool : isTy .non .bool = false := rfl
@[simp] theorem it_non_int : isTy .non .int = false := rfl
@[simp] theorem it_non_str : isTy .non .str = false := rfl
@[simp] theorem it_non_list : isTy .non .list = false := rfl
@[simp] theorem it_non_tuple : isTy .non .tuple = false := rfl
@[simp] theorem it_non_dict : isTy .non .dict = false := rfl
@[simp] theorem it_bool_non : isTy .bool .non = false := rfl
@[simp] theorem it_bool_bool : isTy .bool .bool = true := rfl
@[simp] theorem it_bool_int : isTy .bool .int = true := rfl
@[simp] theorem it_bool_str : isTy .bool .str = false := rfl
@[simp] theorem it_bool_list : isTy .bool .list = false := rfl
@[simp] theorem it_bool_tuple : isTy .bool .tuple = false := rfl
@[simp] theorem it_bool_dict : isTy .bool .dict = false := rfl
@[simp] theorem it_int_non : isTy .int .non = false := rfl
@[simp] theorem it_int_bool : isTy .int .bool = false := rfl
@[simp] theorem it_int_int : isTy .int .int = true := rfl
@[simp] theorem it_int_str : isTy .int .str = false := rfl
@[simp] theorem it_int_list : isTy .int .list = false := rfl
@[simp] theorem it_int_tuple : isTy .int .tuple = false := rfl
@[simp] theorem it_int_dict : isTy .int .dict = false := rfl
@[simp] theorem it_str_non : isTy .str .non = false := rfl
@[simp] theorem it_str_bool : isTy .str .bool = false := rfl
@[simp] theorem it_str_int : isTy .str .int = false := rfl
@[simp] theorem it_str_str : isTy .str .str = true := rfl
@[simp] theorem it_str_list : isTy .str .list = false := rfl
@[simp] theorem it_str_tuple : isTy .str .tuple = false := rfl
@[simp] theorem it_str_dict : isTy .str .dict = false := rfl
@[simp] theorem it_list_non : isTy .list .non = false := rfl
@[simp] theorem it_list_bool : isTy .list .bool = false := rfl
@[simp] theorem it_list_int : isTy .list .int = false := rfl
@[simp] theorem it_list_str : isTy .list .str = false := rfl
@[simp] theorem it_list_list : isTy .list .list = true := rfl
@[simp] theorem it_list_tuple : isTy .list .tuple = false := rfl
@[simp] theorem it_list_dict : isTy .list .dict = false := rfl
@[simp] theorem it_tuple_non : isTy .tuple .non = false := rfl
@[simp] theorem it_tuple_bool : isTy .tuple .bool = false := rfl
@[simp] theorem it_tuple_int : isTy .tuple .int = false := rfl
@[simp] theorem it_tuple_str : isTy .tuple .str = false := rfl
@[simp] theorem it_tuple_list : isTy .tuple .list = false := rfl
@[simp] theorem it_tuple_tuple : isTy .tuple .tuple = true := rfl
@[simp] theorem it_tuple_dict : isTy .tuple .dict = false := rfl
@[simp] theorem it_dict_non : isTy .dict .non = false := rfl
@[simp] theorem it_dict_bool : isTy .dict .bool = false := rfl
@[simp] theorem it_dict_int : isTy .dict .int = false := rfl
@[simp] theorem it_dict_str : isTy .dict .str = false := rfl
@[simp] theorem it_dict_list : isTy .dict .list = false := rfl
@[simp] theorem it_dict_tuple : isTy .dict .tuple = false := rfl
@[simp] theorem it_dict_dict : isTy .dict .dict = true := rfl
@[simp] theorem ds_0 : isDats [] = true := by simp only [isDats]
@[simp] theorem ds_1 (x : D) (xs : List D) : isDats (x :: xs) = (isDat x && isDats xs) := by simp only [isDats]
@[simp] theorem dps_0 : deps [] = 0 := by simp only [deps]
@[simp] theorem dps_1 (x : D) (xs : List D) : deps (x :: xs) = max (dep x) (deps xs) := by simp only [deps]
@[simp] theorem eqs_0 : deqs [] [] = true := by simp [deqs]
@[simp] theorem eqs_1 (x y : D) (xs ys : List D) : deqs (x :: xs) (y :: ys) = (deq x y && deqs xs ys) := by simp [deqs]
@[simp] theorem eqs_2 (x : D) (xs : List D) : deqs (x :: xs) [] = false := by simp [deqs]
@[simp] theorem eqs_3 (x : D) (xs : List D) : deqs [] (x :: xs) = false := by simp [deqs]
@[simp] theorem ad_int (a b : Int) : addD (.int a) (.int b) = some (.int (a + b)) := rfl
@[simp] theorem ad_str (a b : Str) : addD (.str a) (.str b) = if a.length + b.length ≤ 100000 then some (.str (a ++ b)) else none := rfl
@[simp] theorem ad_lst (a b : List D) : addD (.lst a) (.lst b) = if a.length + b.length ≤ 100000 then some (.lst (a ++ b)) else none := rfl
@[simp] theorem ad_tup (a b : List D) : addD (.tup a) (.tup b) = if a.length + b.length ≤ 100000 then some (.tup (a ++ b)) else none := rfl
@[simp] theorem sb_int (a b : Int) : subD (.int a) (.int b) = some (.int (a - b)) := rfl
@[simp] theorem cm_int (p : Int → Int → Bool) (a b : Int) : cmpD p (.int a) (.int b) = some (.bl (p a b)) := rfl
@[simp] theorem in_lst (n : Bool) (x : D) (ds : List D) : inD n x (.lst ds) = inSq n x ds := rfl
@[simp] theorem in_tup (n : Bool) (x : D) (ds : List D) : inD n x (.tup ds) = inSq n x ds := rfl
@[simp] theorem in_str (n : Bool) (x : D) (z : Str) : inD n x (.str z) = inTx n x z := rfl
@[simp] theorem in_sgn (n : Bool) (c : Nat) (z : Str) : inTx n (.str ⟨#[c]⟩) z = some (.bl (xr n (decide (c ∈ z.cps.toList)))) := rfl
@[simp] theorem ix_lst (ds : List D) (i : Int) : ixD (.lst ds) (.int i) = (ixN ds.length i).bind fun j => ds[j]? := rfl
@[simp] theorem ix_tup (ds : List D) (i : Int) : ixD (.tup ds) (.int i) = (ixN ds.length i).bind fun j => ds[j]? := rfl
@[simp] theorem ix_str (z : Str) (i : Int) : ixD (.str z) (.int i) = if z.length ≤ 100000 then (ixN z.cps.toList.length i).bind fun j => (signs z)[j]? else none := rfl
@[simp] theorem sl_lst (a b : Option Int) (ds : List D) : slD a b (.lst ds) = some (.lst (cutD ds a b)) := rfl
@[simp] theorem sl_tup (a b : Option Int) (ds : List D) : slD a b (.tup ds) = some (.tup (cutD ds a b)) := rfl
@[simp] theorem sl_txt (a b : Option Int) (z : Str) : slD a b (.str z) = if z.length ≤ 100000 then some (.str (cutS z a b)) else none := rfl
@[simp] theorem ln_lst (ds : List D) : lenD (.lst ds) = some (.int ds.length) := rfl
@[simp] theorem ln_tup (ds : List D) : lenD (.tup ds) = some (.int ds.length) := rfl
@[simp] theorem ln_str (z : Str) : lenD (.str z) = if z.length ≤ 100000 then some (.int z.length) else none := rfl
@[simp] theorem ln_dct (ks vs : List D) : lenD (.dct ks vs) = some (.int ks.length) := rfl
@[simp] theorem ln_dtt (ks vs : List D) : lenD (.dtt ks vs) = some (.int ks.length) := rfl
@[simp] theorem tu_lst (ds : List D) : tupleD (.lst ds) = some (.tup ds) := rfl
@[simp] theorem tu_tup (ds : List D) : tupleD (.tup ds) = some (.tup ds) := rfl
@[simp] theorem li_lst (ds : List D) : listD (.lst ds) = some (.lst ds) := rfl
@[simp] theorem li_tup (ds : List D) : listD (.tup ds) = some (.lst ds) := rfl
@[simp] theorem id_non (n : Bool) (x : D) : isD n x .non = (isNonD x).map fun k => .bl (xr n (k)) := rfl
@[simp] theorem sq_lst (ds : List D) : seqD (.lst ds) = some ds := rfl
@[simp] theorem sq_tup (ds : List D) : seqD (.tup ds) = some ds := rfl
@[simp] theorem sq_str (z : Str) : seqD (.str z) = some (signs z) := rfl
@[simp] theorem tm_non  : tame .non = True := rfl
@[simp] theorem tm_bl (b : Bool) : tame (.bl b) = True := rfl
@[simp] theorem tm_int (i : Int) : tame (.int i) = True := rfl
@[simp] theorem tm_str (s : Str) : tame (.str s) = (s.length ≤ 100000) := rfl
@[simp] theorem tm_lst (xs : List D) : tame (.lst xs) = True := rfl
@[simp] theorem tm_tup (ts : List D) : tame (.tup ts) = True := rfl
@[simp] theorem tm_dct (ks vs : List D) : tame (.dct ks vs) = True := rfl
@[simp] theorem tm_dtt (ks vs : List D) : tame (.dtt ks vs) = False := rfl
@[simp] theorem tm_dmx (w : World) (ks vs : List D) : tame (.dmx w ks vs) = False := rfl
@[simp] theorem tm_ins (C : Addr) (ns : List Str) (xs : List D) : tame (.ins C ns xs) = False := rfl
@[simp] theorem tm_raw (v : V) : tame (.raw v) = False := rfl
end Q

set_option Elab.async false
set_option linter.all false
set_option maxRecDepth 100000
set_option maxHeartbeats 4000000
/-! dicts with plain keys -/
namespace Q
open PySem PySem.Spec PyProof.Rows L2
instance keyMem (k : Key) (ks : List Key) : Decidable (k ∈ ks) := @List.instDecidableMemOfLawfulBEq _ instBEqOfDecidableEq inferInstance k ks
theorem kD_inj : ∀ {k j : Key}, kD k = kD j → k = j
  | .inl _, .inl _, h => by cases h; rfl
  | .inr _, .inr _, h => by cases h; rfl
  | .inl _, .inr _, h => by cases h
  | .inr _, .inl _, h => by cases h
theorem kD_map : ∀ {ks js : List Key}, ks.map kD = js.map kD → ks = js
  | [], [], _ => rfl
  | [], _ :: _, h => by cases h
  | _ :: _, [], h => by cases h
  | k :: ks, j :: js, h => by
    rw [List.map_cons, List.map_cons] at h
    have h1 := (List.cons.inj h).1
    have h2 := (List.cons.inj h).2
    rw [kD_inj h1, kD_map h2]
theorem Rep.key {K : PySem.W.Frag} {F : Hp} {v : V} : ∀ {k : Key}, Rep K F v (kD k) → v = kV k
  | .inl _, h => by cases h; rfl
  | .inr _, h => by cases h; rfl
theorem rep_key {K : PySem.W.Frag} {F : Hp} : ∀ k : Key, Rep K F (kV k) (kD k)
  | .inl i => .int i
  | .inr x => .str x
theorem BV.key {K : PySem.W.Frag} {F H : Hp} {v : V} : ∀ {k : Key}, BV K F H v (kD k) → v = kV k
  | .inl _, h => h.int
  | .inr _, h => h.str
def putKs (ks : List Key) (k : Key) : List Key := if k ∈ ks then ks else ks ++ [k]
def putVs (ks : List Key) (vs : List D) (k : Key) (v : D) : List D := if k ∈ ks then List.zipWith (fun j u => if j = k then v else u) ks vs else vs ++ [v]
theorem any_key (k : Key) : ∀ kvs : List (Key × V), (kvs.any fun kv => decide (kv.1 = k)) = decide (k ∈ kvs.map (·.1))
  | [] => rfl
  | kv :: kvs => by
    rw [List.any_cons, any_key k kvs, List.map_cons]
    by_cases e : kv.1 = k
    · simp [e]
    · have : ¬ k = kv.1 := fun z => e z.symm
      simp [e, this]
theorem putK_keys (k : Key) (v : V) (kvs : List (Key × V)) : (putK kvs k v).map (·.1) = putKs (kvs.map (·.1)) k := by
  unfold putK putKs
  rw [any_key]
  by_cases h : k ∈ kvs.map (·.1)
  · rw [if_pos (by simpa using h), if_pos h, List.map_map]
    apply List.map_congr_left
    intro kv _
    show (if kv.1 = k then (kv.1, v) else kv).1 = kv.1
    split <;> rfl
  · rw [if_neg (by simpa using h), if_neg h, List.map_append]
    rfl
theorem putK_vals {K : PySem.W.Frag} {F : Hp} (k : Key) {v : V} {d : D} (r : Rep K F v d) {kvs : List (Key × V)} {ds : List D} (h : Reps K F (kvs.map (·.2)) ds) : Reps K F ((putK kvs k v).map (·.2)) (putVs (kvs.map (·.1)) ds k d) := by
  unfold putK putVs
  rw [any_key]
  by_cases m : k ∈ kvs.map (·.1)
  · rw [if_pos (by simpa using m), if_pos m]
    clear m
    induction kvs generalizing ds with
    | nil => cases h; exact .nil
    | cons kv kvs ih =>
      cases h with
      | cons h1 h2 =>
        rw [List.map_cons, List.map_cons, List.map_cons, List.zipWith_cons_cons]
        refine .cons ?_ (ih h2)
        by_cases e : kv.1 = k
        · rw [if_pos e, if_pos e]; exact r
        · rw [if_neg e, if_neg e]; exact h1
  · rw [if_neg (by simpa using m), if_neg m, List.map_append]
    exact h.snoc r
def valD : List Key → List D → Key → Option D
  | j :: ks, v :: vs, k => if j = k then some v else valD ks vs k
  | _, _, _ => none
theorem valD_of {K : PySem.W.Frag} {F : Hp} (k : Key) : ∀ {kvs : List (Key × V)} {ds : List D}, Reps K F (kvs.map (·.2)) ds → (∀ d, valD (kvs.map (·.1)) ds k = some d → ∃ v, valV kvs k = some v ∧ Rep K F v d)
  | [], _, _, d, h => by simp [valD] at h
  | kv :: kvs, _, .cons r t, d, h => by
    rw [List.map_cons] at h
    unfold valD at h
    by_cases e : kv.1 = k
    · rw [if_pos e] at h
      cases h
      exact ⟨_, valV_pos e, r⟩
    · rw [if_neg e] at h
      rw [valV_neg e]
      exact valD_of k t d h
section
variable {X : Cx} {c : Ctx} {fr : Bool} {tg iter e e2 kx vx a b : Expr} {ifs : List Expr} {pos p : Pos} {pa pb ba bb : Bool} {ts vs : List Nat} {g : WG c.R} {we wb wk wv : WE c.R} {wi : WI c.R} {wt : WB c.R} {j : Nat}
/-- {} -/
theorem fe_d0 (hk : X.K = c.K := by rfl) : FE X c true (.Dict [] [] pos) (wC c.R (.dct [] [])) :=
  ⟨pe_dnewK.imp fun σ H Q ⟨ρ, F, O, Kk, S, w, k⟩ q hq => k _ ρ q (.dK []) F H w S (Same.refl _) (fun _ _ => rfl) (fun _ => ⟨rfl, Grow.refl S.sub⟩) hq ⟨rfl, .nil⟩, hk⟩
/-- x[k] = e, x a dict of the def's own -/
def sDput {R : Rgn} (i : Nat) (we wk : WE R) : WS R := fun Dk ρ => we ρ fun d ρ1 => (∃ d0, ρ1.sl[i]? = some (some (.own d0))) ∧ wk ρ1 fun kd ρ2 => ∃ (k : Key) (ks : List Key) (vs : List D), kd = kD k ∧ ρ2.sl[i]? = some (some (.own (.dct (ks.map kD) vs))) ∧ ks.length < 100000 ∧ Dk.nx (ρ2.put i (some (.own (.dct ((putKs ks k).map kD) (putVs ks vs k d)))))
theorem ds_dput {i : Nat} {x : Str} {k : Expr} {pp qp : Pos} (hr : Room j X.A) (he : DE X c pa false e we) (hx : DE X c pb bb k wk) (hN : X.N[i]? = some x := by rfl) (hv : Vis X.env.scope x := by first | exact .inl rfl | exact .inr (.inl rfl) | exact .inr (.inr rfl))
    (hd : (x == ("__debug__" : Str)) = false := by decide) (hcd : (x == ("__classdict__" : Str)) = false := by decide) (hs : swapsWith e (some (.Subscript (.Name x pp) k qp)) pos.line X.env = pure false := by rfl) :
    DS1 X c fr (.Assign [.Subscript (.Name x pp) k qp] e pos) (sDput i we wk) :=
  ⟨(ps_dput (hu_of hr) (pe_var hN hv hd hcd) hx.pe he.pe hs).imp fun E σ H ⟨ρ, F, Dk, S, w, k1, k2, k3, k4⟩ => by
    refine ⟨ρ, F, [], _, S, w, fun d ρ1 v F1 H1 ⟨⟨d0, h0⟩, hk⟩ S1 fs1 ko1 g1 r1 => ?_⟩
    obtain ⟨q, hq, _⟩ := own_at S1 h0
    refine ⟨.ref q, hq, ρ1, F1, [], _, S1, hk, fun kd ρ2 kv F2 H2 ⟨kk, ks, vs, ek, h2, hl, hk2⟩ S2 fs2 ko2 g2 r2 => ?_⟩
    subst ek
    obtain ⟨q', hq', kvs, hvs, hks, rv⟩ := own_at S2 h2
    rw [hq] at hq'
    cases hq'
    have hks : ks = kvs.map (·.1) := kD_map (by rw [hks, List.map_map]; rfl)
    subst hks
    refine ⟨q, _, rfl, .inl ⟨kvs, kk, hvs, (r2.bv S2).key, by rw [List.length_map] at hl; exact Nat.lt_of_lt_of_le hl big_line, rfl⟩, ?_⟩
    exact k1 _ σ F2 _ hk2 (S2.write hq h2 (o := .dK (putK kvs kk v)) ⟨by rw [← putK_keys kk v, List.map_map]; rfl, putK_vals kk (Rep.same fs2 r1) rv⟩) (fs1.trans fs2)⟩
/-- k in x, x a dict -/
def wDin {R : Rgn} (n : Bool) (wk we : WE R) : WE R := fun ρ K => wk ρ fun kd ρ1 => we ρ1 fun d ρ2 => ∃ (k : Key) (ks : List Key) (vs : List D), kd = kD k ∧ d = .dct (ks.map kD) vs ∧ K (.bl (xr n (decide (k ∈ ks)))) ρ2
theorem din_ok {n : Bool} {wa : WE c.R} (he : DE X c pb bb b wb) (ha : DE X c pa false a wa) {σ : L2.St} {H : Hp} {Q : VK} (h : liftE c (pa && pb) false (wDin n wa wb) σ H Q) :
    liftE c pa false wa σ H fun y H1 => liftE c pb bb wb σ H1 fun x H2 => ∃ a o, x = .ref a ∧ DGet H2 a y o ∧ Q (.bl (xr n o.isSome)) H2 := by
  obtain ⟨ρ, F, O, Kk, S, w, k⟩ := h
  refine ⟨ρ, F, O, _, S, w, fun x ρ1 v F1 H1 hk S1 fs1 ko1 g1 r1 => ⟨ρ1, F1, O, _, S1, hk, fun d ρ2 u F2 H2 ⟨kk, ks, vs, ek, ed, kz⟩ S2 fs2 ko2 g2 r2 => ?_⟩⟩
  subst ek
  subst ed
  obtain ⟨q, kvs, rfl, h1, hks, r⟩ := (r2.bv S2).dct S2.sub
  have hks : ks = kvs.map (·.1) := kD_map (by rw [hks, List.map_map]; rfl)
  subst hks
  refine ⟨q, _, rfl, .inl ⟨kvs, kk, h1, (r1.bv S1).key, rfl⟩, ?_⟩
  have e : (valV kvs kk).isSome = decide (kk ∈ kvs.map (·.1)) := by rw [← valV_any, any_key]
  rw [e]
  refine k _ ρ2 _ F2 H2 kz S2 (fs1.trans fs2) (fun q hq => by rw [ko2 q hq, ko1 q hq]) (fun e => ?_) (.bl _)
  rw [Bool.and_eq_true] at e
  obtain ⟨e1, q1⟩ := g1 e.1
  obtain ⟨e2, q2⟩ := g2 e.2
  exact ⟨e2.trans e1, q1.trans q2⟩
theorem de_din {wa : WE c.R} (hr : Room j X.A) (ha : DE X c pa false a wa) (hb : DE X c pb bb b wb) (hm : behindInMarks .In b = false := by rfl) : DE X c (pa && pb) false (.Compare a [.In] [b] pos) (wDin false wa wb) :=
  ⟨(pe_cmp (pc_din (hu_of hr) ha.pe hb.pe) hm).imp fun σ H Q h => din_ok hb ha h, ha.kk⟩
theorem de_dni {wa : WE c.R} (hr : Room j X.A) (ha : DE X c pa false a wa) (hb : DE X c pb bb b wb) (hm : behindInMarks .NotIn b = false := by rfl) : DE X c (pa && pb) false (.Compare a [.NotIn] [b] pos) (wDin true wa wb) :=
  ⟨(pe_cmp (pc_dnotin (hu_of hr) ha.pe hb.pe) hm).imp fun σ H Q h => din_ok hb ha h, ha.kk⟩
theorem dt_din {wa : WE c.R} (hr : Room j X.A) (ha : DE X c pa false a wa) (hb : DE X c pb bb b wb) (hm : behindInMarks .In b = false := by rfl) : DT X c (pa && pb) (.Compare a [.In] [b] pos) (wTest (wDin false wa wb)) :=
  ⟨(pt_cmp (pc_din (hu_of hr) ha.pe hb.pe) hm).imp fun σ H Q h => din_ok hb ha (test_ok (ba := false) h)⟩
theorem dt_dni {wa : WE c.R} (hr : Room j X.A) (ha : DE X c pa false a wa) (hb : DE X c pb bb b wb) (hm : behindInMarks .NotIn b = false := by rfl) : DT X c (pa && pb) (.Compare a [.NotIn] [b] pos) (wTest (wDin true wa wb)) :=
  ⟨(pt_cmp (pc_dnotin (hu_of hr) ha.pe hb.pe) hm).imp fun σ H Q h => din_ok hb ha (test_ok (ba := false) h)⟩
/-- x[k], x a dict -/
def wDget {R : Rgn} (we wk : WE R) : WE R := fun ρ K => we ρ fun d ρ1 => wk ρ1 fun kd ρ2 => ∃ (k : Key) (ks : List Key) (vs : List D) (z : D), kd = kD k ∧ d = .dct (ks.map kD) vs ∧ valD ks vs k = some z ∧ K z ρ2
theorem de_dget (hr : Room j X.A) (ha : DE X c pa ba e we) (hb : DE X c pb bb e2 wk) (hs : ba = false ∨ pb = true := by first | exact .inl rfl | exact .inr rfl) (hi : NoSl e2 := by exact fun _ _ => rfl) : DE X c (pa && pb) false (.Subscript e e2 pos) (wDget we wk) :=
  ⟨(pe_dget (hu_of hr) ha.pe hb.pe hi).imp fun σ H Q ⟨ρ, F, O, Kk, S, w, k⟩ => ⟨ρ, F, O, _, S, w, fun x ρ1 v F1 H1 hk S1 fs1 ko1 g1 r1 => ⟨ρ1, F1, O, _, S1, hk, fun kd ρ2 u F2 H2 ⟨kk, ks, vs, z, ek, ed, hz, kz⟩ S2 fs2 ko2 g2 r2 => by
    subst ek
    subst ed
    have c1 : VRep c.K F2 σ ρ2.sl v _ ba := r1.carry fs2 (hs.imp id fun e => by rw [(g2 e).1])
    obtain ⟨q, kvs, rfl, h1, hks, r⟩ := (c1.bv S2).dct S2.sub
    have hks : ks = kvs.map (·.1) := kD_map (by rw [hks, List.map_map]; rfl)
    subst hks
    obtain ⟨y, hy, ry⟩ := valD_of kk r z hz
    refine ⟨q, y, rfl, .inl ⟨kvs, kk, h1, (r2.bv S2).key, hy.symm⟩, ?_⟩
    refine k z ρ2 y F2 H2 kz S2 (fs1.trans fs2) (fun q hq => by rw [ko2 q hq, ko1 q hq]) (fun e => ?_) ry
    rw [Bool.and_eq_true] at e
    obtain ⟨e1, q1⟩ := g1 e.1
    obtain ⟨e2, q2⟩ := g2 e.2
    exact ⟨e2.trans e1, q1.trans q2⟩⟩⟩, ha.kk⟩
/-- list(x), x a dict -/
def keysD : D → Option D
  | .dct ks _ => some (.lst ks)
  | _ => none
theorem reps_keys {K : PySem.W.Frag} {F : Hp} : ∀ kvs : List (Key × V), Reps K F (kvs.map fun kv => kV kv.1) (kvs.map fun kv => kD kv.1)
  | [] => .nil
  | kv :: kvs => .cons (rep_key kv.1) (reps_keys kvs)
def rListR : List V → Hp → VK → Prop := fun xs H Q => ∃ p kvs, xs = [.ref p] ∧ Rd H p (.dK kvs) ∧ ∀ q, H q = none → Q (.ref q) (upd H q (.lst (kvs.map fun kv => kV kv.1)))
theorem list_dR {X : Cx} (hc : X.calm = true) : CallR X (.type "list") rListR := by
  intro pins s σ H xs us Q I r ⟨p, kvs, e, hk, q⟩
  subst e
  obtain ⟨u, e, rx⟩ := vals1 r
  subst e
  cases rx
  obtain ⟨z, lo, ws, rel, dd⟩ := dk_rd I.hok hk
  obtain ⟨ep, at_⟩ := dd.dictAt
  have len : kvs.length = ws.length := Paired.length rel
  refine PySem.W.kdl_call (PySem.W.kdl_dict (knd := mixKind X.prog X.w) (kvs := ws) (ep := ep) lo) (I.ok.hd hc) at_ (by omega) fun h' tk out n keep new told => ?_
  have sz : out.toList.length = out.size := by simp
  refine ⟨.ref s.heap.objs.size, _, I.laid (o := .lst (kvs.map fun kv => kV kv.1)) keep (Nat.le_refl _) ⟨by rw [List.length_map]; exact z, out.toList, n, ?_, by rw [Array.toArray_toList]; exact new⟩, rfl, q _ (I.hok.fresh (Nat.le_refl _))⟩
  refine vals_of_at (by rw [List.length_map, sz, told.1, len]) fun i x w e1 e2 => ?_
  obtain ⟨k, y, e3, is⟩ := told.2 i w (by rw [← Array.getElem?_toList]; exact e2)
  have e4 : (kvs.map (·.1))[i]? = some k := by
    rw [KV.keys rel, List.getElem?_map, e3]
    rfl
  rw [show (kvs.map fun kv => kV kv.1) = (kvs.map (·.1)).map kV by rw [List.map_map]; rfl, List.getElem?_map, e4] at e1
  cases e1
  exact keyIs_rel is
theorem keys_ok {K : PySem.W.Frag} : R1F K rListR keysD := fun {F H v x z Q} s bx hz k => by
  cases x <;> simp only [keysD, reduceCtorEq] at hz
  cases hz
  obtain ⟨p, kvs, rfl, h1, n, r⟩ := bx.dct s
  exact ⟨p, kvs, rfl, h1, fun l hl => k l _ hl (by rw [n]; exact reps_keys kvs)⟩
theorem fe_listK (hm : X.mg "list" = none) (ha : DE X c pa ba e we) (hc : X.calm = true := by rfl) (hg : Gl X "list" := by rfl)
    (he : starEach [e] X.env = (false, eval e X.env) :: starEach [] X.env := by rfl) (hpl : (backTo pos (starEach [] X.env)).any (·.1) = false := by rfl) : FE X c pa (.Call (.Name "list" p) [e] [] pos) (wUn keysD we) :=
  fe_t1 (list_dR hc) keys_ok hm ha hg (by decide +kernel) (by decide) (by decide) he hpl
/-- dict([(k, v), ..]) -/
def pairD : Key → D → D := fun k v => .tup [kD k, v]
def wDict {R : Rgn} (we : WE R) : WE R := fun ρ K => we ρ fun d ρ1 => ∃ (ks : List Key) (vs : List D), d = .lst (List.zipWith pairD ks vs) ∧ ks.length = vs.length ∧ ks.Nodup ∧ K (.dct (ks.map kD) vs) ρ1
theorem pairs_of {K : PySem.W.Frag} {F : Hp} : ∀ {us : List V} {ks : List Key} {vs : List D}, Reps K F us (List.zipWith pairD ks vs) → ks.length = vs.length → ∃ (ps : List Addr) (kvs : List (Key × V)), us = ps.map V.ref ∧ Paired (fun p kv => SqT K F p [kV kv.1, kv.2]) ps kvs ∧ kvs.map (·.1) = ks ∧ Reps K F (kvs.map (·.2)) vs
  | _, [], [], h, _ => by cases h; exact ⟨[], [], rfl, .nil, rfl, .nil⟩
  | _, [], _ :: _, _, h => by cases h
  | _, _ :: _, [], _, h => by cases h
  | _, k :: ks, v :: vs, h, e => by
    rw [List.zipWith_cons_cons] at h
    cases h with
    | cons r t =>
      cases r with
      | tup hs rr =>
        cases rr with
        | cons r1 rr =>
          cases rr with
          | cons r2 rr =>
            cases rr
            obtain ⟨ps, kvs, e1, h1, h2, h3⟩ := pairs_of t (by simpa using e)
            refine ⟨_ :: ps, (k, _) :: kvs, by rw [e1]; rfl, .cons ?_ h1, by rw [List.map_cons, h2], .cons r2 h3⟩
            have := r1.key
            subst this
            exact SqT.of hs
theorem putK_fresh {kvs : List (Key × V)} {k : Key} {v : V} (h : k ∉ kvs.map (·.1)) : putK kvs k v = kvs ++ [(k, v)] := by
  unfold putK
  rw [any_key, if_neg (by simpa using h)]
theorem mergeK_nodup : ∀ {kvs acc : List (Key × V)}, ((acc ++ kvs).map (·.1)).Nodup → mergeK acc kvs = acc ++ kvs
  | [], acc, _ => by rw [List.append_nil]; rfl
  | (k, v) :: kvs, acc, h => by
    have hk : k ∉ acc.map (·.1) := fun m => by
      rw [List.map_append, List.map_cons] at h
      exact (List.nodup_append.mp h).2.2 k m k (by simp) rfl
    show mergeK (putK acc k v) kvs = acc ++ (k, v) :: kvs
    rw [putK_fresh hk, mergeK_nodup (by rw [List.append_assoc]; exact h), List.append_assoc]
    rfl
theorem Paired.impl {α β : Type} {P Q : α → β → Prop} (h : ∀ a b, P a b → Q a b) : ∀ {xs : List α} {ys : List β}, Paired P xs ys → Paired Q xs ys
  | _, _, .nil => .nil
  | _, _, .cons p t => .cons (h _ _ p) (Paired.impl h t)
theorem fe_dict (hm : X.mg "dict" = none) (ha : DE X c pa ba e we) (hc : X.calm = true := by rfl) (hg : Gl X "dict" := by rfl)
    (he : starEach [e] X.env = (false, eval e X.env) :: starEach [] X.env := by rfl) (hpl : (backTo pos (starEach [] X.env)).any (·.1) = false := by rfl) : FE X c pa (.Call (.Name "dict" p) [e] [] pos) (wDict we) :=
  ⟨(pe_callTy (call_dictP (X := X) hc) hg hm (by decide +kernel) (pa_cons ha.pe pa_nil he) (by decide) (by decide) he hpl).imp fun σ H Q ⟨ρ, F, O, Kk, S, w, k⟩ => ⟨ρ, F, O, _, S, w, fun d ρ1 v F1 H1 ⟨ks, vs, ed, hl, nd, hk⟩ S1 fs1 ko1 g1 r1 => by
    subst ed
    obtain ⟨a, us, rfl, h1, r⟩ := (r1.bv S1).lst S1.sub
    obtain ⟨ps, kvs, rfl, h2, h3, h4⟩ := pairs_of r hl
    rw [ha.kk]
    refine ⟨a, ps, kvs, rfl, SqL.of h1, Paired.impl (fun p kv q => SqT.same S1.sub q) h2, fun q hq => ?_⟩
    rw [mergeK_nodup (by rw [List.nil_append, h3]; exact nd), List.nil_append]
    exact k _ ρ1 q (.dK kvs) F1 H1 hk S1 fs1 ko1 g1 hq ⟨by rw [← h3, List.map_map]; rfl, h4⟩⟩, ha.kk⟩
/-! ### {k: v for ..} -/
def dcGo {R : Rgn} (g : WG R) (wt : WB R) (wk wv : WE R) (us : List Nat) (K : List Key → List D → DS R → Prop) : List D → List Key → List D → DS R → Prop
  | [], ks, vs, ρ => K ks vs ρ
  | d :: ds, ks, vs, ρ => g d ρ fun ρ2 => wt ρ2 fun b ρ3 => if b = true then wk ρ3 fun y ρ4 => wv ρ4 fun z ρ5 => ∃ k, y = kD k ∧ dcGo g wt wk wv us K ds (putKs ks k) (putVs ks vs k z) ⟨ρ5.g, wipeL ρ5.sl us⟩ else dcGo g wt wk wv us K ds ks vs ⟨ρ3.g, wipeL ρ3.sl us⟩
def wDc {R : Rgn} (wi : WI R) (g : WG R) (wt : WB R) (wk wv : WE R) (us : List Nat) : WE R := fun ρ K => wi ρ fun ds ρ1 => ds.length ≤ 100000 ∧ NoOwn ρ1.sl us ∧ dcGo g wt wk wv us (fun ks vs ρ2 => K (.dct (ks.map kD) vs) ⟨ρ2.g, backL ρ1.sl ρ2.sl us⟩) ds [] [] ⟨ρ1.g, wipeL ρ1.sl us⟩
theorem putKs_length (ks : List Key) (k : Key) : (putKs ks k).length ≤ ks.length + 1 := by unfold putKs; split <;> simp
theorem dc_ok {us : List Nat} {σ : L2.St} {H : Hp} {Q : VK} (h : liftF c false (wDc wi g wt wk wv us) σ H Q) (hv : ∀ i ∈ ts, i ∈ us) : tDc (liftI c wi) (liftG c ts g) (liftT c false wt) (liftE c pa false wk) (liftE c pb false wv) us σ H Q := by
  obtain ⟨ρ, F, O, Kk, S, w, k⟩ := h
  refine ⟨ρ, F, O, _, S, w, fun ds ρ1 F1 H1 J ⟨hz, no, hk⟩ S1 fs1 ko1 wk' L hD => ?_⟩
  have nDO : L ∉ O := fun m => (S1.out L m).2.2 hD
  refine ⟨fun i m H' => ∃ (F' : Hp) (ρ' : DS c.R) (kvs : List (Key × V)) (vs : List D), m = ds.length - i ∧ i ≤ ds.length ∧ St c F' (L :: O) (wipe σ us) ρ' H' ∧ Same F1 F' ∧ (∀ a ∈ O, H' a = H1 a) ∧ H' L = some (.dK kvs) ∧ Reps c.K F' (kvs.map (·.2)) vs ∧ kvs.length ≤ i ∧
    dcGo g wt wk wv us (fun ks vs ρ2 => Kk (.dct (ks.map kD) vs) ⟨ρ2.g, backL ρ1.sl ρ2.sl us⟩) (ds.drop i) (kvs.map (·.1)) vs ρ', ⟨ds.length, F1, ⟨ρ1.g, wipeL ρ1.sl us⟩, [], [], rfl, Nat.zero_le _, (S1.wiped us).protect hD, Same.refl _, fun a m => upd_ne fun z => nDO (by rw [← z]; exact m), upd_same, .nil, Nat.le_refl _, hk⟩, ?_⟩
  rintro i m H' ⟨F', ρ', kvs, vs, rfl, hi, S', fs', ko', hacc, rac, hla, hw⟩
  by_cases hlt : i < ds.length
  · obtain ⟨hgo, hy⟩ := wk'.go F' H' i fs' S'.sbt hlt
    refine .inr ⟨hgo, fun H2 => ∃ (F2 : Hp) (ρ2 : DS c.R) (kvs2 : List (Key × V)) (vs2 : List D), St c F2 (L :: O) (wipe σ us) ρ2 H2 ∧ Same F1 F2 ∧ (∀ a ∈ O, H2 a = H1 a) ∧ H2 L = some (.dK kvs2) ∧ Reps c.K F2 (kvs2.map (·.2)) vs2 ∧ kvs2.length ≤ i + 1 ∧
      dcGo g wt wk wv us (fun ks vs ρ2 => Kk (.dct (ks.map kD) vs) ⟨ρ2.g, backL ρ1.sl ρ2.sl us⟩) (ds.drop (i + 1)) (kvs2.map (·.1)) vs2 ρ2, fun H2 ⟨F2, ρ2, kvs2, vs2, q1, q2, q3, q4, q5, q6, q7⟩ => ⟨ds.length - (i + 1), by omega, F2, ρ2, kvs2, vs2, rfl, hlt, q1, q2, q3, q4, q5, q6, q7⟩, fun x H2 y => ?_⟩
    obtain ⟨d, F2, hd, al, rp⟩ := hy x H2 y
    rw [List.drop_eq_getElem_cons hlt] at hw
    have e : d = ds[i] := by
      rw [List.getElem?_eq_getElem hlt] at hd
      exact (Option.some.inj hd).symm
    subst e
    have S2 := S'.grow (al.grow S'.sub)
    have fs2 : Same F1 F2 := fs'.trans (al.fs S'.sub)
    have k2 : ∀ a ∈ L :: O, H2 a = H' a := ko_al S' al
    refine ⟨ρ', F2, L :: O, _, ds[i], S2, rp, hw, fun ρ3 σ3 hk3 S3 w3 => ⟨?_, ρ3, F2, L :: O, _, S3, hk3, fun b ρ4 F4 H4 hk4 S4 fs4 ko4 _ => ?_⟩⟩
    · rw [w3 us hv, wipe_twice fun _ m => m]
    have w3' : wipe σ3 us = wipe σ us := by rw [w3 us hv, wipe_twice fun _ m => m]
    have a4 : H4 L = some (.dK kvs) := by rw [ko4 L (by simp), k2 L (by simp), hacc]
    have o4 : ∀ a ∈ O, H4 a = H1 a := fun a m => by rw [ko4 a (by simp [m]), k2 a (by simp [m]), ko' a m]
    have r4 := (rac.same (al.fs S'.sub)).same fs4
    cases b with
    | false =>
      rw [if_neg (by decide)] at hk4
      refine itF ?_
      exact ⟨F4, _, kvs, vs, by rw [← w3']; exact S4.wiped us, fs2.trans fs4, o4, a4, r4, Nat.le_succ_of_le hla, hk4⟩
    | true =>
      rw [if_pos rfl] at hk4
      refine itT ?_
      refine ⟨ρ4, F4, L :: O, _, S4, hk4, fun y ρ5 u F5 H5 hk5 S5 fs5 ko5 _ r5 => ⟨ρ5, F5, L :: O, _, S5, hk5, fun z ρ6 v F6 H6 ⟨kk, ek, hk6⟩ S6 fs6 ko6 _ r6 => ?_⟩⟩
      subst ek
      have r6 : Rep c.K F6 v z := r6
      refine ⟨kvs, kk, (r5.bv S5).key, by rw [ko6 L (by simp), ko5 L (by simp), a4], by have := big_line; omega, F6, _, putK kvs kk v, putVs (kvs.map (·.1)) vs kk z, ?_, fs2.trans (fs4.trans (fs5.trans fs6)), fun a m => ?_, upd_same, putK_vals kk r6 ((r4.same fs5).same fs6), ?_, by rw [putK_keys]; exact hk6⟩
      · rw [← w3']; exact (S6.writeO (by simp)).wiped us
      · rw [upd_ne (fun z => nDO (by rw [← z]; exact m)), ko6 a (by simp [m]), ko5 a (by simp [m]), o4 a m]
      · have h1 := congrArg List.length (putK_keys kk v kvs)
        have h2 := putKs_length (kvs.map (·.1)) kk
        rw [List.length_map] at h1 h2
        omega
  · have e : i = ds.length := by omega
    subst e
    rw [List.drop_length] at hw
    refine .inl ⟨wk'.stop F' H' fs' S'.sub, ?_⟩
    have S3 := S1.back no (S'.release nDO) fs'
    unfold dcGo at hw
    have := k (.dct ((kvs.map (fun x => x.1)).map kD) vs) ⟨ρ'.g, backL ρ1.sl ρ'.sl us⟩ L (.dK kvs) F' (gone H' L) hw S3 (fs1.trans fs') (fun a m => by rw [gone_ne (fun z => nDO (by rw [← z]; exact m)), ko' a m, ko1 a m]) (fun z => by cases z) gone_at ⟨by rw [List.map_map]; rfl, rac⟩
    rw [gone_upd hacc] at this
    exact this
theorem fe_dc {scope : Scope} {own : List (Str × Nat)} (hr : Room j X.A) (hN : X.N.Nodup) (hi : DI X c tg iter wi) (ok : BlkOk X.N X.env.scope scope own)
    (hg : ∀ (s : Shared) (H : Hp) (C : Addr) (cl : List (Str × Addr)) (fp : List Addr), DG (X.blk s H scope (compEnvC scope cl C X.env) fp) c tg ts g) (ht : ∀ (s : Shared) (H : Hp) (C : Addr) (cl : List (Str × Addr)) (fp : List Addr), DTs (X.blk s H scope (compEnvC scope cl C X.env) fp) c ifs wt)
    (he : ∀ (s : Shared) (H : Hp) (C : Addr) (cl : List (Str × Addr)) (fp : List Addr), DE (X.blk s H scope (compEnvC scope cl C X.env) fp) c pa false kx wk) (he2 : ∀ (s : Shared) (H : Hp) (C : Addr) (cl : List (Str × Addr)) (fp : List Addr), DE (X.blk s H scope (compEnvC scope cl C X.env) fp) c pb false vx wv)
    (hv : ∀ i ∈ ts, i ∈ own.map (·.2) := by decide) (hk : X.K = c.K := by rfl) (hc : X.calm = true := by rfl)
    (hs : ∀ x, foldedSetIterable iter X.env x = pure x := by intro _; rfl) : FE X c false (.DictComp kx vx [⟨tg, iter, ifs, 0⟩] scope pos) (wDc wi g wt wk wv (own.map (·.2))) :=
  ⟨(pe_dc hc hN hi.pi ok (fun s H C cl fp => (hg s H C cl fp).pg) (fun s H C cl fp => (ht s H C cl fp).pts) (fun s H C cl fp => (he s H C cl fp).pe) (fun s H C cl fp => (he2 s H C cl fp).pe) hs).imp fun σ H Q h => dc_ok h hv, hk⟩
end
end Q

set_option Elab.async false
set_option linter.all false
set_option maxRecDepth 100000
set_option maxHeartbeats 4000000
/-! own ==, !=, len of instances -/
namespace Q
open PySem PySem.Spec PyProof.Rows L2
section
open PySem.W
variable {prog : Program} {w : World} {A : Around} {E : Value → Shared → Prop} {s : Shared} {K : Frag} {x C L f : Addr} {h₀ : Heap} {m : Str → Option Value} {ox : Obj} {od : Option Obj} {name : Str} {b tb : Value}
theorem ifBound_B {M : Model} {B id : String} {args : List Value} {R : Option Value → Shared → Prop} (inK : K.In s.heap) (I : InstAt s.heap x ox C od) (found : findIn K (.ref C) name = some (some (.builtin id))) (S : Slot B name id)
    (h : wpAny M A (call (.builtin id) (.ref x :: args)) (fun v => R (some v)) E s) : wpAny M A (callSpecialIfBound? (.ref x) name args) R E s := by
  simp only [bindSpecialIfBound?, callSpecialIfBound?]
  refine wpAny_holding (wpAny_bind (wpAny_bind (wpAny_bind (I.type.here ((looks_findIn inK found).here ?_)))))
  simp only [S.bind]
  refine wpAny_bind ?_
  refine wpAny_askSetting ?_
  refine wpAny_ite ?_
  have ends : wpAny M A (call (.builtin id) ([.ref x] ++ args) >>= fun v => pure (some v)) R E s := wpAny_bind (wpAny_mono h (fun v s' h' => wpAny_pure h') fun _ _ h' => h')
  split
  · exact wpAny_bind (wpAny_pure (wpAny_pure ends))
  · exact wpAny_tryCatch (wpAny_bind (wpAny_pure (wpAny_pure ends)))
theorem ne_inst {R : Value → Shared → Prop} (room : A.units + 1 < cLine) (G : Fr h₀ L s.heap m) (X₀ : K.In h₀) (I : InstAt s.heap x ox C od) (tyb : Looks (model prog w) s.heap (typeOf b) tb) (nf : notFirst K C tb = true)
    (hne : findIn K (.ref C) "__ne__" = some (some (.builtin "object.__ne__"))) (found : findIn K (.ref C) "__eq__" = some (some (.ref f))) (hf : isFn K (.ref f) = true) (hm : mroIn K C (.type "object") = some true)
    (h : wpAny (model prog w) A.in1 (call (.ref f) [.ref x, b]) (fun v s' => ∃ k, v = .bool k ∧ R (.bool !k) s') E s) : wpAny (model prog w) A (richCompare .NotEq (.ref x) b) R E s := by
  have inK := X₀.keeps G.keep
  have inner : wpAny (model prog w) A.in1 (Builtin.«object.__ne__» ⟨[.ref x, b], []⟩) (fun fl s' => ∃ k, fl = .done (.ret (.bool k)) ∧ R (.bool k) s') E s := by
    unfold Builtin.«object.__ne__»; refine wpAny_bind (m := slotArgs "__ne__" 1 _) (wpAny_pure ?_)
    refine wpAny_bind (wpAny_cRoomFor room ?_)
    refine wpAny_bind (ifBound_K inK I found hf (wpAny_mono h (fun v s' hv => ?_) fun _ _ e => e))
    obtain ⟨k, rfl, told⟩ := hv
    refine wpAny_bind (wpAny_truthy_bool ?_)
    exact wpAny_pure ⟨_, rfl, told⟩
  have once : wpAny (model prog w) A (tryCompare (.ref x) "__ne__" b) (fun r s' => ∃ v, r = some v ∧ R v s') E s := by
    unfold tryCompare
    refine wpAny_bind (ifBound_B inK I hne PySem.F.cmp_object.ne (wpAny_call (codeAny_call_builtin PySem.F.cmp_object.ne.plain PySem.F.cmpEntry_ne (check_slot PySem.F.cmpKind_ne PySem.F.cmpSplit_ne (I.type.andThen (looks_mroIn inK hm)) (PySem.F.cmpArgs_ne _ _)
      (wpAny_mono inner (fun fl s' hv => ?_) fun _ _ e => e)))))
    obtain ⟨k, rfl, told⟩ := hv
    exact wpAny_pure ⟨_, rfl, told⟩
  unfold richCompare
  simp only [oneThing_ref]
  refine wpAny_holding (wpAny_bind (wpAny_cRoomFor (by omega) ?_))
  refine wpAny_bind (I.type.here (wpAny_bind (tyb.here ?_)))
  split
  · rename_i q
    have noSub : subIn K tb (.ref C) = some false := by
      rcases Bool.or_eq_true_iff.mp nf with is | is
      · rw [beq_iff_eq.mp is] at q; simp at q
      · exact beq_iff_eq.mp is
    refine wpAny_bind ((looks_subIn inK noSub).here ?_)
    simp only [if_false, Bool.false_eq_true]
    refine wpAny_bind ?_
    refine wpAny_mono once (fun r s1 z => ?_) fun _ _ q => q
    obtain ⟨v, rfl, told⟩ := z
    exact wpAny_pure told
  · refine wpAny_bind ?_; refine wpAny_pure ?_
    simp only [if_false, Bool.false_eq_true]
    refine wpAny_bind ?_
    refine wpAny_mono once (fun r s1 z => ?_) fun _ _ q => q
    obtain ⟨v, rfl, told⟩ := z
    exact wpAny_pure told
end
section
variable {X : Cx} {C g : Addr} {n : Nat} {sp : Sp}
def rOwnC (K : PySem.W.Frag) (C : Addr) (neg : Bool) (sp : Sp) : R2 := fun x y H Q => ∃ a dx fs t, x = .ref a ∧ H a = some (.ins C dx fs) ∧ TyX K H y t ∧ PySem.W.notFirst K C t = true ∧ sp [x, y] H (fun z H' => ∃ b, z = .bl b ∧ Q (.bl (xr neg b)) H') E0
theorem op_ownE (hs : PySem.W.findIn X.K (.ref C) "__eq__" = some (some (.ref g))) (hf : PySem.W.isFn X.K (.ref g) = true) (F : L2.FnR X.prog X.w X.K X.mg X.base CX0 n g sp) (hr : Room n X.A) : OpR X (compareOp .Eq) (rOwnC X.K C false sp) := by
  intro pn s σ H x y v u Q I rX rY h
  obtain ⟨a, dx, fs, t, rfl, ha, ty, hn, q⟩ := h
  have rX' := rX
  cases (show v = .ref a from rX)
  obtain ⟨attrs, J1, _⟩ := ins_get I.hok ha
  obtain ⟨od, J1, _⟩ := J1.look
  obtain ⟨P, kx, hp, _⟩ := kit_of I rY ty
  obtain ⟨m, hF⟩ := I.fr
  show wpAny (model X.prog X.w) X.A (richCompare .Eq (.ref a) u) (EP X pn σ Q) X.xe s
  refine PySem.W.cmp_K (op := .Eq) hr.units0 hF I.ok.mod.kin J1 (kx.ty _ _ I.kIn hp) hn hs hf ?_
  refine wpAny_mono (wpAny_call (run_fnR (us := [.ref a, u]) F hr pass0 I (.cons rX' (.cons rY .nil)) q)) (fun w s' z => ?_) fun _ _ x => x
  obtain ⟨z', H', I', rZ, b, rfl, qz⟩ := z
  exact SlX.cmpback rZ ⟨_, H', I', rZ, qz⟩
theorem op_ownN (hne : PySem.W.findIn X.K (.ref C) "__ne__" = some (some (.builtin "object.__ne__"))) (hs : PySem.W.findIn X.K (.ref C) "__eq__" = some (some (.ref g))) (hf : PySem.W.isFn X.K (.ref g) = true) (hm : PySem.W.mroIn X.K C (.type "object") = some true)
    (F : L2.FnR X.prog X.w X.K X.mg X.base CX0 n g sp) (hr : Room (n + 1) X.A) : OpR X (compareOp .NotEq) (rOwnC X.K C true sp) := by
  intro pn s σ H x y v u Q I rX rY h
  obtain ⟨a, dx, fs, t, rfl, ha, ty, hn, q⟩ := h
  have rX' := rX
  cases (show v = .ref a from rX)
  obtain ⟨attrs, J1, _⟩ := ins_get I.hok ha
  obtain ⟨od, J1, _⟩ := J1.look
  obtain ⟨P, kx, hp, _⟩ := kit_of I rY ty
  obtain ⟨m, hF⟩ := I.fr
  show wpAny (model X.prog X.w) X.A (richCompare .NotEq (.ref a) u) (EP X pn σ Q) X.xe s
  refine ne_inst (by have := hr.units; omega) hF I.ok.mod.kin J1 (kx.ty _ _ I.kIn hp) hn hne hs hf hm ?_
  refine wpAny_mono (wpAny_call (SlX.run_at (us := [.ref a, u]) F hr.in1 I.env0.in1 pass0 I (.cons rX' (.cons rY .nil)) q)) (fun w s' z => ?_) fun _ _ x => x
  obtain ⟨z', H', I', rZ, b, rfl, qz⟩ := z
  cases (show w = Value.bool b from rZ)
  exact ⟨b, rfl, .bl (!b), H', I', rfl, qz⟩
def rOwnL (C : Addr) (sp : Sp) : List V → Hp → VK → Prop := fun xs H Q => ∃ a dx fs, xs = [V.ref a] ∧ H a = some (.ins C dx fs) ∧ sp xs H (fun z H' => ∃ i : Int, z = .int i ∧ 0 ≤ i ∧ i < 2 ^ 63 ∧ Q (.int i) H') E0
theorem call_lenO (hs : PySem.W.findIn X.K (.ref C) "__len__" = some (some (.ref g))) (hf : PySem.W.isFn X.K (.ref g) = true) (F : L2.FnR X.prog X.w X.K X.mg X.base CX0 n g sp) (hr : Room (n + 1) X.A) : CallR X (.builtin "len") (rOwnL C sp) := by
  intro pn s σ H xs us Q I r h
  obtain ⟨a, dx, fs, rfl, atA, q⟩ := h
  have ha := atA
  obtain ⟨u, rfl, ru⟩ := r.one
  have ru' := ru
  cases (show u = .ref a from ru)
  obtain ⟨attrs, J1, _⟩ := ins_get I.hok ha
  obtain ⟨od, J1, _⟩ := J1.look
  obtain ⟨m, hF⟩ := I.fr
  refine PySem.W.len_K hF I.ok.mod.kin J1 hs hf ?_
  refine wpAny_mono (wpAny_call (SlX.run_at (us := [.ref a]) F hr.in1 I.env0.in1 pass0 I (.cons ru' .nil) q)) (fun w s' z => ?_) fun _ _ x => x
  obtain ⟨z', H', I', rZ, i, rfl, h0, h1, qz⟩ := z
  obtain ⟨t, e⟩ := (show ∃ tk, w = Value.int i tk from rZ)
  cases e
  exact ⟨⟨h0, h1⟩, .int i, H', I'.tok _, ⟨_, rfl⟩, qz⟩
end
end Q

set_option Elab.async false
set_option linter.all false
set_option maxRecDepth 100000
set_option maxHeartbeats 4000000
/-! names set side by side, *, pop, instances -/
namespace Q
open PySem PySem.Spec PyProof.Rows L2
section
variable {X : Cx} {c : Ctx} {fr : Bool} {e e2 a b d : Expr} {es : List Expr} {pos p : Pos} {pa pb pd ba bb : Bool} {we wa wb : WE c.R} {was : WA c.R} {j : Nat}
/-! ### x, y = a, b -/
def sPar2 {R : Rgn} (i k : Nat) (wa : WA R) : WS R := fun Dk ρ => wa ρ fun ds ρ1 => ∃ x y, ds = [x, y] ∧ Dk.nx ((ρ1.put i (some (.fz x))).put k (some (.fz y)))
theorem ds_par2 {i k : Nat} {x y : Str} {px py pt : Pos} {kt k2 pt2} (hN : X.N.Nodup) (hij : i ≠ k) (ha : DA X c pa [a, b] was) (hi : X.N[i]? = some x := by rfl) (hj : X.N[k]? = some y := by rfl)
    (hx : X.env.scope.names.lookup x = some .local := by rfl) (hy : X.env.scope.names.lookup y = some .local := by rfl) (hc : X.calm = true := by rfl)
    (hw : swappedStores [.Tuple [.Name x px, .Name y py] kt pt] (.Tuple [a, b] k2 pt2) X.env = pure (some [x, y]) := by rfl)
    (hs : swapsWithSole [.Tuple [.Name x px, .Name y py] kt pt] (.Tuple [a, b] k2 pt2) pos.line X.env = pure false := by rfl) :
    DS1 X c fr (.Assign [.Tuple [.Name x px, .Name y py] kt pt] (.Tuple [a, b] k2 pt2) pos) (sPar2 i k was) :=
  ⟨(ps_par hc hN hi hj hij hx hy ha.pa hw hs).imp fun E σ H ⟨ρ, F, Dk, S, w, k1, k2, k3, k4⟩ => ⟨ρ, F, [], _, S, w, fun ds ρ1 vs F1 H1 ⟨x, y, e, hk⟩ S1 fs1 ko1 g1 r1 => by
    subst e
    cases r1 with
    | cons r r1 =>
      cases r1 with
      | cons r' r1 =>
        cases r1
        exact ⟨_, _, rfl, k1 _ _ F1 H1 hk ((S1.setF r i).setF r' k) fs1⟩⟩⟩
def sPar3 {R : Rgn} (i k l : Nat) (wa : WA R) : WS R := fun Dk ρ => wa ρ fun ds ρ1 => ∃ x y z, ds = [x, y, z] ∧ Dk.nx (((ρ1.put i (some (.fz x))).put k (some (.fz y))).put l (some (.fz z)))
theorem ds_par3 {i k l : Nat} {x y z : Str} {px py pz pt : Pos} {kt k2 pt2} (hN : X.N.Nodup) (hij : i ≠ k ∧ i ≠ l ∧ k ≠ l) (ha : DA X c pa [a, b, d] was) (hi : X.N[i]? = some x := by rfl) (hj : X.N[k]? = some y := by rfl) (hl : X.N[l]? = some z := by rfl)
    (hx : X.env.scope.names.lookup x = some .local := by rfl) (hy : X.env.scope.names.lookup y = some .local := by rfl) (hz : X.env.scope.names.lookup z = some .local := by rfl) (hc : X.calm = true := by rfl)
    (hw : swappedStores [.Tuple [.Name x px, .Name y py, .Name z pz] kt pt] (.Tuple [a, b, d] k2 pt2) X.env = pure (some [x, y, z]) := by rfl)
    (hs : swapsWithSole [.Tuple [.Name x px, .Name y py, .Name z pz] kt pt] (.Tuple [a, b, d] k2 pt2) pos.line X.env = pure false := by rfl) :
    DS1 X c fr (.Assign [.Tuple [.Name x px, .Name y py, .Name z pz] kt pt] (.Tuple [a, b, d] k2 pt2) pos) (sPar3 i k l was) :=
  ⟨(ps_par3 hc hN hi hj hl hij.1 hij.2.1 hij.2.2 hx hy hz ha.pa hw hs).imp fun E σ H ⟨ρ, F, Dk, S, w, k1, k2, k3, k4⟩ => ⟨ρ, F, [], _, S, w, fun ds ρ1 vs F1 H1 ⟨x, y, z, e, hk⟩ S1 fs1 ko1 g1 r1 => by
    subst e
    cases r1 with
    | cons r r1 =>
      cases r1 with
      | cons r' r1 =>
        cases r1 with
        | cons r'' r1 =>
          cases r1
          exact ⟨_, _, _, rfl, k1 _ _ F1 H1 hk (((S1.setF r i).setF r' k).setF r'' l) fs1⟩⟩⟩
/-! ### * -/
def mulD : D → D → Option D
  | .int a, .int b => if -18446744073709551616 < b ∧ b < 18446744073709551616 then some (.int (a * b)) else none
  | .lst ds, .int k => if 0 ≤ k ∧ k ≤ 1000 ∧ ds.length ≤ 100 then some (.lst (List.replicate k.toNat ds).flatten) else none
  | .tup ds, .int k => if 2 ≤ k ∧ k ≤ 1000 ∧ ds ≠ [] ∧ ds.length ≤ 100 then some (.tup (List.replicate k.toNat ds).flatten) else none
  | _, _ => none
theorem Reps.rep {K : PySem.W.Frag} {F : Hp} {vs : List V} {ds : List D} (r : Reps K F vs ds) : ∀ n : Nat, Reps K F (List.replicate n vs).flatten (List.replicate n ds).flatten
  | 0 => .nil
  | n + 1 => by
    rw [List.replicate_succ, List.replicate_succ, List.flatten_cons, List.flatten_cons]
    exact r.append (Reps.rep r n)
def rMulA (K : PySem.W.Frag) : R2 := fun x y H Q => (rI CMul (fun i j => .int (i * j)) x y H Q ∨ rRep x y H Q) ∨ rRepT K x y H Q
theorem mul_ok {K : PySem.W.Frag} : R2D K (rMulA K) mulD := fun {F H v u x y z Q} s bx by' hz k => by
  cases x <;> cases y <;> simp only [mulD, reduceCtorEq] at hz
  case int.int a b =>
    split at hz
    · next h => cases hz; exact .inl (.inl ⟨a, b, bx.int, by'.int, .inr (by have e : (2 : Int) ^ 64 = 18446744073709551616 := by decide
                                                                            rw [e]; exact h), k _ F H .no (.int _)⟩)
    · cases hz
  case lst.int ds i =>
    split at hz
    · next h =>
      cases hz
      obtain ⟨p, vs, rfl, h1, r⟩ := bx.lst s
      have e : (2 : Int) ^ 63 = 9223372036854775808 := by decide
      refine .inl (.inr ⟨p, i, vs, rfl, by'.int, h1, by rw [e]; omega, by rw [e]; omega, ?_, fun l hl => k _ _ _ (Al.one hl) (.lst upd_same ((r.rep i.toNat).same (Same.upd_at s hl)))⟩)
      rw [r.length]
      have h1 : ds.length * i.toNat ≤ 100 * 1000 := Nat.mul_le_mul h.2.2 (by omega)
      exact Nat.le_trans h1 big_line
    · cases hz
  case tup.int ds i =>
    split at hz
    · next h =>
      cases hz
      obtain ⟨p, vs, rfl, h1, r⟩ := bx.tup s
      exact .inr ⟨p, i, vs, rfl, by'.int, h1, fun e => by subst e; cases r; exact h.2.2.1 rfl, h.1, h.2.1, by rw [r.length]; omega, fun l hl => k _ _ _ (Al.one hl) (.tup upd_same ((r.rep i.toNat).same (Same.upd_at s hl)))⟩
    · cases hz
theorem de_mul (ha : DE X c pa ba a wa) (hb : DE X c pb bb b wb) (hs : ba = false ∨ pb = true := by first | exact .inl rfl | exact .inr rfl) : DE X c (pa && pb) false (.BinOp a .Mult b pos) (wOp mulD wa wb) :=
  de_op (((op_mul (X := X)).or op_rep).or op_repT) (by rw [ha.kk]; exact mul_ok) ha hb hs
@[simp] theorem mu_int (a b : Int) : mulD (.int a) (.int b) = if -18446744073709551616 < b ∧ b < 18446744073709551616 then some (.int (a * b)) else none := rfl
@[simp] theorem mu_lst (a : List D) (k : Int) : mulD (.lst a) (.int k) = if 0 ≤ k ∧ k ≤ 1000 ∧ a.length ≤ 100 then some (.lst (List.replicate k.toNat a).flatten) else none := rfl
@[simp] theorem mu_tup (a : List D) (k : Int) : mulD (.tup a) (.int k) = if 2 ≤ k ∧ k ≤ 1000 ∧ a ≠ [] ∧ a.length ≤ 100 then some (.tup (List.replicate k.toNat a).flatten) else none := rfl
/-! ### x.pop(k), x a list of the def's own -/
def wPop {R : Rgn} (i : Nat) (we : WE R) : WE R := fun ρ K => (∃ ds, ρ.sl[i]? = some (some (.own (.lst ds)))) ∧ we ρ fun d ρ1 => ∃ (ds : List D) (n : Nat) (y : D), d = .int (n : Int) ∧ ρ1.sl[i]? = some (some (.own (.lst ds))) ∧ ds[n]? = some y ∧ ds.length ≤ 100000 ∧ K y (ρ1.put i (some (.own (.lst (ds.eraseIdx n)))))
theorem de_pop {i : Nat} {x : Str} {ep pp qp : Pos} (he : DE X c pa ba e we) (hN : X.N[i]? = some x := by rfl) (hv : Vis X.env.scope x := by first | exact .inl rfl | exact .inr (.inl rfl) | exact .inr (.inr rfl))
    (hd : (x == ("__debug__" : Str)) = false := by decide) (hcd : (x == ("__classdict__" : Str)) = false := by decide)
    (hbase : attributeBase (.Name x pp) "pop" X.env (eval (.Name x pp) X.env) = eval (.Name x pp) X.env := by rfl)
    (hfew : ((backTo ep (starEach [e] X.env)).all (fun x => !x.1) && (backToKw ep (keywordEach [] X.env)).all (fun x => x.1.isSome) && decide (([e] : List Expr).length + ([] : List Keyword).length + (if ([] : List Keyword).isEmpty then 0 else 1) < 30)) = true := by rfl)
    (hline : (qp.endLine == ep.line) = true := by rfl) (hst : starEach [e] X.env = (false, eval e X.env) :: starEach [] X.env := by rfl) (hplain : (backTo ep (starEach [] X.env)).any (·.1) = false := by rfl) :
    DE X c false false (.Call (.Attribute (.Name x pp) "pop" qp) [e] [] ep) (wPop i we) :=
  ⟨(pe_bm PySem.F.plainAttrs_list PySem.F.slot_list_pop PySem.F.type_list_pop mt_popAt (pe_var hN hv hd hcd) (pa_cons he.pe pa_nil hst) hbase hfew hline hst hplain).imp fun σ H Q ⟨ρ, F, O, Kk, S, ⟨⟨ds0, h0⟩, w⟩, k⟩ => by
    obtain ⟨q, hq, vs0, hvs0, _⟩ := own_at S h0
    refine ⟨.ref q, hq, .inl ⟨rfl, vs0, SqL.of hvs0⟩, ρ, F, O, _, S, w, fun d ρ1 v F1 H1 ⟨ds, n, y, ed, h2, hy, hz, hk⟩ S1 fs1 ko1 g1 r1 => ?_⟩
    subst ed
    obtain ⟨q', hq', vs, hvs, rv⟩ := own_at S1 h2
    rw [hq] at hq'
    cases hq'
    obtain ⟨z, hz1, rz⟩ := rv.get' hy
    have hn : n < vs.length := (List.getElem?_eq_some_iff.mp hz1).1
    have hvl := rv.length
    have e1 : (2 : Int) ^ 63 = 9223372036854775808 := by decide
    refine ⟨q, vs, (n : Int), n, z, rfl, by rw [(r1.bv S1).int], hvs, by rw [e1]; omega, by rw [e1]; omega, ?_, hz1, ?_⟩
    · unfold seqIndex?
      have : ¬ ((n : Int) < 0) := by omega
      simp [this, hn]
    · exact k y _ z F1 _ hk (S1.write hq h2 (o := .lst (vs.eraseIdx n)) (rv.erase n)) fs1 (fun a ha => by
        obtain ⟨m1, m2, m3⟩ := S1.mine i q ⟨hq, _, h2⟩
        rw [upd_ne (fun z => m3 (by rw [← z]; exact ha))]
        exact ko1 a ha) (fun z => by cases z) rz, he.kk⟩
/-! ### instances -/
def lookD : List Str → List D → Str → Option D
  | n :: ns, x :: xs, f => if f == n then some x else lookD ns xs f
  | _, _, _ => none
theorem lookD_of {K : PySem.W.Frag} {F : Hp} (f : Str) : ∀ {fs : List (Str × V)} {xs : List D}, Reps K F (fs.map (·.2)) xs → ∀ d, lookD (fs.map (·.1)) xs f = some d → ∃ v, fs.lookup f = some v ∧ Rep K F v d
  | [], _, _, d, h => by simp [lookD] at h
  | (n, v) :: fs, _, .cons r t, d, h => by
    rw [List.map_cons] at h
    unfold lookD at h
    rw [List.lookup_cons]
    cases e : f == n with
    | true => rw [e] at h; cases h; exact ⟨_, rfl, r⟩
    | false => rw [e] at h; exact lookD_of f t d h
/-- e.f -/
def wFld {R : Rgn} (C : Addr) (f : Str) (we : WE R) : WE R := fun ρ K => we ρ fun d ρ1 => ∃ ns xs z, d = .ins C ns xs ∧ lookD ns xs f = some z ∧ K z ρ1
theorem de_fld {C : Addr} {f : Str} (hC : Cls c.K C) (hn : NoAttr c.K C f) (he : DE X c pa ba e we) (hb : attributeBase e f X.env (eval e X.env) = eval e X.env := by rfl) : DE X c pa false (.Attribute e f pos) (wFld C f we) :=
  ⟨(pe_fld he.pe hb).imp fun σ H Q ⟨ρ, F, O, Kk, S, w, k⟩ => ⟨ρ, F, O, _, S, w, fun d ρ1 v F1 H1 ⟨ns, xs, z, ed, hz, hk⟩ S1 fs1 ko1 g1 r1 => by
    subst ed
    obtain ⟨a, dx, fs, rfl, h1, e1, r⟩ := (r1.bv S1).ins S1.sub
    subst e1
    obtain ⟨v, hv, rv⟩ := lookD_of f r z hz
    rw [he.kk]
    exact ⟨a, C, dx, fs, v, rfl, h1, hC, hn, hv, k z ρ1 v F1 H1 hk S1 fs1 ko1 g1 rv⟩⟩, he.kk⟩
/-- what is asked of a class for isinstance, ==, != and len -/
structure IsC (K : PySem.W.Frag) (C : Addr) : Prop where
  cls : Cls K C
  ha : PySem.W.findIn K (.ref C) "__class__" = some (some (.builtin "object.__class__"))
  hn : PySem.W.specialIn K (.builtin "object.__class__") "__get__" = some (some (.builtin "getset_descriptor.__get__"))
  ht : PySem.W.takesIn K (.builtin "object.__class__") = some true
  hm : PySem.W.mroIn K C (.type "object") = some true
  it : ∀ t : Ty, PySem.W.kitOne K (.type t.nm) (.ref C) = some false
  nf : ∀ t : Ty, PySem.W.notFirst K C (.type t.nm) = true
theorem IsC.self {K : PySem.W.Frag} {C : Addr} : PySem.W.kitOne K (.ref C) (.ref C) = some true := by
  unfold PySem.W.kitOne
  rw [if_pos (by simp)]
theorem IsC.selfN {K : PySem.W.Frag} {C : Addr} : PySem.W.notFirst K C (.ref C) = true := by simp [PySem.W.notFirst]
def isCD (C : Addr) : D → Option D
  | .ins C' _ _ => if C' = C then some (.bl true) else none
  | x => (kD2 x).map fun _ => .bl false
theorem tyC_of {K : PySem.W.Frag} {F H : Hp} {v : V} {C : Addr} {ns : List Str} {xs : List D} (I : IsC K C) (s : Same F H) (h : BV K F H v (.ins C ns xs)) : TyX K H v (.ref C) := by
  obtain ⟨a, dx, fs, rfl, h1, _⟩ := h.ins s
  exact .base (.ins h1 I.cls I.ha I.hn I.ht I.hm)
theorem isC_cases {C : Addr} {x z : D} (h : isCD C x = some z) : (∃ ns xs, x = .ins C ns xs ∧ z = .bl true) ∨ ∃ t, kD2 x = some t ∧ z = .bl false := by
  cases x <;> simp only [isCD, Option.map_eq_some_iff] at h
  case ins C' ns xs =>
    split at h
    · next e => cases h; subst e; exact .inl ⟨ns, xs, rfl, rfl⟩
    · cases h
  all_goals (obtain ⟨t, h1, h2⟩ := h; exact .inr ⟨t, h1, h2.symm⟩)
theorem de_isC {x : Str} {C : Addr} {p2 : Pos} (hm : X.mg "isinstance" = none) (hC : X.mg x = some (.ref C)) (I : IsC c.K C) (he : DE X c pa ba e we) (hg : Gl X "isinstance" := by rfl) (hgx : Gl X x := by rfl) (hdb : (x == ("__debug__" : Str)) = false := by decide)
    (he1 : starEach [e, .Name x p2] X.env = (false, eval e X.env) :: starEach [.Name x p2] X.env := by rfl) (he2 : starEach [.Name x p2] X.env = (false, eval (.Name x p2) X.env) :: starEach [] X.env := by rfl)
    (hpl : (backTo pos (starEach [.Name x p2] X.env)).any (·.1) = false := by rfl) : DE X c pa false (.Call (.Name "isinstance" p) [e, .Name x p2] [] pos) (wUn (isCD C) we) :=
  ⟨(pe_callB (call_isi (X := X)) hg hm (by decide +kernel) (pa_cons he.pe (pa_cons (pe_glob hgx hC (v := .ref C) rfl hdb) pa_nil he2) he1) (by decide) (by decide) he1 hpl).imp fun σ H Q ⟨ρ, F, O, Kk, S, w, k⟩ => ⟨ρ, F, O, _, S, w, fun x ρ1 v F1 H1 ⟨z, hz, hk⟩ S1 fs1 ko1 g1 r1 => by
    rw [he.kk]
    rcases isC_cases hz with ⟨ns, xs, rfl, rfl⟩ | ⟨t, ht, rfl⟩
    · exact ⟨v, _, _, _, _, rfl, .own _, tyC_of I S1.sub (r1.bv S1), IsC.self, k _ ρ1 _ F1 H1 hk S1 fs1 ko1 g1 (.bl _)⟩
    · exact ⟨v, _, _, _, _, rfl, .own _, ty_of2 S1.sub (r1.bv S1) ht, I.it t, k _ ρ1 _ F1 H1 hk S1 fs1 ko1 g1 (.bl _)⟩⟩, he.kk⟩
/-- x == y, x != y by an own == -/
structure OwnEq (X : Cx) (C : Addr) (n : Nat) (m : WM) : Prop where
  ex : ∃ g, PySem.W.findIn X.K (.ref C) "__eq__" = some (some (.ref g)) ∧ PySem.W.isFn X.K (.ref g) = true ∧ L2.FnR X.prog X.w X.K X.mg X.base CX0 n g (spD X.K m)
  ne : PySem.W.findIn X.K (.ref C) "__ne__" = some (some (.builtin "object.__ne__"))
def wOwnE {R : Rgn} (C : Addr) (neg : Bool) (m : WM) (wa wb : WE R) : WE R := fun ρ K => wa ρ fun x ρ1 => wb ρ1 fun y ρ2 => (∃ ns xs, x = .ins C ns xs) ∧ ((∃ ns xs, y = .ins C ns xs) ∨ ∃ t, kD2 y = some t) ∧ m [x, y] fun d => ∃ b, d = .bl b ∧ K (.bl (xr neg b)) ρ2
theorem ownE_ok {C : Addr} {neg : Bool} {m : WM} (I : IsC c.K C) (ha : DE X c pa false a wa) (hb : DE X c pb false b wb) {σ : L2.St} {H : Hp} {Q : VK} (h : liftE c (pa && pb) false (wOwnE C neg m wa wb) σ H Q) :
    tOp (rOwnC c.K C neg (spD c.K m)) (liftE c pa false wa) (liftE c pb false wb) σ H Q := by
  obtain ⟨ρ, F, O, Kk, S, w, k⟩ := h
  refine ⟨ρ, F, O, _, S, w, fun x ρ1 v F1 H1 hk S1 fs1 ko1 g1 r1 => ⟨ρ1, F1, O, _, S1, hk, fun y ρ2 u F2 H2 ⟨⟨ns, xs, ex⟩, hy, hm⟩ S2 fs2 ko2 g2 r2 => ?_⟩⟩
  subst ex
  have r1' : Rep c.K F2 v (.ins C ns xs) := Rep.same fs2 r1
  obtain ⟨a, dx, fs, rfl, h1, _⟩ := (BV.rep r1' : BV c.K F2 H2 v _).ins S2.sub
  have r2' : Rep c.K F2 u y := r2
  have ty : ∃ t, TyX c.K H2 u t ∧ PySem.W.notFirst c.K C t = true := by
    rcases hy with ⟨ns', xs', rfl⟩ | ⟨t, ht⟩
    · exact ⟨_, tyC_of I S2.sub (r2.bv S2), IsC.selfN⟩
    · exact ⟨_, ty_of2 S2.sub (r2.bv S2) ht, I.nf t⟩
  obtain ⟨t, ty, hnf⟩ := ty
  refine ⟨a, dx, fs, t, rfl, h1, ty, hnf, _, F2, _, S2.sbt, .cons r1' (.cons r2' .nil), hm, fun d v' F' H' ⟨b, ed, hk⟩ gr rp => ?_⟩
  subst ed
  cases rp
  refine ⟨b, rfl, k _ ρ2 _ F' H' hk (S2.grow gr) (fs1.trans (fs2.trans gr.fs)) (fun q hq => by rw [gr.at (S2.out q hq).2.2, ko2 q hq, ko1 q hq]) (fun e => ?_) (.bl _)⟩
  rw [Bool.and_eq_true] at e
  obtain ⟨e1, q1⟩ := g1 e.1
  obtain ⟨e2, q2⟩ := g2 e.2
  exact ⟨e2.trans e1, q1.trans (q2.trans gr)⟩
theorem de_ownE {C : Addr} {m : WM} {n : Nat} (I : IsC c.K C) (O : OwnEq X C n m) (hr : Room j X.A) (ha : DE X c pa false a wa) (hb : DE X c pb false b wb) (hj : n ≤ j := by decide) (hm : behindInMarks .Eq b = false := by rfl) : DE X c (pa && pb) false (.Compare a [.Eq] [b] pos) (wOwnE C false m wa wb) := by
  obtain ⟨g, h1, h2, F⟩ := O.ex
  exact ⟨(pe_cmpR (op_ownE h1 h2 F (hr.mono hj)) ha.pe hb.pe hm).imp fun σ H Q h => by rw [ha.kk]; exact ownE_ok I ha hb h, ha.kk⟩
theorem de_ownN {C : Addr} {m : WM} {n : Nat} (I : IsC c.K C) (O : OwnEq X C n m) (hr : Room j X.A) (ha : DE X c pa false a wa) (hb : DE X c pb false b wb) (hj : n + 1 ≤ j := by decide) (hm : behindInMarks .NotEq b = false := by rfl) : DE X c (pa && pb) false (.Compare a [.NotEq] [b] pos) (wOwnE C true m wa wb) := by
  obtain ⟨g, h1, h2, F⟩ := O.ex
  exact ⟨(pe_cmpR (op_ownN O.ne h1 h2 (by rw [ha.kk]; exact I.hm) F (hr.mono hj)) ha.pe hb.pe hm).imp fun σ H Q h => by rw [ha.kk]; exact ownE_ok I ha hb h, ha.kk⟩
/-- a test by what answers a truth -/
theorem dt_of {e : Expr} {w : WE c.R} (h : DE X c pa ba e w) (he : ∀ whole, isTrue e X.env whole = (do let v ← whole; standAt e.pos; holding [v] (truthy v)) := by intro _; rfl) : DT X c pa e (wTest w) := dt_val h he
/-- len(x) by an own len -/
structure OwnLen (X : Cx) (C : Addr) (n : Nat) (m : WM) : Prop where
  ex : ∃ g, PySem.W.findIn X.K (.ref C) "__len__" = some (some (.ref g)) ∧ PySem.W.isFn X.K (.ref g) = true ∧ L2.FnR X.prog X.w X.K X.mg X.base CX0 n g (spD X.K m)
def wOwnL {R : Rgn} (C : Addr) (m : WM) (we : WE R) : WE R := fun ρ K => we ρ fun x ρ1 => (∃ ns xs, x = .ins C ns xs) ∧ m [x] fun d => ∃ i : Int, d = .int i ∧ 0 ≤ i ∧ i ≤ 1000000 ∧ K (.int i) ρ1
theorem de_lenO {C : Addr} {m : WM} {n : Nat} (hm : X.mg "len" = none) (L : OwnLen X C n m) (hr : Room j X.A) (he : DE X c pa false e we) (hj : n + 1 ≤ j := by decide) (hg : Gl X "len" := by rfl)
    (he1 : starEach [e] X.env = (false, eval e X.env) :: starEach [] X.env := by rfl) (hpl : (backTo pos (starEach [] X.env)).any (·.1) = false := by rfl) : DE X c pa false (.Call (.Name "len" p) [e] [] pos) (wOwnL C m we) := by
  obtain ⟨g, h1, h2, F⟩ := L.ex
  exact ⟨(pe_callB (call_lenO h1 h2 F (hr.mono hj)) hg hm (by decide +kernel) (pa_cons he.pe pa_nil he1) (by decide) (by decide) he1 hpl).imp fun σ H Q ⟨ρ, F, O, Kk, S, w, k⟩ => ⟨ρ, F, O, _, S, w, fun x ρ1 v F1 H1 ⟨⟨ns, xs, ex⟩, hm⟩ S1 fs1 ko1 g1 r1 => by
    subst ex
    have r1' : Rep c.K F1 v (.ins C ns xs) := r1
    obtain ⟨a, dx, fs, rfl, ha, _⟩ := (r1.bv S1).ins S1.sub
    refine ⟨a, dx, fs, rfl, ha, ?_⟩
    rw [he.kk]
    refine ⟨_, F1, _, S1.sbt, .cons r1' .nil, hm, fun d v' F' H' ⟨i, ed, i0, i1, hk⟩ gr rp => ?_⟩
    subst ed
    cases rp
    have e1 : (2 : Int) ^ 63 = 9223372036854775808 := by decide
    exact ⟨i, rfl, i0, by rw [e1]; omega, k _ ρ1 _ F' H' hk (S1.grow gr) (fs1.trans gr.fs) (fun q hq => by rw [gr.at (S1.out q hq).2.2, ko1 q hq]) (fun e => ⟨(g1 e).1, (g1 e).2.trans gr⟩) (.int _)⟩⟩, he.kk⟩
end
end Q

set_option Elab.async false
set_option linter.all false
set_option maxRecDepth 100000
set_option maxHeartbeats 4000000
/-! errors that leave a def -/
namespace Q
open PySem PySem.Spec PyProof.Rows L2
/-- what is wanted of an error: its class, its fields -/
abbrev XW := Addr → List Str → List D → Prop
abbrev WMX := List D → (D → Prop) → XW → Prop
/-- an error's fields, as they lie in the heap behind it -/
structure XdAt (K : PySem.W.Frag) (F' H H' : Hp) (dx : Addr) (ns : List Str) (xs : List D) : Prop where
  f0 : F' dx = none
  h0 : H dx = none
  at_ : ∃ fs : List (Str × V), H' dx = some (.xd fs) ∧ ns = fs.map (·.1) ∧ Reps K F' (fs.map (·.2)) xs
def spX (K : PySem.W.Frag) (m : WMX) : Sp := fun vs H Q E => ∃ (ds : List D) (F : Hp) (Kk : D → Prop) (Xk : XW), SubT F H ∧ Reps K F vs ds ∧ m ds Kk Xk ∧ (∀ d v F' H', Kk d → Grow F H F' H' → Rep K F' v d → Q v H') ∧
  ∀ C ns xs F' H' dx, Xk C ns xs → Grow F H F' H' → XdAt K F' H H' dx ns xs → E (.ref C) (some dx) H'
def XFit (c : Ctx) (E : XK) (Xk : XW) : Prop := ∀ C ns xs (g : c.R.G) F' H' dx, Xk C ns xs → Fin c F' H' g → XdAt c.K F' c.H0 H' dx ns xs → E (.ref C) (some dx) H'
def XNo : XW := fun _ _ _ => False
theorem xfit_no {c : Ctx} {E : XK} : XFit c E XNo := fun _ _ _ _ _ _ _ h => h.elim
theorem St.dead {c : Ctx} {F H : Hp} {O : List Addr} {σ : L2.St} {ρ : DS c.R} (S : St c F O σ ρ H) {p : Addr} (hp : H p = none) : c.H0 p = none := by
  cases e : c.H0 p with
  | none => rfl
  | some u => exact absurd hp (S.live p (by rw [e]; exact fun z => by cases z))
/-- a def of the text that may let errors out -/
structure CalX (P : Program) (w : World) (K : PySem.W.Frag) (mg : Str → Option Value) (base : Heap) (x : Str) (k : Nat) (ps : List Str) (sp : Sp) : Prop where
  ex : ∃ (f : Addr) (fd : FuncData), mg x = some (.ref f) ∧ PySem.W.keepIn K (.ref f) = true ∧ FnOk P w K mg base (L2.CX P w) k f fd ps sp ∧ Binds K fd ps []
theorem passF {X : Cx} : Passes (L2.CX X.prog X.w) X (fun _ _ _ => False) := fun _ _ _ _ _ _ _ ⟨_, _, _, _, _, _, _, _, _, _, _, _, h⟩ => h.elim
section
variable {X : Cx} {c : Ctx} {fr : Bool} {e : Expr} {es : List Expr} {pos p : Pos} {pa : Bool} {wa : WA c.R} {j k : Nat} {x : Str} {ps : List Str} {E : XK} {Xk : XW}
def wCallX {R : Rgn} (Xk : XW) (m : WMX) (wa : WA R) : WE R := fun ρ K => wa ρ fun ds ρ1 => m ds (fun d => K d ρ1) Xk
theorem de_callX {m : WMX} (C : CalX X.prog X.w X.K X.mg X.base x k ps (spX c.K m)) (hx : Passes (L2.CX X.prog X.w) X E) (fit : XFit c E Xk) (hr : Room j X.A) (ha : DA X c pa (e :: es) wa) (hj : k ≤ j := by decide) (hk : X.K = c.K := by rfl) (hg : Gl X x := by rfl) (hdb : (x == ("__debug__" : Str)) = false := by decide)
    (he : starEach (e :: es) X.env = (false, eval e X.env) :: starEach es X.env := by rfl) (hpl : (backTo pos (starEach es X.env)).any (·.1) = false := by rfl) : DE X c pa false (.Call (.Name x p) (e :: es) [] pos) (wCallX Xk m wa) := by
  obtain ⟨f, fd, hm, hkp, G, hb⟩ := C.ex
  exact ⟨(pe_call G (hr.mono hj) hg hm hkp hb .nil hx ha.pa hdb he hpl).imp fun σ H Q ⟨ρ, F, O, Kk, S, w, kk⟩ => ⟨ρ, F, O, _, S, w, fun ds ρ1 vs F1 H1 hw S1 fs1 ko1 g1 r1 => ⟨ds, F1, _, Xk, S1.sbt, by rw [app_nil]; exact r1, hw, fun d v F' H' hd gr rp =>
    kk d ρ1 v F' H' hd (S1.grow gr) (fs1.trans gr.fs) (fun q hq => by rw [gr.at (S1.out q hq).2.2]; exact ko1 q hq) (fun e => ⟨(g1 e).1, (g1 e).2.trans gr⟩) rp,
    fun C ns xs F' H' dx hX gr ⟨x0, x1, x2⟩ => fit C ns xs ρ1.g F' H' dx hX (S1.grow gr).fin ⟨x0, S1.dead x1, x2⟩⟩⟩, hk⟩
/-! ### raise -/
/-- an error class of the text: its fields, in the order in which it is told -/
structure ExCl (P : Program) (w : World) (K : PySem.W.Frag) (mg : Str → Option Value) (base : Heap) (x : Str) (C : Addr) (k : Nat) (ns : List Str) : Prop where
  cls : OexC K C
  at_ : mg x = some (.ref C)
  ex : ∃ (fI : Addr) (fd : FuncData) (ps : List Str) (sp : Sp), PySem.W.findIn K (.ref C) "__init__" = some (some (.ref fI)) ∧ PySem.W.typeIn K (.ref fI) = some (.type "function") ∧ FnOk P w K mg base CX0 k fI fd ps sp ∧ Binds K fd ps [] ∧
    ∀ (a : Addr) (us : List V) (H : Hp) (Q : VK), us.length = ns.length → H a = some (exo a C none) → (∀ d, H d = none → d ≠ a → Q .non (upd (upd H d (exd d (List.zip ns us).reverse)) a (exo a C (some d)))) → sp (.ref a :: us) H Q (fun _ _ _ => False)
def sRaise {R : Rgn} (Xk : XW) (C : Addr) (ns : List Str) (wa : WA R) : WS R := fun _ ρ => wa ρ fun xs _ => xs.length = ns.length ∧ Xk C ns.reverse xs.reverse
theorem zip_fst {α β : Type} : ∀ {xs : List α} {ys : List β}, ys.length = xs.length → (List.zip xs ys).map (·.1) = xs
  | [], [], _ => rfl
  | [], _ :: _, h => by simp at h
  | _ :: _, [], h => by simp at h
  | x :: xs, y :: ys, h => by rw [List.zip_cons_cons, List.map_cons, zip_fst (by simpa using h)]
theorem zip_snd {α β : Type} : ∀ {xs : List α} {ys : List β}, ys.length = xs.length → (List.zip xs ys).map (·.2) = ys
  | [], [], _ => rfl
  | [], _ :: _, h => by simp at h
  | _ :: _, [], h => by simp at h
  | x :: xs, y :: ys, h => by rw [List.zip_cons_cons, List.map_cons, zip_snd (by simpa using h)]
theorem ds_raise {C : Addr} {ns : List Str} {pos' : Pos} (T : ExCl X.prog X.w X.K X.mg X.base x C k ns) (tk : Takes X (fun cls d _ H => E cls d H)) (fit : XFit c E Xk) (hr : Room (k + 1) X.A) (ha : DA X c pa (e :: es) wa) (hn : ns.length ≤ 10 := by decide) (hk : X.K = c.K := by rfl) (hc : X.calm = true := by rfl) (hg : Gl X x := by rfl) (hdb : (x == ("__debug__" : Str)) = false := by decide)
    (he : starEach (e :: es) X.env = (false, eval e X.env) :: starEach es X.env := by rfl) (hpl : (backTo pos (starEach es X.env)).any (·.1) = false := by rfl) : DS1 X c fr (.Raise (some (.Call (.Name x p) (e :: es) [] pos)) none pos') (sRaise Xk C ns wa) := by
  obtain ⟨fI, fd, ps, sp, h1, h2, G, hb, hsp⟩ := T.ex
  refine ⟨(ps_raise hc tk (pmk_oex T.cls h1 h2 G hr hb .nil pass0 hg T.at_ ha.pa hdb he hpl)).imp fun E' σ H ⟨ρ, F, Dk, S, w, _⟩ => ?_⟩
  refine ⟨ρ, F, [], _, S, w, fun xs ρ1 vs F1 H1 ⟨hl, hX⟩ S1 fs1 ko1 g1 r1 => ⟨by rw [r1.length, hl]; omega, fun a ha => ?_⟩⟩
  rw [List.append_nil]
  have hvl : vs.length = ns.length := by rw [r1.length, hl]
  refine hsp a vs _ _ hvl upd_same fun d hd nd => ⟨rfl, d, (List.zip ns vs).reverse, upd_same, by rw [upd_ne nd, upd_same], by rw [upd_ne nd] at hd; exact hd, ?_⟩
  have hd1 : H1 d = none := by rw [upd_ne nd] at hd; exact hd
  have e1 : upd (L2.del (upd (upd (upd H1 a (exo a C none)) d (exd d (List.zip ns vs).reverse)) a (exo a C (some d))) a) d (.xd (List.zip ns vs).reverse) = upd H1 d (.xd (List.zip ns vs).reverse) := by
    funext b
    by_cases z : b = d
    · rw [z, upd_same, upd_same]
    · rw [upd_ne z, upd_ne z]
      by_cases y : b = a
      · rw [y, L2.del_same, ha]
      · rw [L2.del_ne y, upd_ne y, upd_ne z, upd_ne y]
  rw [e1]
  have hF : F1 d = none := by
    cases q : F1 d with
    | none => rfl
    | some u => rw [S1.sub _ _ q] at hd1; cases hd1
  have gr : Grow F1 H1 F1 (upd H1 d (.xd (List.zip ns vs).reverse)) := ⟨Same.refl _, fun b u q => by rw [upd_ne (fun z => by rw [z, hF] at q; cases q)]; exact S1.sub _ _ q, fun b u q => by rw [upd_ne (fun z => by rw [z, hd1] at q; cases q)]; exact q, fun b h => .inl h, fun t => t.updH (fun _ z => by cases z)⟩
  refine fit C _ _ ρ1.g F1 _ d hX (S1.grow gr).fin ⟨hF, S1.dead hd1, _, upd_same, ?_, ?_⟩
  · rw [List.map_reverse, zip_fst hvl]
  · rw [List.map_reverse, zip_snd hvl]
    exact r1.reverse
end
/-! ### a def's body -/
abbrev bodyXX (P : Program) (w : World) (K : PySem.W.Frag) (mg : Str → Option Value) (base : Heap) (N : List Str) (q : Str) (st : Stmt) (f : Addr) (cdv : Value) (A : Around) (outer : List Env) (s : Shared) (H : Hp) (E : XK) : Cx := cxOf (L2.CX P w) P w K mg base N q (defScope st) f cdv A outer s H E
section
variable {P : Program} {w : World} {K : PySem.W.Frag} {mg : Str → Option Value} {base : Heap} {x q : Str} {st : Stmt} {f : Addr} {fd : FuncData} {N ps : List Str} {k : Nat}
theorem takes_body {cdv : Value} {A : Around} {outer : List Env} {s : Shared} {H : Hp} {E : XK} : Takes (bodyXX P w K mg base N q st f cdv A outer s H E) (fun cls d _ H => E cls d H) := takes_of rfl rfl rfl rfl
theorem pass_body {cdv : Value} {A : Around} {outer : List Env} {s : Shared} {H : Hp} {E : XK} : Passes (L2.CX P w) (bodyXX P w K mg base N q st f cdv A outer s H E) E := passes_call takes_body fun _ _ _ _ h => h
theorem own_body {cdv : Value} {A : Around} {outer : List Env} {s : Shared} {H : Hp} {E : XK} : PassesOwn (model P w) (bodyXX P w K mg base N q st f cdv A outer s H E).A (bodyXX P w K mg base N q st f cdv A outer s H E).env (bodyXX P w K mg base N q st f cdv A outer s H E).xe := passes_of rfl
theorem FnX {m : WMX} (F : FnP K x q st f fd) (S : FnScope N ps (defScope st)) (hm : ∀ ds Kk Xk, m ds Kk Xk → ds.length = ps.length)
    (hbody : ∀ (cdv : Value) (A : Around) (outer : List Env) (s : Shared) (H Fz : Hp) (E : XK) (Xk : XW), Room k (A.deeper (envOfC q (defScope st) s.heap.objs.size f cdv)) → XFit ⟨K, noR, H, Fz, fun _ => False⟩ E Xk →
      ∃ w' : WS noR, DSs (bodyXX P w K mg base N q st f cdv A outer s H E) ⟨K, noR, H, Fz, fun _ => False⟩ false (defBody st) w' ∧
        ∀ ds Kk, m ds Kk Xk → w' { nx := fun _ => Kk .non, rt := fun d _ => Kk d } ⟨noG, startD N ds⟩) : FnOk P w K mg base (L2.CX P w) (k + 1) f fd ps (spX K m) := by
  refine F.ok S (fun vs H Q E h => ?_) (fun cdv A outer s H vs Q E hr h => ?_)
  · obtain ⟨ds, F, Kk, Xk, _, r, hw, _⟩ := h
    rw [r.length]
    exact hm ds Kk Xk hw
  · obtain ⟨ds, Fz, Kk, Xk, sub, r, hw, k, kx⟩ := h
    have gr : ∀ {F' H' : Hp} {g : noR.G}, Fin ⟨K, noR, H, Fz, fun _ => False⟩ F' H' g → Grow Fz H F' H' := fun fin => ⟨fin.old, fin.sub, fun b o e => fin.keep b o e id, fin_grow fin, fun _ => fin.tin⟩
    obtain ⟨w', hb, hw'⟩ := hbody cdv A outer s H Fz E Xk hr fun C ns xs g F' H' dx hX fin xd => kx C ns xs F' H' dx hX (gr fin) xd
    exact ⟨_, hb.ps, _, Fz, _, St.start sub r (fun a h => h) (fun b h => h.elim), hw' ds Kk hw, fun ρ' σ' F' H' h S' _ => k .non .non F' H' h (gr S'.fin) .non, (fun _ _ _ _ h => h.elim), (fun _ _ _ _ h => h.elim),
      fun d g h v F' H' fin rp => k d v F' H' h (gr fin) rp⟩
end
end Q

set_option Elab.async false
set_option linter.all false
set_option maxRecDepth 100000
set_option maxHeartbeats 4000000
/-! loops by an invariant of what is left -/
namespace Q
open PySem PySem.Spec PyProof.Rows L2
section
variable {R : Rgn} {g : WG R} {wb : WS R} {Dk : DEnds R}
theorem forGo_ind (I : List D → DS R → Prop) (st : ∀ (d : D) (rest : List D) (N : DS R → Prop) (ρ : DS R), (∀ ρ', I rest ρ' → N ρ') → I (d :: rest) ρ → g d ρ fun ρ2 => wb { Dk with nx := N, ct := N, bk := Dk.nx } ρ2)
    (e : ∀ ρ, I [] ρ → Dk.nx ρ) : ∀ (ds : List D) (ρ : DS R), I ds ρ → forGo g wb Dk ds ρ
  | [], ρ, h => by
    unfold forGo
    exact e ρ h
  | d :: ds, ρ, h => by
    unfold forGo
    exact st d ds _ ρ (fun ρ' h' => forGo_ind I st e ds ρ' h') h
end
/-- a key told as data, put to keys told as data -/
theorem putKs_str (ks : List Str) (z : Str) : putKs (ks.map Sum.inr) (.inr z : Key) = (if z ∈ ks then ks else ks ++ [z]).map Sum.inr := by
  unfold putKs
  by_cases h : z ∈ ks
  · rw [if_pos h, if_pos (List.mem_map.mpr ⟨z, h, rfl⟩)]
  · rw [if_neg h, if_neg (fun q => by obtain ⟨y, hy, e⟩ := List.mem_map.mp q; cases e; exact h hy), List.map_append]
    rfl
end Q

set_option Elab.async false
set_option linter.all false
set_option maxRecDepth 100000
set_option maxHeartbeats 4000000
/-! enumerate over a tuple -/
namespace Q
open PySem PySem.Spec PyProof.Rows L2
theorem meets_enumerate_new1B {v : Value} {ob : Obj} {H : Heap → Prop} (B : Begins v ob H) :
    Meets (Builtin.«enumerate.__new__» ⟨[.type "enumerate", v], []⟩) (fun _ R s => H s.heap ∧
      R (.ok (.ret (.ref (s.heap.push ob).objs.size))) { s with heap := (s.heap.push ob).push { cls := .type "enumerate", data := .fields #[.none, .bool false, .ref s.heap.objs.size, rawInt 0, .none, .none] } }) :=
  .of_wp fun prog w A R s h => by
    obtain ⟨hp, g, d, tk2, os⟩ := s; obtain ⟨hV, h⟩ := h
    have subE := sub_enumerate
    have iterV : ∀ {A' : Around} {E : Value → Shared → Prop} {Q : Value → Shared → Prop}, Q (.ref hp.objs.size) ⟨hp.push ob, g, d, tk2, os⟩ → wpAny (model prog w) A' (pyIter v) Q E ⟨hp, g, d, tk2, os⟩ :=
      fun q => B.iter prog w _ _ ⟨hp, g, d, tk2, os⟩ _ hV q
    wp_walk using iterV
    refine wpAny_stack_any fun now => wpAny_pure ?_
    split
    · rename_i c _ _ _ _ _
      cases (c == Value.type "enumerate")
      · wp_walk using iterV
        exact ⟨_, rfl, h⟩
      · wp_walk using iterV
        exact ⟨_, rfl, h⟩
    · wp_walk using iterV
      exact ⟨_, rfl, h⟩
theorem enum_begins1 {prog : Program} {w : World} {A : Around} {E : Value → Shared → Prop} {s : Shared} {v : Value} {ob : Obj} {H : Heap → Prop} {Q : Value → Shared → Prop} (B : Begins v ob H) (hV : H s.heap)
    (h : ∀ hp2, IsEnum hp2 (s.heap.objs.size + 1) s.heap.objs.size 0 .none → hp2.get? s.heap.objs.size = some ob → hp2.objs.size = s.heap.objs.size + 2 →
      (∀ b ob, s.heap.get? b = some ob → hp2.get? b = some ob) → Q (.ref (s.heap.objs.size + 1)) { s with heap := hp2 }) :
    wpAny (model prog w) A (call (.type "enumerate") [v]) Q E s := by
  refine callType_new F.called_enumerate (by decide) (F.typeCall_enumerate_1 _) (F.newCall_enumerate_1 _) (fun obj => F.args_object_init_2 obj _) F.entry_enumerate_new
    (meets_enumerate_new1B B) ⟨hV, ?_⟩
  have zlen : (s.heap.push ob).objs.size = s.heap.objs.size + 1 := Heap.size_push ..
  show _ ∧ _
  rw [zlen]
  have enAt : IsEnum ((s.heap.push ob).push { cls := .type "enumerate", data := .fields #[.none, .bool false, .ref s.heap.objs.size, rawInt 0, .none, .none] }) (s.heap.objs.size + 1) s.heap.objs.size 0 .none := by
    have := Heap.get?_push_size (s.heap.push ob) (o := { cls := .type "enumerate", data := .fields #[.none, .bool false, .ref s.heap.objs.size, rawInt 0, .none, .none] }) rfl
    rw [zlen] at this; exact this
  refine ⟨⟨_, enAt, rfl⟩, h _ enAt (Heap.get?_push_of_some _ (Heap.get?_push_size _ B.free)) (by rw [Heap.size_push, zlen]) fun b ob x => Heap.get?_push_of_some _ (Heap.get?_push_of_some _ x)⟩
/-- the tuple at a, each item in a fresh1 pair -/
def IteT (K : PySem.W.Frag) (a : Addr) : It :=
  ⟨fun i H => ∃ (xs : List V) (x : V), SqT K H a xs ∧ xs[i]? = some x, fun i H v H' => ∃ T x, v = .ref T ∧ H T = none ∧ H' = upd H T (.tup [.int (i : Nat), x]) ∧ ∀ xs, SqT K H a xs → xs[i]? = some x, fun i H => ∃ xs : List V, SqT K H a xs ∧ xs.length ≤ i⟩
theorem turn_enumT {P : Program} {w : World} {K : PySem.W.Frag} {elts : List Expr} {kk : Nat} {tpos : Pos} (a e it : Addr) (hai : a ≠ it) (hae : a ≠ e) :
    Turn P w K (.Tuple elts kk tpos) (IteT K a) [e, it] e (fun i h => (∃ was, IsEnum h e it ((i : Nat) : Int) was) ∧ h.IsTupleIter it a i ∧ e ≠ it) where
  mem := by simp
  obj := fun i h now b inB => by
    obtain ⟨⟨was, enAt⟩, ⟨ob, oAt, cAt, dAt⟩, _⟩ := now
    have be : b = e ∨ b = it := by simpa using inB
    rcases be with z | z
    · rw [z]; exact ⟨_, enAt, fun v q => nomatch q⟩
    · rw [z]; exact ⟨ob, oAt, fun v q => by rw [dAt] at q; cases q⟩
  keep := fun i h hp2 now k => let ⟨⟨was, enAt⟩, hi, eNe⟩ := now; ⟨⟨was, k e (by simp) _ enAt⟩, hi.at fun ob q => k it (by simp) ob q, eNe⟩
  item := by
    intro X eP eW eK cAt i pn s σ H E J fpOk0 now goes
    subst eP eW eK
    obtain ⟨⟨was, enAt⟩, itAt, eNe⟩ := now
    obtain ⟨xs, x, sq, xAt⟩ := goes
    obtain ⟨vals, rvals, p, zlen⟩ := J.tuple sq
    obtain ⟨u, uAt, rel1⟩ := rvals.get xAt
    have tup0 : s.heap.IsTuple a vals.toArray := p
    have ltE : e < s.heap.objs.size := Heap.lt_size enAt
    have ltI : it < s.heap.objs.size := by obtain ⟨_, q, _⟩ := itAt; exact Heap.lt_size q
    have noEx : X.A.in1.handled = none := J.ok.hd cAt
    have uAt2 : vals.toArray[i]? = some u := by simpa using uAt
    have iLt : i < vals.toArray.size := (Array.getElem?_eq_some_iff.mp uAt2).1
    refine wpAny_pyNext_enum_itemD (Draws.tuple noEx it a hai vals.toArray) enAt ⟨itAt, tup0⟩ iLt eNe (fun z => by
      rcases List.mem_cons.mp z with q | q
      · exact eNe q
      · exact hae (List.mem_singleton.mp q).symm) fun y hp2 tk2 eP oAt stN tAt sz2 kp2 => ?_
    have ey : y = u := by rw [uAt2] at eP; exact (Option.some.inj eP).symm
    subst ey
    refine ⟨_, rfl, wpAny_letOwnedTupleGo_enum (s := { s with heap := hp2, toks := tk2 + 1 }) oAt fun hp3 he' same1 => ?_⟩
    have tAt2 : hp3.get? s.heap.objs.size = some { cls := .type "tuple", data := .seq #[.int i tk2, y] } := (same1.2 _ (Nat.ne_of_gt ltE)).trans tAt
    have fresh1 : ObjOk X.prog X.w (upd H s.heap.objs.size (.tup [.int (i : Nat), x])) hp3 s.heap.objs.size (.tup [.int (i : Nat), x]) :=
      ⟨by show 2 ≤ sizeLine; decide, [.int i tk2, y], .cons ⟨_, rfl⟩ (.cons rel1 .nil), ⟨_, tAt2, rfl, _, rfl⟩⟩
    have J1 : Inv X pn σ (upd H s.heap.objs.size (.tup [.int (i : Nat), x])) { s with heap := hp3, toks := tk2 + 1 } :=
      J.turnedNew (ch := [e, it]) (fun b ob inB q => (same1.2 b (fun z => inB (by simp [z]))).trans (kp2 b ob (fun z => inB (by simp [z])) (fun z => inB (by simp [z])) q)) fpOk0 (Nat.le_refl _) fresh1
    refine ⟨.ref s.heap.objs.size, _, J1, rfl, ⟨_, x, rfl, J.hok.fresh (Nat.le_refl _), rfl, fun ys hy => by rw [J.tuple_inj hy sq]; exact xAt⟩, ⟨⟨y, ?_⟩, stN.1.at fun ob q => (same1.2 it (Ne.symm eNe)).trans q, eNe⟩, fun b inB => ?_⟩
    · have e1 : ((i + 1 : Nat) : Int) = (i : Int) + 1 := by omega
      rw [e1]; exact he'
    · have ltB : b < s.heap.objs.size := by
        have be : b = e ∨ b = it := by simpa using inB
        rcases be with z | z
        · rw [z]; exact ltE
        · rw [z]; exact ltI
      rw [upd_ne (Nat.ne_of_lt ltB)]
      exact (fpOk0 b inB).1
  done := by
    intro X eP eW eK cAt i pn s σ H E J fpOk0 now goes
    subst eP eW eK
    obtain ⟨⟨was, enAt⟩, itAt, eNe⟩ := now
    obtain ⟨xs, sq, xAt⟩ := goes
    obtain ⟨vals, rvals, p, zlen⟩ := J.tuple sq
    have tup0 : s.heap.IsTuple a vals.toArray := p
    obtain ⟨f0, f1, f2, f3, f4, f5⟩ := fpOk0 it (by simp)
    have noEx : X.A.in1.handled = none := J.ok.hd cAt
    have rlen := rvals.length
    have noX : vals.toArray[i]? = none := by
      rw [Array.getElem?_eq_none_iff]
      simp
      omega
    have enT : s.TypeIs (.ref e) "enumerate" := ⟨_, enAt, rfl⟩
    unfold pyNext
    refine wpAny_bind (wpAny_attempt (wpAny_callSpecial?_slot (name := Str.ofString "__next__") enT F.slot_enumerate_next
      (wpAny_call_entry F.slot_enumerate_next enT F.entry_enumerate_next ?_ (F.args_enumerate_next_1 _))))
    show wpAny _ _ (field (.ref e) 2 >>= _) _ _ _
    refine wpAny_bind (wpAny_field enAt rfl (x := .ref it) rfl ?_)
    refine wpAny_bind (wpAny_nextOf_tuple_end noEx itAt tup0 noX fun hp2 x he' xEx => ?_)
    obtain ⟨ob, oAt, hc'⟩ := xEx
    refine wpAny_bind (wpAny_isInstance (T := "StopIteration") (b := true) ⟨ob, oAt, hc'⟩ isSubtype_stop ?_)
    exact wpAny_pure ⟨rfl, J.turned (t' := s.toks) (fun b ob inB e => he' b ob inB e) f0 f1 f3 f4 f5⟩
  self := fun A i s Q E now h => let ⟨⟨_, enAt⟩, _⟩ := now; wpAny_pyIter_enum enAt h
theorem walks_enumT {K : PySem.W.Frag} {F0 : Hp} {a : Addr} {vs : List V} {ds : List D} (h : SqT K F0 a vs) (r : Reps K F0 vs ds) : Walks K F0 (IteT K a) (enumD 0 ds) where
  go := fun F H i s1 st hi => by
    have s2 := st.s
    rw [enumD_length] at hi
    have hs : SqT K H a vs := SqT.same s2 (SqT.same s1 h)
    obtain ⟨v, hv, rvals⟩ := r.get' (List.getElem?_eq_getElem hi)
    refine ⟨⟨vs, v, hs, hv⟩, fun x H' ⟨q, y, e1, e2, e3, e4⟩ => ?_⟩
    have := e4 vs hs
    rw [hv] at this
    cases this
    obtain ⟨al, rp⟩ := al_tup (K := K) (us := [.int ((i : Nat) : Int), v]) (es := [.int ((i : Nat) : Int), ds[i]]) s2 e2 (.cons (.int _) (.cons (rvals.same s1) .nil))
    refine ⟨_, _, enumD_get 0 ds i _ (List.getElem?_eq_getElem hi), by rw [e3]; exact al, by rw [e1, Nat.zero_add]; exact rp⟩
  stop := fun F H s1 s2 => ⟨vs, SqT.same s2 (SqT.same s1 h), by rw [enumD_length, r.length]; exact Nat.le_refl _⟩
/-- enumerate over a list or a tuple -/
def wEnA {R : Rgn} (we : WE R) : WI R := fun ρ K => we ρ fun d ρ1 => ∃ ds, (d = .lst ds ∨ d = .tup ds) ∧ K (enumD 0 ds) ρ1
section
variable {X : Cx} {c : Ctx} {e : Expr} {p pos : Pos} {pa : Bool} {we : WE c.R}
theorem pi_enumA {ta : TA} {tpos : Pos} {elts : List Expr} {kk : Nat} (goes : Gl X "enumerate") (hm : X.mg "enumerate" = none) (ha : PA X [e] ta) (hs : starEach [e] X.env = [(false, eval e X.env)] := by rfl) :
    PI X (.Tuple elts kk tpos) (.Call (.Name "enumerate" p) [e] [] pos) (fun σ H R => ta σ H fun vs H1 => ∃ a xs, vs = [.ref a] ∧ ((SqL X.K H1 a xs ∧ R (Ite X.K a) H1) ∨ (SqT X.K H1 a xs ∧ R (IteT X.K a) H1))) := by
  refine ⟨fun pn s σ H R J h => ?_⟩
  refine Call_ (ld_blt J goes hm boot_enumerate (PyProof.Rows.callWith_type1 (thn (ha.run pos pn s σ H _ J h) fun us s1 ⟨vs, H1, J1, r1, iterV⟩ => ?_) hs rfl))
  obtain ⟨a, xs, ex, q⟩ := iterV
  subst ex
  cases r1 with
  | cons r rs2 =>
    cases rs2
    cases r
    rcases q with ⟨sq, q⟩ | ⟨sq, q⟩
    · obtain ⟨vals, rvals, pl, zlen⟩ := J1.list sq
      refine call_enumerate_list pl.isList fun hp2 enAt itAt sz2 kp2 => wpAny_pyIter_enum enAt ?_
      have J2 : Inv X pn σ H1 { s1 with heap := hp2 } := J1.kept (t' := s1.toks) kp2
      refine ⟨s1.heap.objs.size + 1, [s1.heap.objs.size + 1, s1.heap.objs.size], _, _, H1, rfl, J2, turn_enum a (s1.heap.objs.size + 1) s1.heap.objs.size, ⟨⟨.none, enAt⟩, itAt, Nat.succ_ne_self _⟩, fun b inB => ?_, q⟩
      have be : b = s1.heap.objs.size + 1 ∨ b = s1.heap.objs.size := by simpa using inB
      have leB : s1.heap.objs.size ≤ b := by
        rcases be with z | z
        · rw [z]; exact Nat.le_add_right _ _
        · rw [z]; exact Nat.le_refl _
      exact J1.fpOk leB (J1.hok.fresh leB)
    · obtain ⟨vals, rvals, pl, zlen⟩ := J1.tuple sq
      have tup0 : s1.heap.IsTuple a vals.toArray := pl
      have ltA : a < s1.heap.objs.size := by obtain ⟨_, q, _⟩ := tup0; exact Heap.lt_size q
      refine enum_begins1 (begins_tuple a vals.toArray) tup0 fun hp2 enAt itAt sz2 kp2 => wpAny_pyIter_enum enAt ?_
      have J2 : Inv X pn σ H1 { s1 with heap := hp2 } := J1.kept (t' := s1.toks) kp2
      refine ⟨s1.heap.objs.size + 1, [s1.heap.objs.size + 1, s1.heap.objs.size], _, _, H1, rfl, J2, turn_enumT a (s1.heap.objs.size + 1) s1.heap.objs.size (Nat.ne_of_lt ltA) (Nat.ne_of_lt (Nat.lt_succ_of_lt ltA)), ⟨⟨.none, enAt⟩, ⟨_, itAt, rfl, rfl⟩, Nat.succ_ne_self _⟩, fun b inB => ?_, q⟩
      have be : b = s1.heap.objs.size + 1 ∨ b = s1.heap.objs.size := by simpa using inB
      have leB : s1.heap.objs.size ≤ b := by
        rcases be with z | z
        · rw [z]; exact Nat.le_add_right _ _
        · rw [z]; exact Nat.le_refl _
      exact J1.fpOk leB (J1.hok.fresh leB)
theorem di_enumA {elts : List Expr} {kk : Nat} {tpos : Pos} (hm : X.mg "enumerate" = none) (enAt : DE X c pa false e we) (goes : Gl X "enumerate" := by rfl) (hV : starEach [e] X.env = (false, eval e X.env) :: starEach [] X.env := by rfl) (hs : starEach [e] X.env = [(false, eval e X.env)] := by rfl) : DI X c (.Tuple elts kk tpos) (.Call (.Name "enumerate" p) [e] [] pos) (wEnA we) :=
  ⟨(pi_enumA goes hm (pa_cons enAt.pe pa_nil hV) hs).imp fun σ H R ⟨ρ, F, O, Kk, S, w, k⟩ => ⟨ρ, F, O, _, S, w, fun d ρ1 v F1 H1 ⟨ds, dAt, kp2⟩ S1 fs1 ko1 g1 r1 => by
    rw [enAt.kk]
    rcases dAt with rfl | rfl
    · cases r1 with
      | lst h r => exact ⟨_, _, rfl, .inl ⟨SqL.of (S1.sub _ _ h), k _ ρ1 F1 H1 _ kp2 S1 fs1 ko1 (walks_enum h r)⟩⟩
    · cases r1 with
      | tup h r => exact ⟨_, _, rfl, .inr ⟨SqT.of (S1.sub _ _ h), k _ ρ1 F1 H1 _ kp2 S1 fs1 ko1 (walks_enumT (SqT.of h) r)⟩⟩⟩⟩
end
end Q

set_option Elab.async false
set_option linter.all false
set_option maxRecDepth 100000
set_option maxHeartbeats 4000000
/-! dict comprehensions over texts -/
namespace Q
open PySem PySem.Spec PyProof.Rows L2
def addS (acc : List Str) (z : Str) : List Str := if z ∈ acc then acc else acc ++ [z]
/-- each once, as they come -/
def onceS (zs : List Str) : List Str := zs.foldl addS []
section
variable {R : Rgn} {ρ : DS R} {wk wv : WE R} {wi : WI R} {i : Nat}
theorem dcGo_strs {K : List Key → List D → DS R → Prop} {v : D} : ∀ (zs acc : List Str) (vs : List D), (∀ z ∈ zs, Ev wk (ρ.put i (some (.fz (.str z)))) (.str z)) → (∀ z ∈ zs, Ev wv (ρ.put i (some (.fz (.str z)))) v) →
    (∀ vs', K ((zs.foldl addS acc).map Sum.inr) vs' (ρ.put i none)) → dcGo (gNm i) wYes wk wv [i] K (zs.map D.str) (acc.map Sum.inr) vs (ρ.put i none)
  | [], acc, vs, _, _, k => k vs
  | z :: zs, acc, vs, h1, h2, k => by
    rw [List.map_cons]
    unfold dcGo
    simp only [gNm, wYes]
    rw [put_put, if_pos trivial]
    refine h1 z List.mem_cons_self _ (h2 z List.mem_cons_self _ ⟨.inr z, rfl, ?_⟩)
    have e : (⟨(ρ.put i (some (DV.fz (.str z)))).g, wipeL (ρ.put i (some (DV.fz (.str z)))).sl [i]⟩ : DS R) = ρ.put i none := put_put
    rw [e, putKs_str]
    exact dcGo_strs zs (addS acc z) _ (fun y m => h1 y (List.mem_cons_of_mem _ m)) (fun y m => h2 y (List.mem_cons_of_mem _ m)) k
theorem wDc_strs {zs : List Str} {v : D} {x : Option DV} (hi : EvI wi ρ (zs.map D.str)) (hz : zs.length ≤ 100000) (hx : ρ.sl[i]? = some x) (no : ∀ d, x ≠ some (.own d)) (h1 : ∀ z ∈ zs, Ev wk (ρ.put i (some (.fz (.str z)))) (.str z))
    (h2 : ∀ z ∈ zs, Ev wv (ρ.put i (some (.fz (.str z)))) v) (K : D → DS R → Prop) (k : ∀ vs, K (.dct (((onceS zs).map Sum.inr : List Key).map kD) vs) ρ) : wDc wi (gNm i) wYes wk wv [i] ρ K := by
  refine hi _ ⟨by rw [List.length_map]; exact hz, fun j m d q => ?_, ?_⟩
  · have e : j = i := by simpa using m
    subst e
    rw [hx] at q
    exact no d (Option.some.inj q)
  · refine dcGo_strs zs [] [] h1 h2 fun vs => ?_
    have : (⟨(ρ.put i none).g, backL ρ.sl (ρ.put i none).sl [i]⟩ : DS R) = ρ := by
      show (⟨ρ.g, (ρ.sl.set i none).set i (ρ.sl.getD i none)⟩ : DS R) = ρ
      rw [List.set_set, List.getD_eq_getElem?_getD, hx]
      exact put_back hx
    rw [this]
    exact k vs
end
end Q

set_option Elab.async false
set_option linter.all false
set_option maxRecDepth 100000
set_option maxHeartbeats 4000000
/-! readings that tell errors, too; objects made -/
namespace Q
open PySem PySem.Spec PyProof.Rows L2
abbrev XR (R : Rgn) := Addr → List Str → List D → DS R → Prop
abbrev WEX (R : Rgn) := DS R → (D → DS R → Prop) → XR R → Prop
/-- an error's fields, as they lie in the heap -/
structure XdL (K : PySem.W.Frag) (F' H' : Hp) (dx : Addr) (ns : List Str) (xs : List D) : Prop where
  f0 : F' dx = none
  at_ : ∃ fs : List (Str × V), H' dx = some (.xd fs) ∧ ns = fs.map (·.1) ∧ Reps K F' (fs.map (·.2)) xs
theorem XdAt.l {K : PySem.W.Frag} {F' H H' : Hp} {dx : Addr} {ns : List Str} {xs : List D} (h : XdAt K F' H H' dx ns xs) : XdL K F' H' dx ns xs := ⟨h.f0, h.at_⟩
def liftX (c : Ctx) (w : WEX c.R) (E : XK) : TE := fun σ H Q => ∃ (ρ : DS c.R) (F : Hp) (O : List Addr) (Kk : D → DS c.R → Prop) (Xk : XR c.R), St c F O σ ρ H ∧ w ρ Kk Xk ∧
  (∀ d ρ' v F' H', Kk d ρ' → St c F' O σ ρ' H' → Same F F' → (∀ a ∈ O, H' a = H a) → Rep c.K F' v d → Q v H') ∧
  ∀ C ns xs ρ' F' H' dx, Xk C ns xs ρ' → St c F' O σ ρ' H' → Same F F' → (∀ a ∈ O, H' a = H a) → XdL c.K F' H' dx ns xs → E (.ref C) (some dx) H'
structure DX (X : Cx) (c : Ctx) (e : Expr) (w : WEX c.R) (E : XK) : Prop where
  pe : PE X e (liftX c w E)
  kk : X.K = c.K
/-- no error: an ordinary reading -/
def noX {R : Rgn} (w : WEX R) : WE R := fun ρ K => w ρ K fun _ _ _ _ => False
section
variable {X : Cx} {c : Ctx} {e : Expr} {es : List Expr} {pos p : Pos} {pa : Bool} {we : WE c.R} {wa : WA c.R} {w : WEX c.R} {E : XK} {x : Str} {j k : Nat} {ps : List Str}
theorem DX.de (h : DX X c e w E) : DE X c false false e (noX w) :=
  ⟨h.pe.imp fun σ H Q ⟨ρ, F, O, Kk, S, hw, kk⟩ => ⟨ρ, F, O, Kk, _, S, hw, fun d ρ' v F' H' hk S' fs ko rp => kk d ρ' v F' H' hk S' fs ko (fun z => by cases z) rp, fun _ _ _ _ _ _ _ h => h.elim⟩, h.kk⟩
theorem DX.of (h : DE X c pa false e we) : DX X c e (fun ρ K _ => we ρ K) E :=
  ⟨h.pe.imp fun σ H Q ⟨ρ, F, O, Kk, Xk, S, hw, kk, _⟩ => ⟨ρ, F, O, Kk, S, hw, fun d ρ' v F' H' hk S' fs ko _ rp => kk d ρ' v F' H' hk S' fs ko rp⟩, h.kk⟩
/-- a def of the text that may let errors out, called -/
def wCallXR {R : Rgn} (m : WMX) (wa : WA R) : WEX R := fun ρ K Xk => wa ρ fun ds ρ1 => m ds (fun d => K d ρ1) fun C ns xs => Xk C ns xs ρ1
/-- what a class's init promises: one that sets the fields of the object anew made -/
def spI (K : PySem.W.Frag) (C : Addr) (m : WMX) : Sp := fun vs H Q E => ∃ (x dx : Addr) (us : List V) (ds : List D) (F : Hp) (Kk : D → Prop) (Xk : XW), vs = .ref x :: us ∧ H x = some (.ins C dx []) ∧ F x = none ∧ SubT F H ∧ Reps K F us ds ∧ m ds Kk Xk ∧
  (∀ ns xs fs F' H', Kk (.ins C ns xs) → Grow F H F' H' → F' x = none → ns = fs.map (·.1) → Reps K F' (fs.map (·.2)) xs → Q .non (upd H' x (.ins C dx fs))) ∧
  ∀ C' ns xs F' H' d, Xk C' ns xs → Grow F H F' H' → XdAt K F' H H' d ns xs → E (.ref C') (some d) H'
/-- a class of the text, called -/
structure CalK (P : Program) (w : World) (K : PySem.W.Frag) (mg : Str → Option Value) (base : Heap) (x : Str) (C : Addr) (k : Nat) (ps : List Str) (m : WMX) : Prop where
  ex : ∃ (f : Addr) (fd : FuncData), Mk K C f ∧ FnOk P w K mg base (L2.CX P w) k f fd ps (spI K C m) ∧ Binds K fd ps []
  at_ : mg x = some (.ref C)
theorem dx_make {C : Addr} {m : WMX} (M : CalK X.prog X.w X.K X.mg X.base x C k ps m) (hx : Passes (L2.CX X.prog X.w) X E) (hr : Room j X.A) (ha : DA X c pa (e :: es) wa) (hj : k + 1 ≤ j := by decide) (hk : X.K = c.K := by rfl) (hg : Gl X x := by rfl) (hdb : (x == ("__debug__" : Str)) = false := by decide)
    (he : starEach (e :: es) X.env = (false, eval e X.env) :: starEach es X.env := by rfl) (hpl : (backTo pos (starEach es X.env)).any (·.1) = false := by rfl) : DX X c (.Call (.Name x p) (e :: es) [] pos) (wCallXR m wa) E := by
  obtain ⟨f, fd, mk, G, hb⟩ := M.ex
  refine ⟨(pe_make mk G (hr.mono hj) hg M.at_ hb .nil hx ha.pa hdb he hpl).imp fun σ H Q ⟨ρ, F, O, Kk, Xk, S, hw, k1, k2⟩ => ⟨ρ, F, O, _, S, hw, fun ds ρ1 vs F1 H1 hm S1 fs1 ko1 g1 r1 a dx ha hd nd => ?_⟩, hk⟩
  have na : F1 a = none := by
    cases q : F1 a with
    | none => rfl
    | some o => rw [S1.sub _ _ q] at ha; cases ha
  have nd1 : F1 dx = none := by
    cases q : F1 dx with
    | none => rfl
    | some o => rw [S1.sub _ _ q] at hd; cases hd
  have hs2 : Same H1 (upd (upd H1 dx (.own a)) a (.ins C dx [])) := fun b o q => by
    rw [upd_ne (fun z => by rw [z, ha] at q; cases q), upd_ne (fun z => by rw [z, hd] at q; cases q)]
    exact q
  have gr0 : Grow F1 H1 F1 (upd (upd H1 dx (.own a)) a (.ins C dx [])) := ⟨Same.refl _, S1.sub.trans hs2, hs2, fun b h => .inl h, fun t => (t.updH (fun _ z => by cases z)).updH (fun _ z => by cases z)⟩
  have ko : ∀ {F' H' : Hp}, Grow F1 H1 F' H' → ∀ q ∈ O, H' q = H q := fun g q hq => by rw [g.at (S1.out q hq).2.2, ko1 q hq]
  rw [app_nil]
  refine ⟨a, dx, vs, ds, F1, _, _, rfl, upd_same, na, ⟨gr0.sub, gr0.tn S1.tin⟩, by rw [hk]; exact r1, hm, fun ns xs fs F' H' hk' gr nx en rf => ⟨rfl, ?_⟩, fun C' ns xs F' H' d hX gr xd => ?_⟩
  · have gr1 := gr0.trans gr
    have hH1a : H' a = some (.ins C dx []) := gr.hs _ _ upd_same
    have g2 : Grow F1 H1 (upd F' a (.ins C dx fs)) (upd H' a (.ins C dx fs)) :=
      ⟨fun b o q => by rw [upd_ne (fun z => by rw [z, na] at q; cases q)]; exact gr1.fs _ _ q, Same.upd2 gr1.sub, fun b o q => by rw [upd_ne (fun z => by rw [z, ha] at q; cases q)]; exact gr1.hs _ _ q, fun b n => by
        by_cases z : b = a
        · rw [z]; exact .inr ha
        · rw [upd_ne z] at n; exact gr1.old b n, fun t => (gr1.tn t).upd2⟩
    have fs2 : Same F' (upd F' a (.ins C dx fs)) := fun b o q => by rw [upd_ne (fun z => by rw [z, nx] at q; cases q)]; exact q
    rw [hk] at rf
    exact k1 _ ρ1 _ _ _ hk' (S1.grow g2) (fs1.trans g2.fs) (ko g2) (.ins upd_same en (rf.same fs2))
  · have gr1 := gr0.trans gr
    rw [hk] at xd
    exact k2 C' ns xs ρ1 F' H' d hX (S1.grow gr1) (fs1.trans gr1.fs) (ko gr1) xd.l
theorem dx_call {m : WMX} (C : CalX X.prog X.w X.K X.mg X.base x k ps (spX c.K m)) (hx : Passes (L2.CX X.prog X.w) X E) (hr : Room j X.A) (ha : DA X c pa (e :: es) wa) (hj : k ≤ j := by decide) (hk : X.K = c.K := by rfl) (hg : Gl X x := by rfl) (hdb : (x == ("__debug__" : Str)) = false := by decide)
    (he : starEach (e :: es) X.env = (false, eval e X.env) :: starEach es X.env := by rfl) (hpl : (backTo pos (starEach es X.env)).any (·.1) = false := by rfl) : DX X c (.Call (.Name x p) (e :: es) [] pos) (wCallXR m wa) E := by
  obtain ⟨f, fd, hm, hkp, G, hb⟩ := C.ex
  exact ⟨(pe_call G (hr.mono hj) hg hm hkp hb .nil hx ha.pa hdb he hpl).imp fun σ H Q ⟨ρ, F, O, Kk, Xk, S, hw, k1, k2⟩ => ⟨ρ, F, O, _, S, hw, fun ds ρ1 vs F1 H1 hm S1 fs1 ko1 g1 r1 => ⟨ds, F1, _, _, S1.sbt, by rw [app_nil]; exact r1, hm, fun d v F' H' hd gr rp =>
    k1 d ρ1 v F' H' hd (S1.grow gr) (fs1.trans gr.fs) (fun q hq => by rw [gr.at (S1.out q hq).2.2]; exact ko1 q hq) rp,
    fun C ns xs F' H' dx hX gr xd => k2 C ns xs ρ1 F' H' dx hX (S1.grow gr) (fs1.trans gr.fs) (fun q hq => by rw [gr.at (S1.out q hq).2.2]; exact ko1 q hq) xd.l⟩⟩, hk⟩
end
end Q

set_option Elab.async false
set_option linter.all false
set_option maxRecDepth 100000
set_option maxHeartbeats 4000000
/-! a lambda, made: what of the heap changes -/
namespace Q
open PySem PySem.Spec PyProof.Rows L2 LamX
/-- from H to H1 a lambda was made: only tables of T may have changed, what they tell anew is new -/
structure LamStep (T : List (Addr × Str)) (H H1 : Hp) : Prop where
  keep : ∀ b o, H b = some o → (∀ p ∈ T, p.1 ≠ b) → H1 b = some o
  tabs : Tabs T H1
  tups : NoNewT H H1
  codes : ∀ p ∈ T, ∀ ps pos c, H1 p.1 = some (.tbl ps) → codeAmong pos ps.toList = some (.ref c) → (∃ ps0, H p.1 = some (.tbl ps0) ∧ codeAmong pos ps0.toList = some (.ref c)) ∨ H c = none
theorem lam_made {X : Cx} {pins : List (Addr × Obj)} {σ : L2.St} {H : Hp} {s : Shared} {T : List (Addr × Str)} {c P : Addr} {params : Arguments} {body : Expr} {scope : Scope} {pos : Pos} {E Q : Value → Shared → Prop}
    (J : Inv X pins σ H s) (TB : TabB X.base X.mg c P) (code : X.env.code = .ref c) (mem : (P, X.env.qual ++ "<lambda>") ∈ T) (uni : ∀ p ∈ T, p.1 = P → p.2 = X.env.qual ++ "<lambda>") (tabs : Tabs T H)
    (nodef : defaultsOf params X.env = ([], [])) (caps : ∀ y ∈ scope.names, y.2 = .free → ∃ c, X.env.cells.lookup y.1 = some c)
    (next : ∀ (f c' : Addr) (pm ctv : Value) (H1 : Hp) (s' : Shared), Inv X pins σ H1 s' → LamStep T H H1 → s'.heap.get? f = some (PySem.W.kla_obj "<lambda>" (X.env.qual ++ "<lambda>") params body scope (cloFrom X.env.cells scope.names []) pm c' ctv) →
      H1 f = none → f ∉ frs X.stack → H1 c' = some (CodeO c' (X.env.qual ++ "<lambda>")) → Q (.ref f) s') : wpAny (model X.prog X.w) X.A (eval (.Lambda params body scope pos) X.env) Q E s := by
  obtain ⟨tb, tbAt, tbOk, tbCodes⟩ := tabs _ mem
  refine PySem.W.kla_eval nodef ?_
  have bm : s.heap.BuiltinsAt X.mg P := TB.bm.keeps J.bk
  have tbObj : s.heap.get? P = some { cls := .none, data := .fields tb } := J.hok P _ tbAt
  have noFrame : ∀ f, s.heap.objs.size ≤ f → f ∉ frs X.stack := fun f big m => by
    rcases List.mem_cons.mp (J.stkSub _ m) with same | there
    · exact absurd J.lt (by rw [← same]; exact Nat.not_lt.mpr big)
    · exact J.nofs big there
  cases found : codeAmong pos tb.toList with
  | some cv =>
    obtain ⟨c', rfl, c'At⟩ := tbCodes pos cv found
    refine PySem.W.kla_makeFunctionHit (mg := X.mg) (c := c) (P := P) (ps := tb) (closure_ok caps) J.ok.glob (J.mod.glob.keeps J.bk) code (TB.code.keeps J.bk) tbObj tbOk found bm fun ctv hp tk ext size => ?_
    exact next hp.objs.size c' ((X.mg "__name__").getD .none) ctv H _ (J.kept fun b o at0 => Heap.get?_push_of_some _ (ext b o at0)) ⟨fun _ _ at0 _ => at0, tabs, fun _ _ e => e, fun p _ ps pos c at0 am => .inl ⟨ps, at0, am⟩⟩ (Heap.get?_push_size _ rfl) (J.hok.fresh size) (noFrame _ size) c'At
  | none =>
    refine PySem.W.kla_makeFunction (mg := X.mg) (c := c) (P := P) (ps := tb) (closure_ok caps) J.ok.glob (J.mod.glob.keeps J.bk) code (TB.code.keeps J.bk) tbObj tbOk found TB.gP bm fun c' ctv hp tk ext big small rec tbNow => ?_
    obtain ⟨d0, oc, vs, t, ec, ocAt, ocData, ocName⟩ := rec
    cases ec
    have size : s.heap.objs.size ≤ hp.objs.size := Nat.le_trans big (Nat.le_of_lt small)
    have c'New : H c' = none := J.hok.fresh big
    have J1 := inv_table (t' := tk) (more := #[rawInt pos.line, rawInt pos.col, .ref c']) (h' := hp.push (PySem.W.kla_obj "<lambda>" (X.env.qual ++ "<lambda>") params body scope (cloFrom X.env.cells scope.names []) ((X.mg "__name__").getD .none) c' ctv)) J tbAt
      (fun b o ne at0 => Heap.get?_push_of_some _ (ext b o ne at0)) (Heap.get?_push_of_some _ tbNow) big ⟨oc, vs, t, Heap.get?_push_of_some _ ocAt, ocData, ocName⟩
    have P_ne : P ≠ c' := ne_of_none tbAt c'New
    have more_list : (tb ++ #[rawInt pos.line, rawInt pos.col, Value.ref c']).toList = tb.toList ++ [rawInt pos.line, rawInt pos.col, .ref c'] := by simp
    have at_P : upd (upd H P (.tbl (tb ++ #[rawInt pos.line, rawInt pos.col, .ref c']))) c' (CodeO c' (X.env.qual ++ "<lambda>")) P = some (.tbl (tb ++ #[rawInt pos.line, rawInt pos.col, .ref c'])) := by rw [upd_ne P_ne, upd_same]
    have at_other : ∀ b, b ≠ P → b ≠ c' → upd (upd H P (.tbl (tb ++ #[rawInt pos.line, rawInt pos.col, .ref c']))) c' (CodeO c' (X.env.qual ++ "<lambda>")) b = H b := fun b n1 n2 => by rw [upd_ne n2, upd_ne n1]
    have stay : ∀ b o, H b = some o → b ≠ P → upd (upd H P (.tbl (tb ++ #[rawInt pos.line, rawInt pos.col, .ref c']))) c' (CodeO c' (X.env.qual ++ "<lambda>")) b = some o := fun b o at0 n => by rw [at_other b n (ne_of_none at0 c'New)]; exact at0
    have code_stays : ∀ d q, H d = some (CodeO d q) → upd (upd H P (.tbl (tb ++ #[rawInt pos.line, rawInt pos.col, .ref c']))) c' (CodeO c' (X.env.qual ++ "<lambda>")) d = some (CodeO d q) := fun d q at0 => stay d _ at0 fun e => by
      rw [e, tbAt] at at0
      exact codeO_ne tb (Option.some.inj at0).symm
    refine next hp.objs.size c' ((X.mg "__name__").getD .none) ctv _ _ J1 ⟨fun b o at0 n => stay b o at0 fun e => n _ mem e.symm, fun p inT => ?_, fun b xs e => ?_, fun p inT ps pos1 d at0 am => ?_⟩ (Heap.get?_push_size _ rfl) ?_ (noFrame _ size) upd_same
    · by_cases isP : p.1 = P
      · rw [uni p inT isP, isP]
        refine ⟨_, at_P, by rw [more_list]; exact PySem.TriplesOk_snoc _ _ _ _ tbOk, fun pos1 cv am => ?_⟩
        rw [more_list] at am
        rcases among_app _ tbOk am with before | now
        · obtain ⟨d, e1, e2⟩ := tbCodes pos1 cv before
          exact ⟨d, e1, code_stays _ _ e2⟩
        · exact ⟨c', now, upd_same⟩
      · obtain ⟨ps, a1, a2, a3⟩ := tabs p inT
        refine ⟨ps, stay _ _ a1 isP, a2, fun pos1 cv am => ?_⟩
        obtain ⟨d, e1, e2⟩ := a3 pos1 cv am
        exact ⟨d, e1, code_stays _ _ e2⟩
    · by_cases n2 : b = c'
      · rw [n2, upd_same] at e
        have e := Option.some.inj e
        unfold CodeO at e
        cases e
      · by_cases n1 : b = P
        · rw [n1, at_P] at e
          cases e
        · rw [at_other b n1 n2] at e
          exact e
    · by_cases isP : p.1 = P
      · rw [isP, at_P] at at0
        have e := HO.tbl.inj (Option.some.inj at0)
        rw [← e, more_list] at am
        rcases among_app _ tbOk am with before | now
        · exact .inl ⟨tb, by rw [isP]; exact tbAt, before⟩
        · exact .inr (by rw [Value.ref.inj now]; exact c'New)
      · refine .inl ⟨ps, ?_, am⟩
        obtain ⟨ps0, a1, _⟩ := tabs p inT
        have := stay _ _ a1 isP
        rw [this] at at0
        rw [a1]
        exact at0
    · have n1 : hp.objs.size ≠ c' := Nat.ne_of_gt small
      have n2 : hp.objs.size ≠ P := Nat.ne_of_gt (Nat.lt_of_lt_of_le (Heap.lt_size tbObj) size)
      rw [at_other _ n2 n1]
      exact J.hok.fresh size
end Q

set_option Elab.async false
set_option linter.all false
set_option maxRecDepth 100000
set_option maxHeartbeats 4000000
/-! try, with several clauses that name what they catch -/
namespace Q
open PySem PySem.Spec PyProof.Rows L2
abbrev Suite := Addr → Value → Option Addr → TS
/-- what becomes of an error that meets the clauses: (class, slot of the name, suite) -/
def wNamed (K : PySem.W.Frag) (Wout : L2.WX) (D : Ends) : List (Value × Nat × Suite) → L2.WX
  | [] => Wout
  | (c, i, ts) :: r => fun cls d σ H => ∃ b, PySem.W.exmOne K cls c = some b ∧
      (b = true → ∀ a, H a = none → ts a cls d { nx := fun σ' H' => D.nx (σ'.set i none) H', rt := D.rt, bk := fun σ' H' => D.bk (σ'.set i none) H', ct := fun σ' H' => D.ct (σ'.set i none) H' } (σ.set i (some (.ref a))) H) ∧
      (b = false → wNamed K Wout D r cls d σ H)
inductive Clauses (X : Cx) : List ExceptHandler → List (Value × Nat × Suite) → Prop
  | nil : Clauses X [] []
  | cons {x n : Str} {i : Nat} {c : Value} {ts : Suite} {b0 : Stmt} {suite : List Stmt} {np hp : Pos} {more : List ExceptHandler} {l : List (Value × Nat × Suite)} (isC : Names X x c) (slot : X.N[i]? = some n) (loc : X.env.kindOf n = some .local)
      (reads : ∀ (a : Addr) (oe : Obj) (cls : Value) (d : Option Addr) (pn : List (Addr × Obj)), Zc cls d oe → (∃ vs, oe.data = .fields vs) → PSs (X.suite a ((a, oe) :: pn)) (b0 :: suite) (ts a cls d)) (rest : Clauses X more l) :
      Clauses X (.ExceptHandler (some (.Name x np)) (some n) (b0 :: suite) hp :: more) ((c, i, ts) :: l)
theorem ps_try_named {X : Cx} {body : List Stmt} {h0 : ExceptHandler} {more : List ExceptHandler} {l : List (Value × Nat × Suite)} {pos : Pos} {tb : L2.WX → TS} {Wout : L2.WX} (stack : X.stack = X.env :: X.outer) (frame : X.env.frame = some X.env.locals) (nd : X.N.Nodup) (takes : Takes X Wout)
    (reads : ∀ (W : L2.WX) (pn : List (Addr × Obj)) (xe : Value → Shared → Prop), Takes (X.tr pn xe) W → PassesOwn (model X.prog X.w) X.A X.env xe → PSs (X.tr pn xe) body (tb W)) (clauses : Clauses X (h0 :: more) l) :
    PS X (.Try body (h0 :: more) [] [] pos) (fun D σ H => tb (wNamed X.K Wout D l) D σ H) := by
  refine ⟨fun pins s σ H D J wish => ?_⟩
  have ok := J.ok
  have frames : X.A.frames = some (X.env :: X.outer) := by rw [ok.frames, stack]
  have inner := (reads (wNamed X.K Wout D l) (X.pn ++ pins) (fun e t1 => wpAny (model X.prog X.w) X.A (noteFrame e X.env) (fun _ t2 => wpAny (model X.prog X.w) X.A (setFlight e none) (fun _ t3 => wpAny (model X.prog X.w) X.A (handleBy e X.env (h0 :: more)) (SP X pins D) X.xe t3) X.xe t2) X.xe t1)
    (fun u s2 caught => by
      obtain ⟨a, B, sI, pins2, τ, G, cls, d, rfl, J0, noB, way, sky, aNew, sameOs, gens, meets⟩ := caught
      have J1 : Inv X pins τ G sI := J0.ofTry ok
      have sky1 : Sky B (X.env :: X.outer) a (Zc cls d) X.env.locals s2.heap := by rw [← stack]; exact sky
      show wpAny (model X.prog X.w) X.A (noteFrame (.ref a) X.env) _ _ _
      refine Sky.land Zc.steady frames frame sky1 fun h3 flies way3 => ?_
      have J3 : Inv X pins τ G { s2 with heap := h3 } := J1.landed noB flies.1 (way.trans way3) sameOs gens
      obtain ⟨o3, fs3, o3At, o3Cls, o3Data⟩ := flies.there
      have aFrame : a ∉ frs (X.env :: X.outer) := fun m => by
        obtain ⟨_, o4, at4, notFields⟩ := flies.2.2.1.mem m
        rw [o3At] at at4
        cases at4
        exact notFields _ o3Data
      have aLocals : a ≠ X.env.locals := fun e => aFrame (List.mem_filterMap.mpr ⟨X.env, List.mem_cons_self, by rw [frame, e]⟩)
      have aFs : a ∉ X.fs := fun m => by
        obtain ⟨env1, m1, f1⟩ := List.mem_filterMap.mp m
        exact aFrame (List.mem_filterMap.mpr ⟨env1, List.mem_cons_of_mem _ m1, f1⟩)
      have inSuite := J3.suite o3At o3Data aNew aLocals aFs
      have through : ∀ {hs : List ExceptHandler} {ls : List (Value × Nat × Suite)}, Clauses X hs ls → wNamed X.K Wout D ls cls d τ G → wpAny (model X.prog X.w) X.A (handleBy (.ref a) X.env hs) (SP X pins D) X.xe { s2 with heap := h3 } := by
        intro hs ls cl
        induction cl with
        | nil =>
          intro out
          refine wpAny_handleBy_nil ?_
          obtain ⟨_, _, _, oe, vs, T, _, _, oeAt, _, oeData, tr, _⟩ := id flies
          unfold PySem.passOn
          refine wpAny_bind (wpAny_field oeAt oeData tr ?_)
          rw [if_neg (by simp : ¬ ((Value.ref T == Value.none) = true))]
          have onward : wpAny (model X.prog X.w) X.A (setFlight (.ref a) X.env.frame) (fun _ t4 => wpAny (model X.prog X.w) X.A (throw (.ref a) : Sem Flow) (SP X pins D) X.xe t4) X.xe { s2 with heap := h3 } := by
            rw [frame]
            exact HandSPX.setFlight_upZ flies fun h4 held way4 => wpAny_throw (takes _ _ ⟨a, B, sI, pins, τ, G, cls, d, rfl, J1, noB, (way.trans way3).trans way4, .inr (.inr (by rw [stack]; exact held)), aNew, sameOs, gens, out⟩)
          first
            | exact wpAny_bind (wpAny_pure (wpAny_bind onward))
            | exact wpAny_bind onward
        | @cons x n i c ts b0 suite np hp more2 l2 isC slot loc suiteReads rest ih =>
          rintro ⟨b, fits, yes, no⟩
          refine wpAny_handleBy_cons (codeAny_handlers_test ?_) (by intro z; cases z)
          have tells : PySem.W.Looks (model X.prog X.w) h3 (typeOf (.ref a)) cls := fun A Q E t keep q => wpAny_typeOf_ref (keep _ _ o3At) (by rw [o3Cls.1]; exact q)
          have verdict := PySem.W.exm_one (M := model X.prog X.w) (J3.kIn) tells fits
          have named : ∀ {Q : Value → Shared → Prop} {E : Value → Shared → Prop}, Q c { s2 with heap := h3 } → wpAny (model X.prog X.w) (X.A.mark (some (.ref a))) (eval (.Name x np) X.env) Q E { s2 with heap := h3 } := fun {Q E} q => by
            obtain ⟨glob, noDebug, inMod | ⟨notMod, blt, notName⟩⟩ := isC
            · exact ld_glob (X := X.suite a ((a, o3) :: (X.pn ++ pins))) inSuite glob inMod q noDebug
            · exact ld_blt (X := X.suite a ((a, o3) :: (X.pn ++ pins))) inSuite glob notMod blt q notName noDebug
          refine named (verdict.here ?_)
          cases b with
          | false => exact ih (no rfl)
          | true =>
            refine codeAny_handlers_suite_as ?_
            refine HandSPX.lands_againZ flies fun h4 flies4 way4 => ?_
            have J4 : Inv X pins τ G { s2 with heap := h4 } := J1.landed noB flies4.1 ((way.trans way3).trans way4) sameOs gens
            obtain ⟨o4, fs4, o4At, o4Cls, o4Data⟩ := flies4.there
            refine store_ok (X := X.suite a ((a, o4) :: (X.pn ++ pins))) (v := .ref a) (J4.suite o4At o4Data aNew aLocals aFs) nd slot (.inl loc) rfl (fun t5 J5 => ?_) (.inr loc)
            refine wpAny_mono ((suiteReads a o4 cls d (X.pn ++ pins) o4Cls ⟨_, o4Data⟩).run [] t5 _ G _ J5 (yes rfl a aNew)) (fun flow t6 ends => ?_) (fun _ _ z => z.elim)
            have goes : ∀ {τ6 : L2.St} {G6 : Hp} {Q : Shared → Prop}, Inv (X.suite a ((a, o4) :: (X.pn ++ pins))) [] τ6 G6 t6 → (∀ t7, Inv X pins (τ6.set i none) G6 t7 → Q t7) →
                wpAny (model X.prog X.w) X.A (do bindName X.env n .none; unbindBehindTheSuite X.env n hp) (fun _ t7 => Q t7) X.xe t6 := fun J6 q => gone_ok (J6.unsuite ok) nd slot loc q
            cases flow with
            | ret u =>
              obtain ⟨v6, τ6, G6, J6, rel, q⟩ := ends
              exact goes J6 fun t7 J7 => ⟨_, _, _, J7, rel, q⟩
            | next =>
              obtain ⟨τ6, G6, J6, q⟩ := ends
              exact goes J6 fun t7 J7 => ⟨_, _, J7, q⟩
            | brk =>
              obtain ⟨τ6, G6, J6, q⟩ := ends
              exact goes J6 fun t7 J7 => ⟨_, _, J7, q⟩
            | cont =>
              obtain ⟨τ6, G6, J6, q⟩ := ends
              exact goes J6 fun t7 J7 => ⟨_, _, J7, q⟩
      exact through clauses meets) PassesOwn.looking).run [] s σ H D (J.toTry _) wish
  refine wpAny_Try_except (wpAny_mono inner (fun flow s1 ends => ?_) (fun e s1 he => he))
  cases flow with
  | ret u =>
    obtain ⟨v, τ, G, J0, rel, q⟩ := ends
    exact ⟨v, τ, G, J0.ofTry ok, rel, q⟩
  | next =>
    obtain ⟨τ, G, J0, q⟩ := ends
    exact wpAny_execs_nil ⟨τ, G, J0.ofTry ok, q⟩
  | brk =>
    obtain ⟨τ, G, J0, q⟩ := ends
    exact ⟨τ, G, J0.ofTry ok, q⟩
  | cont =>
    obtain ⟨τ, G, J0, q⟩ := ends
    exact ⟨τ, G, J0.ofTry ok, q⟩
end Q

set_option Elab.async false
set_option linter.all false
set_option maxRecDepth 100000
set_option maxHeartbeats 4000000
/-! tried(lambda: ..) -/
namespace Q
open PySem PySem.Spec PyProof.Rows L2 LamX
/-- a region that holds the tables of T -/
structure LamR (R : Rgn) (T : List (Addr × Str)) : Prop where
  tabs : ∀ {g : R.G} {Z : Addr → Prop} {H : Hp}, R.ok g Z H → Tabs T H ∧ ∀ p ∈ T, Z p.1
  step : ∀ {g : R.G} {Z : Addr → Prop} {H H1 : Hp}, R.ok g Z H → LamStep T H H1 → ∃ Z1 : Addr → Prop, R.ok g Z1 H1 ∧ (∀ b, Z b → Z1 b) ∧ ∀ b, Z1 b → Z b ∨ H b = none
theorem St.lam {c : Ctx} {F H H1 : Hp} {O : List Addr} {σ : L2.St} {ρ : DS c.R} {T : List (Addr × Str)} (S : St c F O σ ρ H) (L : LamR c.R T) (s : LamStep T H H1) : St c F O σ ρ H1 ∧ ∀ a ∈ O, H1 a = H a := by
  obtain ⟨Z, r, z1, z2, z3, z4⟩ := S.reg
  obtain ⟨tabs, inZ⟩ := L.tabs r
  obtain ⟨Z1, r1, up, dn⟩ := L.step r s
  have keep : ∀ b o, H b = some o → ¬ Z b → H1 b = some o := fun b o e n => s.keep b o e fun p hp q => n (by rw [← q]; exact inZ p hp)
  have sub1 : Same F H1 := fun b o e => keep b o (S.sub _ _ e) fun z => by
    rw [z1 b z] at e
    cases e
  have live1 : ∀ b, H b ≠ none → H1 b ≠ none := fun b n => by
    by_cases z : ∃ p ∈ T, p.1 = b
    · obtain ⟨p, hp, rfl⟩ := z
      obtain ⟨ps, e, _⟩ := s.tabs p hp
      rw [e]
      exact fun q => by cases q
    · cases q : H b with
      | none => exact absurd q n
      | some o =>
        rw [s.keep b o q fun p hp e => z ⟨p, hp, e⟩]
        exact fun q => by cases q
  have zf1 : ∀ b, Z1 b → F b = none := fun b h => by
    rcases dn b h with q | q
    · exact z1 b q
    · cases e : F b with
      | none => rfl
      | some o =>
        rw [S.sub _ _ e] at q
        cases q
  have gr : GrowR c.R ρ.g F H Z ρ.g F H1 Z1 := ⟨Same.refl _, sub1, fun b n => .inl n, keep, live1, r1, zf1, dn, fun t => t.noNew s.tups⟩
  refine ⟨S.growR z2 z3 z4 gr, fun a ha => ?_⟩
  cases q : H a with
  | none => exact absurd q (S.out a ha).2.2
  | some o => exact keep a o q (z3 a ha)
/-- the def g, of one parameter a, called with a lambda: TT is what it makes of the lambda's reading -/
def tLam1 (T : List (Addr × Str)) (TT : (XK → Hp → VK → Prop) → Hp → VK → Prop) (t : XK → TE) : TE := fun σ H Q => Tabs T H ∧ ∀ H1, LamStep T H H1 → TT (fun E H' Q' => t E σ H' Q') H1 Q
theorem pe_lam1 {X : Cx} {T : List (Addr × Str)} {TT : (XK → Hp → VK → Prop) → Hp → VK → Prop} {x a : Str} {g c P : Addr} {k : Nat} {st : Stmt} {gd : FuncData} {Ng : List Str} {params : Arguments} {body : Expr} {scope : Scope} {t : XK → TE} {p lpos pos : Pos}
    (hm : X.mg x = some (.ref g)) (fg : FnP X.K x x st g gd) (hb : L2.Binds X.K gd [a] []) (Sg : FnScope Ng [a] (defScope st)) (hNg : Ng[0]? = some a) (hva : Vis (defScope st) a)
    (hG : ∀ cdg, GivesTo X Ng x (defScope st) g cdg (defBody st) a (X.env.qual ++ "<lambda>") TT) (TB : TabB X.base X.mg c P) (code : X.env.code = .ref c) (mem : (P, X.env.qual ++ "<lambda>") ∈ T) (uni : ∀ p ∈ T, p.1 = P → p.2 = X.env.qual ++ "<lambda>")
    (hr : Room (k + 2) X.A) (L : LamS X.env.scope scope) (nodef : defaultsOf params X.env = ([], [])) (hbind : ∀ (q : Str) (cl : List (Str × Addr)) (pm cv ctv : Value), bindArgs (PySem.W.kla_fn "<lambda>" q params body scope cl pm cv ctv) ⟨[], []⟩ = pure [])
    (hbody : ∀ (A : Around) (outer : List Env) (s : Shared) (H : Hp) (E : XK) (f c' : Addr), Room k (A.deeper (lamEnv X scope s.heap.objs.size f c')) → PE (lamCx X A outer s H E scope f c') body (t E))
    (hg : Gl X x := by rfl) (hdb : (x == ("__debug__" : Str)) = false := by decide) (hd : (a == ("__debug__" : Str)) = false := by decide) (hcd : (a == ("__classdict__" : Str)) = false := by decide) :
    PE X (.Call (.Name x p) [.Lambda params body scope lpos] [] pos) (tLam1 T TT t) := by
  obtain ⟨oc, od, dV, kV, doc, pm, an, cdv, ct, osl, rfl, lk, codeG, _, _⟩ := fg.ex
  refine ⟨fun pins s σ H Q J ⟨tabs, wish⟩ => ?_⟩
  refine wpAny_Call_Name_kw (ld_glob J hg hm ?_ hdb)
  refine PySem.W.callWith_K (h₀ := X.base) J.ok.mod.kin fg.kp ?_ (by rfl) (by rfl)
  show wpAny _ _ (spliced ((false, eval (.Lambda params body scope lpos) X.env) :: backTo pos (starEach [] X.env))) _ _ s
  refine Calls.spliced_cons (lam_made J TB code mem uni tabs nodef (L.has J.ok) fun f c' pm' ctv H1 s1 J1 step fAt fNew fFrame c'At => ?_)
  refine Calls.spliced_nil ⟨J1.kIn, ?_⟩
  have ran : codeAny (model X.prog X.w) X.A (.call (.ref g) ⟨[.ref f], []⟩) (CR C8.CX0 X.stack X.prog X.w H1 s1 Q C8.E0) s1 := by
    refine run_ofS (N := Ng) (ps := [a]) (us := [.ref f]) (vs := [.ref f]) lk codeG Sg hr J1.env0 (hb s1 [.ref f] J1.kIn rfl) (.cons rfl .nil) rfl fun room => ?_
    obtain ⟨tg, bodyG, wishG⟩ := hG cdv f c' s1 H1 Q (fun E H' Q' => t E σ H' Q') (fun W pn xe E p1 p2 tk hW => pe_act (i := 0) J1 L fAt fNew fFrame (hbind _ _ _ _ _) tk hW room (fun A outer s H room2 => hbody A outer s H E f c' room2) hNg hva hd hcd) c'At (wish H1 step)
    exact ⟨tg, bodyG.nox, wishG⟩
  refine wpAny_call (codeAny_mono ran fun r s2 ends => ?_)
  cases r with
  | error e => exact (show False from ends).elim
  | ok flow =>
    cases flow with
    | ret u => exact J1.after ends
    | next => exact ends.elim
    | brk => exact ends.elim
    | cont => exact ends.elim
end Q

set_option Elab.async false
set_option linter.all false
set_option maxRecDepth 100000
set_option maxHeartbeats 4000000
/-! try: ask() / except C as e: return (tag, e.f, ..) -/
namespace Q
open PySem PySem.Spec PyProof.Rows L2 LamX
/-- an errors' reading may count on the number of slots -/
theorem takes_len {X : Cx} {W : L2.WX} (tk : Takes X W) : Takes X (fun cls d σ H => σ.length = X.N.length → W cls d σ H) := fun u s' ⟨a, B, sI, pins, σ, H, cls, d, e, I, nb, up, sky, na, os, ag, w⟩ =>
  tk u s' ⟨a, B, sI, pins, σ, H, cls, d, e, I, nb, up, sky, na, os, ag, w I.len⟩
def TTried (K : PySem.W.Frag) (n : Nat) (l : List (Value × Nat × Suite)) : (XK → Hp → VK → Prop) → Hp → VK → Prop := fun tl H Q =>
  tl (fun cls d H' => ∀ τ : L2.St, τ.length = n → wNamed K (fun _ _ _ _ => False) { nx := fun _ H' => Q .non H', rt := Q } l cls d τ H') H fun _ H' => Q .non H'
theorem tried_gives {X : Cx} {Ng : List Str} {x a q : Str} {sg : Scope} {g : Addr} {cdg : Value} {h0 : ExceptHandler} {more : List ExceptHandler} {l : List (Value × Nat × Suite)} {j : Nat} {p1 p2 p3 p4 p5 p6 : Pos} (nd : Ng.Nodup)
    (clauses : ∀ (s : Shared) (H : Hp), Clauses (cxOf C8.CX0 X.prog X.w X.K X.mg X.base Ng x sg g cdg X.A X.stack s H C8.E0).nox (h0 :: more) l) (s0 : ∀ f : Addr, (L2.start Ng [V.ref f])[0]? = some (some (V.ref f)))
    (sw : ∀ env : Env, swapsWith (.Call (.Name a p1) [] [] p2) none p3.line env = pure false) :
    GivesTo X Ng x sg g cdg [.Try [.Expr (.Call (.Name a p1) [] [] p2) p3] (h0 :: more) [] [] p4, .Return (some (.Constant .none j p5)) p6] a q (TTried X.K Ng.length l) := by
  intro f c' s H Q tl act hc wish
  refine ⟨_, pss_cons (ps_try_named (X := (cxOf C8.CX0 X.prog X.w X.K X.mg X.base Ng x sg g cdg X.A X.stack s H C8.E0).nox) (l := l)
      (tb := fun W D σ H => ∃ Ech : XK, (∀ cls d τ H', τ.length = Ng.length → Ech cls d H' → W cls d τ H') ∧ σ[0]? = some (some (.ref f)) ∧ H c' = some (CodeO c' q) ∧ tl Ech H (fun _ H' => D.nx σ H'))
      rfl rfl nd L2.takes0 (fun W pn xe tk _ => ?_) (clauses s H)) (pss_one (ps_ret pe_non)), ?_⟩
  · refine ⟨fun pins s' σ H' D I ⟨Ech, hW, h1, h2, h3⟩ => ?_⟩
    have called := act (fun cls d τ H' => τ.length = Ng.length → W cls d τ H') pn xe Ech p1 p2 (takes_len tk) fun cls d τ H' e n => hW cls d τ H' n e
    exact (pss_one (ps_expr (pos := p3) called (sw _))).run pins s' σ H' D I ⟨h1, h2, h3⟩
  · exact ⟨_, fun cls d τ H' n e => e τ n, s0 f, hc, wish⟩
/-- a clause: its class, the slot of its name, the tag, the fields told -/
structure Cl where
  C : Addr
  i : Nat
  tag : Str
  fs : List Str
def tFlds (a : Addr) (cls : Value) (d : Option Addr) (C : Addr) (i : Nat) : List Str → TA
  | [] => tNil
  | f :: fs => tCons (tXf a cls d C f (tVar i)) (tFlds a cls d C i fs)
def Cl.suite (k : Cl) : Suite := fun a cls d => tRet (tTup (tCons (tC (.str k.tag)) (tFlds a cls d k.C k.i k.fs)))
def Cl.told (k : Cl) : Value × Nat × Suite := (.ref k.C, k.i, k.suite)
def getFs (ns : List Str) (xs : List D) : List Str → Option (List D)
  | [] => some []
  | f :: fs => match lookD ns xs f, getFs ns xs fs with
    | some d, some ds => some (d :: ds)
    | _, _ => none
def wClauses {R : Rgn} (K : D → DS R → Prop) : List Cl → XR R
  | [] => fun _ _ _ _ => False
  | k :: r => fun C ns xs ρ => if C = k.C then ∃ ds, getFs ns xs k.fs = some ds ∧ ds.length ≤ 100 ∧ K (.tup (.str k.tag :: ds)) ρ else wClauses K r C ns xs ρ
theorem flds_run {K : PySem.W.Frag} {F H : Hp} {a C dx : Addr} {fs0 : List (Str × V)} {xs : List D} {σ : L2.St} {i : Nat} (hi : σ[i]? = some (some (.ref a))) (at_ : H dx = some (.xd fs0)) (r : Reps K F (fs0.map (·.2)) xs) :
    ∀ (fs : List Str) (ds : List D) (Q : List V → Hp → Prop), getFs (fs0.map (·.1)) xs fs = some ds → (∀ vs, Reps K F vs ds → Q vs H) → tFlds a (.ref C) (some dx) C i fs σ H Q
  | [], ds, Q, h, q => by
    cases h
    exact q [] .nil
  | f :: fs, ds, Q, h, q => by
    unfold getFs at h
    split at h
    · rename_i d ds' h1 h2
      cases h
      obtain ⟨v, hv, rv⟩ := lookD_of f r d h1
      refine ⟨.ref a, hi, rfl, rfl, dx, fs0, v, rfl, at_, hv, flds_run hi at_ r fs ds' _ h2 fun vs rs => q (v :: vs) (.cons rv rs)⟩
    · cases h
theorem clauses_run {c : Ctx} {F H : Hp} {O : List Addr} {σ : L2.St} {ρ : DS c.R} {Kk : D → DS c.R → Prop} {Q : VK} {C dx : Addr} {ns : List Str} {xs : List D} {n : Nat} (S : St c F O σ ρ H) (xd : XdL c.K F H dx ns xs)
    (next : ∀ d v F' H', Kk d ρ → St c F' O σ ρ H' → Same F F' → (∀ a ∈ O, H' a = H a) → Rep c.K F' v d → Q v H') {D0 : Ends} (rt : D0.rt = Q) : ∀ (cs : List Cl), (∀ k ∈ cs, k.i < n) → (∀ k ∈ cs, PySem.W.exmOne c.K (.ref C) (.ref k.C) = some (decide (C = k.C))) → wClauses Kk cs C ns xs ρ →
      ∀ τ : L2.St, τ.length = n → wNamed c.K (fun _ _ _ _ => False) D0 (cs.map Cl.told) (.ref C) (some dx) τ H
  | [], _, _, w, _, _ => w.elim
  | k :: r, hn, hx, w, τ, len => by
    refine ⟨decide (C = k.C), hx k List.mem_cons_self, fun yes a na => ?_, fun no => ?_⟩
    · have e := of_decide_eq_true yes
      subst e
      unfold wClauses at w
      rw [if_pos rfl] at w
      obtain ⟨ds, hd, l100, wk⟩ := w
      obtain ⟨fs0, at_, en, rf⟩ := xd.at_
      subst en
      have hi : (τ.set k.i (some (.ref a)))[k.i]? = some (some (.ref a)) := List.getElem?_set_self (by rw [len]; exact hn k List.mem_cons_self)
      show tFlds a (.ref k.C) (some dx) k.C k.i k.fs (τ.set k.i (some (.ref a))) H _
      refine flds_run hi at_ rf k.fs ds _ hd fun vs rs => ⟨by rw [List.length_cons, rs.length]; exact Nat.le_trans (by omega : ds.length + 1 ≤ 100000) big_line, fun p hp => ?_⟩
      have gr := (Al.one (F := F) (o := HO.tup (V.str k.tag :: vs)) hp).grow S.sub
      show D0.rt _ _
      rw [rt]
      exact next _ _ _ _ wk (S.grow gr) gr.fs (fun q hq => by rw [upd_ne (fun z => (S.out q hq).2.2 (by rw [z]; exact hp))]) (.tup upd_same (.cons (.str _) (rs.same gr.fs)))
    · have ne := of_decide_eq_false no
      unfold wClauses at w
      rw [if_neg ne] at w
      exact clauses_run S xd next rt r (fun q m => hn q (List.mem_cons_of_mem _ m)) (fun q m => hx q (List.mem_cons_of_mem _ m)) w τ len
theorem in_clauses {R : Rgn} {K : D → DS R → Prop} {C : Addr} {ns : List Str} {xs : List D} {ρ : DS R} : ∀ {cs : List Cl}, wClauses K cs C ns xs ρ → ∃ k ∈ cs, C = k.C
  | [], h => h.elim
  | k :: r, h => by
    by_cases e : C = k.C
    · exact ⟨k, List.mem_cons_self, e⟩
    · unfold wClauses at h
      rw [if_neg e] at h
      obtain ⟨k', m, e'⟩ := in_clauses h
      exact ⟨k', List.mem_cons_of_mem _ m, e'⟩
/-- tried(lambda: e) -/
def wTried {R : Rgn} (cs : List Cl) (w : WEX R) : WE R := fun ρ K => w ρ (fun _ ρ' => K .non ρ') (wClauses K cs)
section
variable {X : Cx} {c : Ctx}
theorem de_tried {T : List (Addr × Str)} {cs : List Cl} {n k : Nat} {x a : Str} {g co P : Addr} {st : Stmt} {gd : FuncData} {Ng : List Str} {params : Arguments} {body : Expr} {scope : Scope} {w : WEX c.R} {p lpos pos p1 p2 p3 p4 p5 p6 : Pos} {h0 : ExceptHandler} {more : List ExceptHandler} {j : Nat}
    (hm : X.mg x = some (.ref g)) (fg : FnP X.K x x st g gd) (hb : L2.Binds X.K gd [a] []) (Sg : FnScope Ng [a] (defScope st)) (hNg : Ng[0]? = some a) (hva : Vis (defScope st) a) (hbd : defBody st = [.Try [.Expr (.Call (.Name a p1) [] [] p2) p3] (h0 :: more) [] [] p4, .Return (some (.Constant .none j p5)) p6])
    (clauses : ∀ (cdg : Value) (s : Shared) (H : Hp), Clauses (cxOf C8.CX0 X.prog X.w X.K X.mg X.base Ng x (defScope st) g cdg X.A X.stack s H C8.E0).nox (h0 :: more) (cs.map Cl.told)) (s0 : ∀ f : Addr, (L2.start Ng [V.ref f])[0]? = some (some (V.ref f)))
    (slots : ∀ k ∈ cs, k.i < Ng.length) (kinds : ∀ k ∈ cs, ∀ k' ∈ cs, PySem.W.exmOne c.K (.ref k.C) (.ref k'.C) = some (decide (k.C = k'.C)))
    (TB : LamX.TabB X.base X.mg co P) (code : X.env.code = .ref co) (mem : (P, X.env.qual ++ "<lambda>") ∈ T) (uni : ∀ p ∈ T, p.1 = P → p.2 = X.env.qual ++ "<lambda>") (LR : LamR c.R T)
    (hr : Room (k + 2) X.A) (L : LamX.LamS X.env.scope scope) (nodef : defaultsOf params X.env = ([], [])) (hbind : ∀ (q : Str) (cl : List (Str × Addr)) (pm cv ctv : Value), bindArgs (PySem.W.kla_fn "<lambda>" q params body scope cl pm cv ctv) ⟨[], []⟩ = pure [])
    (hbody : ∀ (A : Around) (outer : List Env) (s : Shared) (H : Hp) (E : XK) (f c' : Addr), Room k (A.deeper (LamX.lamEnv X scope s.heap.objs.size f c')) → DX (LamX.lamCx X A outer s H E scope f c') c body w E) (hk : X.K = c.K := by rfl)
    (hg : Gl X x := by rfl) (hdb : (x == ("__debug__" : Str)) = false := by decide) (hd : (a == ("__debug__" : Str)) = false := by decide) (hcd : (a == ("__classdict__" : Str)) = false := by decide) :
    DE X c false false (.Call (.Name x p) [.Lambda params body scope lpos] [] pos) (wTried cs w) := by
  refine ⟨(pe_lam1 (T := T) (t := fun E => liftX c w E) hm fg hb Sg hNg hva (fun cdg => by rw [hbd]; exact tried_gives Sg.nd (clauses cdg) s0 fun env => rfl) TB code mem uni hr L nodef hbind (fun A outer s H E f c' room => (hbody A outer s H E f c' room).pe) hg hdb hd hcd).imp fun σ H Q ⟨ρ, F, O, Kk, S, hw, next⟩ => ?_, hk⟩
  obtain ⟨Z, r, _⟩ := S.reg
  refine ⟨(LR.tabs r).1, fun H1 step => ?_⟩
  obtain ⟨S1, ko1⟩ := S.lam LR step
  refine ⟨ρ, F, O, _, _, S1, hw, fun d ρ' v F' H' hk' S' fs ko rp => next .non ρ' .non F' H' hk' S' fs (fun q hq => by rw [ko q hq, ko1 q hq]) (fun z => by cases z) .non, fun C ns xs ρ' F' H' dx hX S' fs ko xd τ len => ?_⟩
  obtain ⟨k0, m0, e0⟩ := in_clauses hX
  rw [hk]
  exact clauses_run S' xd (fun d v F2 H2 hk2 S2 fs2 ko2 rp => next d ρ' v F2 H2 hk2 S2 (fs.trans fs2) (fun q hq => by rw [ko2 q hq, ko q hq, ko1 q hq]) (fun z => by cases z) rp) rfl cs slots (fun k' m => by rw [e0]; exact kinds k0 m0 k' m) hX τ len
end
end Q

set_option Elab.async false
set_option linter.all false
set_option maxRecDepth 100000
set_option maxHeartbeats 4000000
/-! the law's stream, a region -/
namespace Q
open PySem PySem.Spec PyProof.Rows L2
/-- the stream at st, its cells at L; at most c draws so far -/
def Sm (st L : Addr) (c : Nat) (H : Hp) : Prop := st ≠ L ∧ ∃ (cell n seed : Int) (cs : List Int), H st = some (.lst [.ref L, .int cell, .int n, .int seed]) ∧ H L = some (.lst (cs.map V.int)) ∧
  cs.length ≤ 63 ∧ 0 ≤ cell ∧ 0 ≤ n ∧ n ≤ (c : Int) ∧ 0 ≤ seed ∧ seed < 2147483647
/-- all but the stream -/
def dat (st L : Addr) (H : Hp) : Hp := fun b => if b = st ∨ b = L then none else H b
theorem dat_sub {st L : Addr} {H : Hp} {b : Addr} {o : HO} (h : dat st L H b = some o) : H b = some o ∧ b ≠ st ∧ b ≠ L := by
  unfold dat at h
  split at h
  · cases h
  · rename_i n
    exact ⟨h, fun e => n (.inl e), fun e => n (.inr e)⟩
theorem dat_of {st L : Addr} {H : Hp} {b : Addr} {o : HO} (h : H b = some o) (h1 : b ≠ st) (h2 : b ≠ L) : dat st L H b = some o := by
  unfold dat
  rw [if_neg (by rintro (e | e); exact h1 e; exact h2 e)]
  exact h
def spStart (K : PySem.W.Frag) : Sp := fun vs H Q _ => ∃ (a : Addr) (ns : List Int), vs = [.ref a] ∧ SqL K H a (ns.map V.int) ∧ ns.length ≤ 63 ∧
  ∀ (H' : Hp) (st L : Addr), Same H (dat st L H') → NoNewT H H' → Sm st L 0 H' → H st = none → H L = none → Q (.ref st) H'
def spDraw : Sp := fun vs H Q _ => ∃ (st L : Addr) (c : Nat) (m : Int), vs = [.ref st, .int m] ∧ Sm st L c H ∧ c ≤ 1000000 ∧ 0 < m ∧ m ≤ 100000 ∧
  ∀ (H' : Hp) (i : Int), Same (dat st L H) (dat st L H') → NoNewT H H' → Sm st L (c + 1) H' → 0 ≤ i → i < m → Q (.int i) H'
/-- the stream, and the tables T with the code objects that they tell -/
structure SG where
  st : Addr
  L : Addr
  c : Nat
structure SmOk (T : List (Addr × Str)) (g : SG) (Z : Addr → Prop) (H : Hp) : Prop where
  sm : Sm g.st g.L g.c H
  zs : Z g.st
  zL : Z g.L
  tabs : LamX.Tabs T H
  zT : ∀ p ∈ T, Z p.1
  zc : ∀ p ∈ T, ∀ ps pos d, H p.1 = some (.tbl ps) → codeAmong pos ps.toList = some (.ref d) → Z d
  live : ∀ a, Z a → H a ≠ none
theorem Sm.at {st L : Addr} {c : Nat} {H H' : Hp} (h : Sm st L c H) (h1 : H' st = H st) (h2 : H' L = H L) : Sm st L c H' := by
  obtain ⟨ne, cell, n, seed, cs, a, b, r⟩ := h
  exact ⟨ne, cell, n, seed, cs, by rw [h1]; exact a, by rw [h2]; exact b, r⟩
def Strm (T : List (Addr × Str)) : Rgn where
  G := SG
  ok := SmOk T
  fr := fun {g Z H H'} h s => by
    have et : ∀ p ∈ T, H' p.1 = H p.1 := fun p hp => s _ (h.zT p hp)
    refine ⟨h.sm.at (s _ h.zs) (s _ h.zL), h.zs, h.zL, fun p hp => ?_, h.zT, fun p hp ps pos d e am => h.zc p hp ps pos d (by rw [← et p hp]; exact e) am, fun a z => by rw [s a z]; exact h.live a z⟩
    obtain ⟨ps, a1, a2, a3⟩ := h.tabs p hp
    refine ⟨ps, by rw [et p hp]; exact a1, a2, fun pos cv am => ?_⟩
    obtain ⟨d, e1, e2⟩ := a3 pos cv am
    subst e1
    exact ⟨d, rfl, by rw [s d (h.zc p hp ps pos d a1 am)]; exact e2⟩
  al := fun h a z => h.live a z
theorem lam_strm (T : List (Addr × Str)) : LamR (Strm T) T where
  tabs := fun h => ⟨SmOk.tabs h, SmOk.zT h⟩
  step := fun {g Z H H1} h s => by
    have h : SmOk T g Z H := h
    have notT : ∀ b xs, H b = some (.lst xs) → ∀ p ∈ T, p.1 ≠ b := fun b xs e p hp q => by
      obtain ⟨ps, a1, _⟩ := h.tabs p hp
      rw [q, e] at a1
      cases a1
    obtain ⟨ne, cell, n, seed, cs, hst, hL, _⟩ := id h.sm
    refine ⟨fun b => Z b ∨ (H b = none ∧ ∃ p ∈ T, ∃ ps pos, H1 p.1 = some (.tbl ps) ∧ codeAmong pos ps.toList = some (.ref b)), ⟨h.sm.at (by rw [hst]; exact s.keep _ _ hst (notT _ _ hst)) (by rw [hL]; exact s.keep _ _ hL (notT _ _ hL)), .inl h.zs, .inl h.zL, s.tabs, fun p hp => .inl (h.zT p hp), fun p hp ps pos d e am => ?_, fun a z => ?_⟩, fun b z => .inl z, fun b z => z.imp id And.left⟩
    · rcases s.codes p hp ps pos d e am with ⟨ps0, e0, am0⟩ | q
      · exact .inl (h.zc p hp ps0 pos d e0 am0)
      · exact .inr ⟨q, p, hp, ps, pos, e, am⟩
    · rcases z with z | ⟨q, p, hp, ps, pos, e, am⟩
      · by_cases m : ∃ p ∈ T, p.1 = a
        · obtain ⟨p, hp, rfl⟩ := m
          obtain ⟨ps, e, _⟩ := s.tabs p hp
          rw [e]
          exact fun q => by cases q
        · cases q : H a with
          | none => exact absurd q (h.live a z)
          | some o =>
            rw [s.keep a o q fun p hp e => m ⟨p, hp, e⟩]
            exact fun q => by cases q
      · obtain ⟨ps1, e1, _, a3⟩ := s.tabs p hp
        rw [e] at e1
        cases e1
        obtain ⟨d, ed, hd⟩ := a3 pos _ am
        cases ed
        rw [hd]
        exact fun q => by cases q
/-- a number drawn: any below m -/
def mDraw (T : List (Addr × Str)) : WMR (Strm T) := fun ds g Kk => ∃ m : Int, ds = [.raw (.ref g.st), .int m] ∧ g.c ≤ 1000000 ∧ 0 < m ∧ m ≤ 100000 ∧ ∀ i : Int, 0 ≤ i → i < m → Kk (.int i) (⟨g.st, g.L, g.c + 1⟩ : SG)
/-- from the stream's own promise to the region's -/
theorem draw_R {K : PySem.W.Frag} {T : List (Addr × Str)} : ∀ vs H Q E, spR (Strm T) K (mDraw T) vs H Q E → spDraw vs H Q E := by
  rintro vs H Q E ⟨ds, F, Z, g, Kk, sub, r, ok, zF, ⟨m, rfl, hc, m0, m1, kk⟩, next⟩
  have ok : SmOk T g Z H := ok
  cases r with
  | cons r1 r =>
    cases r1
    cases r with
    | cons r2 r =>
      cases r2
      cases r
      refine ⟨g.st, g.L, g.c, m, rfl, ok.sm, hc, m0, m1, fun H' i e nn sm i0 i1 => ?_⟩
      have keep : ∀ b o, H b = some o → b ≠ g.st → b ≠ g.L → H' b = some o := fun b o q n1 n2 => (dat_sub (e _ _ (dat_of q n1 n2))).1
      obtain ⟨ne, cell, n, seed, cs, hst, hL, _⟩ := id ok.sm
      have notL : ∀ {b o}, H b = some o → (∀ xs, o ≠ .lst xs) → b ≠ g.st ∧ b ≠ g.L := fun {b o} q n => ⟨fun z => by
        rw [z, hst] at q
        exact n _ (Option.some.inj q).symm, fun z => by
        rw [z, hL] at q
        exact n _ (Option.some.inj q).symm⟩
      have tab : ∀ p ∈ T, ∀ ps, H p.1 = some (.tbl ps) → H' p.1 = some (.tbl ps) := fun p hp ps q => by
        obtain ⟨n1, n2⟩ := notL q (fun xs z => by cases z)
        exact keep _ _ q n1 n2
      have code : ∀ d q, H d = some (LamX.CodeO d q) → H' d = some (LamX.CodeO d q) := fun d q h => by
        obtain ⟨n1, n2⟩ := notL h (fun xs z => by unfold LamX.CodeO at z; cases z)
        exact keep _ _ h n1 n2
      have live : ∀ b, H b ≠ none → H' b ≠ none := fun b n => by
        by_cases z1 : b = g.st
        · obtain ⟨_, cell', n', seed', cs', a, _⟩ := sm
          rw [z1, a]
          exact fun z => by cases z
        · by_cases z2 : b = g.L
          · obtain ⟨_, cell', n', seed', cs', _, a, _⟩ := sm
            rw [z2, a]
            exact fun z => by cases z
          · cases q : H b with
            | none => exact absurd q n
            | some o =>
              rw [keep b o q z1 z2]
              exact fun z => by cases z
      have tabs' : ∀ p ∈ T, ∀ ps, H' p.1 = some (.tbl ps) → H p.1 = some (.tbl ps) := fun p hp ps q => by
        obtain ⟨ps0, a1, _⟩ := ok.tabs p hp
        have := tab p hp ps0 a1
        rw [this] at q
        cases q
        exact a1
      refine next (.int i) (⟨g.st, g.L, g.c + 1⟩ : SG) (.int i) F Z H' (kk i i0 i1) ⟨Same.refl _, fun b o q => ?_, fun b n => .inl n, fun b o q z => ?_, live, (⟨sm, ok.zs, ok.zL, fun p hp => ?_, ok.zT, fun p hp ps pos d q am => ok.zc p hp ps pos d (tabs' p hp ps q) am, fun a z => live a (ok.live a z)⟩ : SmOk T ⟨g.st, g.L, g.c + 1⟩ Z H'), zF, fun b z => .inl z, fun t => t.noNew nn⟩ (.int i)
      · refine keep b o (sub.s _ _ q) (fun z => ?_) fun z => ?_
        · rw [z, zF _ ok.zs] at q; cases q
        · rw [z, zF _ ok.zL] at q; cases q
      · exact keep b o q (fun e => z (by rw [e]; exact ok.zs)) fun e => z (by rw [e]; exact ok.zL)
      · obtain ⟨ps, a1, a2, a3⟩ := ok.tabs p hp
        refine ⟨ps, tab p hp ps a1, a2, fun pos cv am => ?_⟩
        obtain ⟨d, e1, e2⟩ := a3 pos cv am
        exact ⟨d, e1, code d _ e2⟩
section
variable {R : Rgn} {g : WG R} {wt : WB R} {we : WE R} {vs : List Nat} {K : List D → DS R → Prop}
/-- a comprehension by an invariant of what is left, what is told -/
theorem lcGo_ind (I : List D → List D → DS R → Prop) (st : ∀ (d : D) (rest acc : List D) (N : List D → DS R → Prop) (ρ : DS R), (∀ acc' ρ', I rest acc' ρ' → N acc' ρ') → I (d :: rest) acc ρ →
      g d ρ fun ρ2 => wt ρ2 fun b ρ3 => if b = true then we ρ3 fun y ρ4 => N (acc ++ [y]) ⟨ρ4.g, wipeL ρ4.sl vs⟩ else N acc ⟨ρ3.g, wipeL ρ3.sl vs⟩)
    (e : ∀ acc ρ, I [] acc ρ → K acc ρ) : ∀ (ds acc : List D) (ρ : DS R), I ds acc ρ → lcGo g wt we vs K ds acc ρ
  | [], acc, ρ, h => by
    unfold lcGo
    exact e acc ρ h
  | d :: ds, acc, ρ, h => by
    unfold lcGo
    exact st d ds acc (fun acc' ρ' => lcGo g wt we vs K ds acc' ρ') ρ (fun acc' ρ' h' => lcGo_ind I st e ds acc' ρ' h') h
end
end Q

set_option Elab.async false
set_option linter.all false
set_option maxRecDepth 100000
set_option maxHeartbeats 4000000
/-! x, y = a, b: the first one an object of the def's own -/
namespace Q
open PySem PySem.Spec PyProof.Rows L2
section
variable {X : Cx} {c : Ctx} {fr : Bool} {a b : Expr} {pos : Pos} {pa pb : Bool} {wa wb : WE c.R}
def sParO {R : Rgn} (i k : Nat) (wa wb : WE R) : WS R := fun Dk ρ => wa ρ fun x ρ1 => wb ρ1 fun y ρ2 => Dk.nx ((ρ2.put i (some (.own x))).put k (some (.fz y)))
theorem ObjD.same {K : PySem.W.Frag} {F F' : Hp} {a : Addr} (e : Same F F') : ∀ {o : HO} {d : D}, ObjD K F a o d → ObjD K F' a o d := fun {o d} h => by
  cases o <;> cases d <;> simp only [ObjD] at h ⊢
  · exact h.same e
  · exact ⟨h.1, h.2.same e⟩
  · exact ⟨h.1, h.2.same e⟩
  · obtain ⟨kvs, e1, e2, dp, r1, r2⟩ := h
    exact ⟨kvs, e1, e2, dp, r1.same e, r2.same e⟩
theorem ds_parO {i k : Nat} {x y : Str} {px py pt : Pos} {kt k2 pt2} (hN : X.N.Nodup) (hij : i ≠ k) (ha : FE X c pa a wa) (hb : DE X c pb false b wb) (hi : X.N[i]? = some x := by rfl) (hj : X.N[k]? = some y := by rfl)
    (hx : X.env.scope.names.lookup x = some .local := by rfl) (hy : X.env.scope.names.lookup y = some .local := by rfl) (hc : X.calm = true := by rfl)
    (hw : swappedStores [.Tuple [.Name x px, .Name y py] kt pt] (.Tuple [a, b] k2 pt2) X.env = pure (some [x, y]) := by rfl)
    (hs : swapsWithSole [.Tuple [.Name x px, .Name y py] kt pt] (.Tuple [a, b] k2 pt2) pos.line X.env = pure false := by rfl)
    (h1 : starEach [a, b] X.env = (false, eval a X.env) :: starEach [b] X.env := by rfl) (h2 : starEach [b] X.env = (false, eval b X.env) :: starEach [] X.env := by rfl) :
    DS1 X c fr (.Assign [.Tuple [.Name x px, .Name y py] kt pt] (.Tuple [a, b] k2 pt2) pos) (sParO i k wa wb) :=
  ⟨(ps_par hc hN hi hj hij hx hy (pa_cons ha.pe (pa_cons hb.pe pa_nil h2) h1) hw hs).imp fun E σ H ⟨ρ, F, Dk, S, w, k1, k2, k3, k4⟩ => ⟨ρ, F, [], _, S, w, fun d ρ1 p o F1 H1 hw2 S1 fs1 _ _ hp ob => by
    refine ⟨ρ1, F1, [p], _, S1.protect hp ob.noTup, hw2, fun d2 ρ2 v2 F2 H2 hk S2 fs2 ko2 _ r2 => ?_⟩
    have at_ : H2 p = some o := by rw [ko2 p (by simp)]; exact upd_same
    have S3 := (S2.release (by simp : p ∉ ([] : List Addr))).setO (q := p) (o := o) gone_at (ob.same fs2) i
    rw [gone_upd at_] at S3
    have r2 : Rep c.K F2 v2 d2 := r2
    exact ⟨_, _, rfl, k1 _ _ F2 H2 hk (S3.setF r2 k) (fs1.trans fs2)⟩⟩⟩
end
end Q

set_option Elab.async false
set_option linter.all false
set_option maxRecDepth 100000
set_option maxHeartbeats 4000000
/-! x.extend(e), e a list or a tuple -/
namespace Q
open PySem PySem.Spec PyProof.Rows L2
open PySem.AutoSeq1 in
theorem extend_tuple (l : Addr) (xs : Array Value) (n : Nat) (t : Addr) (ys : Array Value) (m : Nat) (td : Option Addr) (tsl : Array (Option Value)) (short : ¬ (!xs.isEmpty && Builtin.List.listTooLong (xs.size + ys.size)) = true) (fit1 : xs.size ≤ sizeLine) (fit2 : xs.size + ys.size ≤ sizeLine + 1) :
    Meets (Builtin.«list.extend» ⟨[.ref l, .ref t], []⟩) (fun _ R s => s.heap.get? l = some { cls := .type "list", dict := none, data := .seq xs n, slots := #[] } ∧ s.heap.get? t = some { cls := .type "tuple", dict := td, data := .seq ys m, slots := tsl } ∧
      R (.ok (.ret Value.none)) { s with heap := s.heap.update l (Obj.mapSeq fun x => x ++ ys), toks := s.toks }) :=
  .of_wp fun prog w A R s ⟨lAt, tAt, next⟩ => by
    obtain ⟨hp, g, d, tk, os⟩ := s
    have i1 := idx_int
    have i2 := PySem.AutoSeq1.sub_tuple_tuple
    have i3 := PySem.AutoSeq1.sub_list_list
    have i4 := PySem.AutoSeq1.sub_tuple_list
    have i5 := PySem.AutoSeq1.sub_list_tuple
    have both : (xs ++ ys).size ≤ sizeLine + 1 := by rw [Array.size_append]; exact fit2
    wp_walk using (wpAny_updateSeq lAt rfl (hz := fit1) (_hz' := both)), PySem.AutoSeq1.wpAny_loadPart' lAt, PySem.AutoSeq1.wpAny_loadPart' tAt
    exact ⟨_, rfl, next⟩
def rExtT (K : PySem.W.Frag) : V → List V → Hp → VK → Prop := fun x vs H Q => ∃ l b xs zs, x = .ref l ∧ vs = [.ref b] ∧ H l = some (.lst xs) ∧ SqT K H b zs ∧ xs.length + zs.length ≤ sizeLine ∧ Q .non (upd H l (.lst (xs ++ zs)))
theorem mt_extT {X : Cx} : MtM X "list.extend" (rExtT X.K) := by
  rintro pins s σ H x vs v us Q J rx rv ⟨l, b, xs, zs, rfl, rfl, at_l, at_b, size, wish⟩
  cases rx
  obtain ⟨u, rfl, ru⟩ := rv.one
  cases ru
  obtain ⟨_, its, n, rels, len, lObj⟩ := J.lstM at_l
  obtain ⟨tts, trels, ⟨⟨tcls, tdict, tdata, tsl⟩, tObj, tCls, tn, tData⟩, _⟩ := J.tuple at_b
  have tlen := trels.length
  cases tCls
  cases tData
  have fits : its.toArray.size + tts.toArray.size ≤ sizeLine := by rw [List.size_toArray, List.size_toArray]; omega
  have noLong : ¬ (!its.toArray.isEmpty && Builtin.List.listTooLong (its.toArray.size + tts.toArray.size)) = true := by
    rw [notLongL fits, Bool.and_false]
    exact Bool.false_ne_true
  refine call_meets F.slot_list_extend ⟨_, lObj, rfl⟩ F.entry_list_extend (F.args_list_extend_2 _ _) (extend_tuple l its.toArray n b tts.toArray tn tdict tsl noLong (by rw [List.size_toArray]; omega) (by omega)) ⟨lObj, tObj, ?_⟩
  refine ⟨.non, _, J.lset (its' := its ++ tts) at_l lObj (by simp) (rels.append trels) ?_, rfl, wish⟩
  rw [List.length_append]
  omega
section
variable {X : Cx} {c : Ctx} {fr : Bool} {e : Expr} {pos : Pos} {pa ba : Bool} {we : WE c.R}
def sExtA {R : Rgn} (i : Nat) (we : WE R) : WS R := fun D ρ => (∃ ds, ρ.sl[i]? = some (some (.own (.lst ds)))) ∧ we ρ fun d ρ1 => ∃ ds es, d = .tup es ∧ ρ1.sl[i]? = some (some (.own (.lst ds))) ∧ ds.length + es.length ≤ 100000 ∧ D.nx (ρ1.put i (some (.own (.lst (ds ++ es)))))
theorem ds_extT {i : Nat} {x : Str} {ep pp qp : Pos} (he : DE X c pa ba e we) (hk : X.K = c.K := by rfl) (hN : X.N[i]? = some x := by rfl) (hv : Vis X.env.scope x := by first | exact .inl rfl | exact .inr (.inl rfl) | exact .inr (.inr rfl))
    (hd : (x == ("__debug__" : Str)) = false := by decide) (hcd : (x == ("__classdict__" : Str)) = false := by decide)
    (hbase : attributeBase (.Name x pp) "extend" X.env (eval (.Name x pp) X.env) = eval (.Name x pp) X.env := by rfl)
    (hfew : ((backTo ep (starEach [e] X.env)).all (fun x => !x.1) && (backToKw ep (keywordEach [] X.env)).all (fun x => x.1.isSome) && decide (([e] : List Expr).length + ([] : List Keyword).length + (if ([] : List Keyword).isEmpty then 0 else 1) < 30)) = true := by rfl)
    (hline : (qp.endLine == ep.line) = true := by rfl) (hst : starEach [e] X.env = (false, eval e X.env) :: starEach [] X.env := by rfl) (hplain : (backTo ep (starEach [] X.env)).any (·.1) = false := by rfl)
    (hs : swapsWith (.Call (.Attribute (.Name x pp) "extend" qp) [e] [] ep) none pos.line X.env = pure false := by rfl) :
    DS1 X c fr (.Expr (.Call (.Attribute (.Name x pp) "extend" qp) [e] [] ep) pos) (sExtA i we) :=
  ⟨(ps_expr (pe_bm PySem.F.plainAttrs_list PySem.F.slot_list_extend PySem.F.type_list_extend mt_extT (pe_var hN hv hd hcd) (pa_cons he.pe pa_nil hst) hbase hfew hline hst hplain) hs).imp fun E σ H ⟨ρ, F, Dk, S, ⟨⟨ds0, h0⟩, w⟩, k1, k2, k3, k4⟩ => by
    obtain ⟨q, hq, vs0, hvs0, _⟩ := own_at S h0
    refine ⟨.ref q, hq, .inl ⟨rfl, vs0, SqL.of hvs0⟩, ρ, F, [], _, S, w, fun d ρ1 v F1 H1 ⟨ds, es, e1, h2, hz, hk2⟩ S1 fs1 ko1 g1 r1 => ?_⟩
    subst e1
    obtain ⟨q', hq', vs, hvs, rv⟩ := own_at S1 h2
    rw [hq] at hq'
    cases hq'
    obtain ⟨b, us, rfl, hb, ru⟩ := (r1.bv S1).tup S1.sub
    refine ⟨q, b, vs, us, rfl, rfl, hvs, by rw [hk]; exact hb, by rw [rv.length, ru.length]; exact Nat.le_trans hz big_line, ?_⟩
    exact k1 _ σ F1 _ hk2 (S1.write hq h2 (o := .lst (vs ++ us)) (rv.append ru)) fs1⟩
end
end Q
namespace Q
open PySem PySem.Spec PyProof.Rows L2
/-- -e -/
def negD : D → Option D
  | .int i => some (.int (-i))
  | _ => none
theorem de_neg {X : Cx} {c : Ctx} {e : Expr} {pos : Pos} {pa ba : Bool} {we : WE c.R} (he : DE X c pa ba e we) : DE X c pa false (.UnaryOp .USub e pos) (wUn negD we) :=
  ⟨(pe_un un_neg he.pe).imp fun σ H Q ⟨ρ, F, O, Kk, S, w, k⟩ => ⟨ρ, F, O, _, S, w, fun x ρ1 v F1 H1 ⟨z, hz, hk⟩ S1 fs1 ko1 g1 r1 => by
    cases x <;> simp only [negD, reduceCtorEq, Option.some.injEq] at hz
    subst hz
    exact ⟨_, (r1.bv S1).int, k _ ρ1 _ F1 H1 hk S1 fs1 ko1 g1 (.int _)⟩⟩, he.kk⟩
end Q

set_option Elab.async false
set_option linter.all false
set_option maxRecDepth 100000
set_option maxHeartbeats 4000000
/-! e[:n], n anything that tells a number -/
namespace Q
open PySem PySem.Spec PyProof.Rows L2
def wSlH {R : Rgn} (we wh : WE R) : WE R := fun ρ K => we ρ fun x ρ1 => wh ρ1 fun y ρ2 => ∃ (i : Int) (z : D), y = .int i ∧ slD none (some i) x = some z ∧ K z ρ2
theorem de_slH {X : Cx} {c : Ctx} {e h : Expr} {pa pb bb : Bool} {we wh : WE c.R} {pos p2 : Pos} (he : DE X c pa false e we) (hh : DE X c pb bb h wh) : DE X c false false (.Subscript e (.Slice none (some h) none p2) pos) (wSlH we wh) :=
  ⟨(pe_slice ((sl_list (X := X)).or sl_tupA |>.or sl_str) he.pe po_none (po_some hh.pe)).imp fun σ H Q ⟨ρ, F, O, Kk, S, w, k⟩ => ⟨ρ, F, O, _, S, w, fun x ρ1 v F1 H1 hk S1 fs1 ko1 g1 r1 => ⟨ρ1, F1, O, _, S1, hk, fun y ρ2 u F2 H2 ⟨i, z, ey, hz, hk2⟩ S2 fs2 ko2 g2 r2 => by
    subst ey
    have r1' : Rep c.K F2 v x := Rep.same fs2 r1
    rw [he.kk]
    exact ⟨i, (r2.bv S2).int, rst S2.sub (.rep r1') hz fun v' F' H' al rp => k z ρ2 v' F' H' hk2 (S2.grow (al.grow S2.sub)) (fs1.trans (fs2.trans (al.fs S2.sub))) (fun q hq => by rw [ko_al S2 al q hq, ko2 q hq, ko1 q hq]) (fun e => by cases e) rp⟩⟩⟩, he.kk⟩
end Q

set_option Elab.async false
set_option linter.all false
set_option maxRecDepth 100000
set_option maxHeartbeats 4000000
/-! zip of two lists or of two tuples; what is never reached -/
namespace Q
open PySem PySem.Spec PyProof.Rows L2
section
variable {X : Cx} {c : Ctx} {e e2 : Expr} {p pos : Pos} {pa pb : Bool} {we wb : WE c.R}
theorem walks_zipT {K : PySem.W.Frag} {F0 : Hp} {a b : Addr} {vs us : List V} {ds es : List D} (q1 : SqT K F0 a vs) (m1 : Reps K F0 vs ds) (q2 : SqT K F0 b us) (m2 : Reps K F0 us es) : Walks K F0 (RZ.ItzT K a b) (zipD ds es) where
  go := fun F H i s1 st lt => by
    have s2 := st.s
    have lt1 : i < ds.length := by simp [zipD] at lt; omega
    have lt2 : i < es.length := by simp [zipD] at lt; omega
    have at1 : SqT K H a vs := SqT.same (s1.trans s2) q1
    have at2 : SqT K H b us := SqT.same (s1.trans s2) q2
    obtain ⟨v, hv, rv⟩ := m1.get' (List.getElem?_eq_getElem lt1)
    obtain ⟨u, hu, ru⟩ := m2.get' (List.getElem?_eq_getElem lt2)
    refine ⟨⟨vs, us, v, u, at1, at2, hv, hu⟩, ?_⟩
    rintro x H' ⟨new, y, y', rfl, free, rfl, f1, f2⟩
    obtain rfl : v = y := Option.some.inj (hv.symm.trans (f1 vs at1))
    obtain rfl : u = y' := Option.some.inj (hu.symm.trans (f2 us at2))
    obtain ⟨al, rp⟩ := al_tup (K := K) (us := [v, u]) (es := [ds[i], es[i]]) s2 free (.cons (rv.same s1) (.cons (ru.same s1) .nil))
    exact ⟨_, _, zipD_get (List.getElem?_eq_getElem lt1) (List.getElem?_eq_getElem lt2), al, rp⟩
  stop := fun F H s1 s2 => by
    refine ⟨vs, us, SqT.same (s1.trans s2) q1, SqT.same (s1.trans s2) q2, ?_⟩
    have l1 := m1.length
    have l2 := m2.length
    simp only [zipD, List.length_zipWith]
    omega
def wZpA {R : Rgn} (we wb : WE R) : WI R := fun ρ K => we ρ fun d ρ1 => wb ρ1 fun d' ρ2 => ∃ ds es, ((d = .lst ds ∧ d' = .lst es) ∨ (d = .tup ds ∧ d' = .tup es)) ∧ K (zipD ds es) ρ2
theorem di_zipA {elts : List Expr} {kk : Nat} {tpos : Pos} (hm : X.mg "zip" = none) (he : DE X c pa false e we) (he2 : DE X c pb false e2 wb) (hg : Gl X "zip" := by rfl) (h1 : starEach [e, e2] X.env = (false, eval e X.env) :: starEach [e2] X.env := by rfl) (h2 : starEach [e2] X.env = (false, eval e2 X.env) :: starEach [] X.env := by rfl)
    (h4 : (backTo pos (starEach [e2] X.env)).any (·.1) = false := by rfl) : DI X c (.Tuple elts kk tpos) (.Call (.Name "zip" p) [e, e2] [] pos) (wZpA we wb) :=
  ⟨(RZ.pi_zipA hg hm (pa_cons he.pe (pa_cons he2.pe pa_nil h2) h1) h1 h4).imp fun σ H R ⟨ρ, F, O, Kk, S, w, k⟩ => ⟨ρ, F, O, _, S, w, fun d ρ1 v F1 H1 hk1 S1 fs1 ko1 g1 r1 => ⟨ρ1, F1, O, _, S1, hk1, fun d' ρ2 u F2 H2 ⟨ds, es, cs, hk⟩ S2 fs2 ko2 g2 r2 => by
    have r1 := Rep.same fs2 r1
    have keep : ∀ q ∈ O, H2 q = H q := fun q hq => by rw [ko2 q hq, ko1 q hq]
    rcases cs with ⟨rfl, rfl⟩ | ⟨rfl, rfl⟩
    · cases r1 with
      | lst h r =>
        cases r2 with
        | lst h' r' =>
          rw [he.kk]
          exact ⟨_, _, _, _, rfl, .inl ⟨SqL.of (S2.sub _ _ h), SqL.of (S2.sub _ _ h'), k _ ρ2 F2 H2 _ hk S2 (fs1.trans fs2) keep (walks_zip h r h' r')⟩⟩
    · cases r1 with
      | tup h r =>
        cases r2 with
        | tup h' r' =>
          rw [he.kk]
          exact ⟨_, _, _, _, rfl, .inr ⟨SqT.of (S2.sub _ _ h), SqT.of (S2.sub _ _ h'), k _ ρ2 F2 H2 _ hk S2 (fs1.trans fs2) keep (walks_zipT (SqT.of h) r (SqT.of h') r')⟩⟩⟩⟩⟩
/-- never reached -/
def wNev {R : Rgn} : WE R := fun _ _ => False
theorem de_nev (hk : X.K = c.K := by rfl) : DE X c pa false e (wNev (R := c.R)) := ⟨⟨fun _ _ _ _ _ _ h => by obtain ⟨_, _, _, _, _, w, _⟩ := h; exact w.elim⟩, hk⟩
end
end Q

set_option Elab.async false
set_option linter.all false
set_option maxRecDepth 100000
set_option maxHeartbeats 4000000
/-! a method without arguments; .append to what is fresh; C(x), x a list of one's own that stays so -/
namespace Q
open PySem PySem.Spec PyProof.Rows L2
/-- a method of the class at C -/
structure CalM (P : Program) (w : World) (K : PySem.W.Frag) (mg : Str → Option Value) (base : Heap) (C : Addr) (x : Str) (k : Nat) (ps : List Str) (sp : Sp) : Prop where
  there : ∃ (g : Addr) (gd : FuncData), Meth K C x g ∧ FnOk P w K mg base CX0 k g gd ps sp ∧ Binds K gd ps []
  cls : Cls K C
section
variable {X : Cx} {c : Ctx} {fr : Bool} {e o : Expr} {pos p apos : Pos} {pa pb : Bool} {we wo : WE c.R} {j k : Nat} {x : Str} {ps : List Str}
theorem lookup_no {f : Str} : ∀ {fs : List (Str × V)}, f ∉ fs.map (·.1) → fs.lookup f = none
  | [], _ => rfl
  | (n, v) :: fs, h => by
    rw [List.map_cons, List.mem_cons, not_or] at h
    rw [List.lookup_cons, beq_eq_false_iff_ne.mpr h.1]
    exact lookup_no h.2
def wMeth {R : Rgn} (C : Addr) (f : Str) (m : WM) (we : WE R) : WE R := fun ρ K => we ρ fun d ρ1 => ∃ ns xs, d = .ins C ns xs ∧ f ∉ ns ∧ m [d] fun z => K z ρ1
theorem fe_meth {C : Addr} {m : WM} {pl : Sem Bool} (M : CalM X.prog X.w X.K X.mg X.base C x k ps (spF c.K m)) (hr : Room j X.A) (he : DE X c pa false o we) (hj : k ≤ j := by decide)
    (ht : eval (.Call (.Attribute o x apos) [] [] pos) X.env = (do
      let ov ← eval o X.env
      standAt apos.atName
      let (f, first) ← holding [ov] (getMethod ov x pl)
      callWith pos f first (backTo pos (starEach [] X.env)) (backToKw pos (keywordEach [] X.env))) := by rfl) : FE X c pa (.Call (.Attribute o x apos) [] [] pos) (wMeth C x m we) := by
  obtain ⟨g, gd, isM, G, hb⟩ := M.there
  refine ⟨(pe_meth0 he.pe M.cls isM G (hr.mono hj) hb .nil pass0 ht).imp fun σ H Q ⟨ρ, F, O, Kk, S, w, k⟩ => ⟨ρ, F, O, _, S, w, fun d ρ1 v F1 H1 ⟨ns, xs, ed, nf, told⟩ S1 fs1 ko1 g1 r1 => ?_⟩, he.kk⟩
  subst ed
  have r1' : Rep c.K F1 v (.ins C ns xs) := r1
  obtain ⟨a, dx, fs, rfl, at_, en, _⟩ := (BV.rep r1' : BV c.K F1 H1 v _).ins S1.sub
  subst en
  exact ⟨a, dx, fs, rfl, at_, lookup_no nf, [_], F1, _, S1.sbt, .cons r1' .nil, told, fun d q ob F' H' hd gr hq od =>
    k d ρ1 q ob F' H' hd (S1.grow gr) (fs1.trans gr.fs) (fun b hb => by rw [gr.at (S1.out b hb).2.2]; exact ko1 b hb) (fun t => ⟨(g1 t).1, (g1 t).2.trans gr⟩) hq od⟩
/-- .append(e) to a fresh list that nobody keeps -/
def sAppF {R : Rgn} (wo we : WE R) : WS R := fun Dk ρ => wo ρ fun d ρ1 => we ρ1 fun _ ρ2 => ∃ ds, d = .lst ds ∧ ds.length < 100000 ∧ Dk.nx ρ2
theorem ds_appF (ho : FE X c pa o wo) (he : DE X c pb false e we) (hk : X.K = c.K := by rfl)
    (hbase : attributeBase o "append" X.env (eval o X.env) = eval o X.env := by rfl)
    (hfew : ((backTo p (starEach [e] X.env)).all (fun x => !x.1) && (backToKw p (keywordEach [] X.env)).all (fun x => x.1.isSome) && decide (([e] : List Expr).length + ([] : List Keyword).length + (if ([] : List Keyword).isEmpty then 0 else 1) < 30)) = true := by rfl)
    (hline : (apos.endLine == p.line) = true := by rfl) (hst : starEach [e] X.env = (false, eval e X.env) :: starEach [] X.env := by rfl) (hplain : (backTo p (starEach [] X.env)).any (·.1) = false := by rfl)
    (hs : swapsWith (.Call (.Attribute o "append" apos) [e] [] p) none pos.line X.env = pure false := by rfl)
    (lst : ∀ (ρ : DS c.R) (Kk : D → DS c.R → Prop), wo ρ Kk → wo ρ fun d ρ1 => Kk d ρ1 ∧ ∃ ds, d = .lst ds) : DS1 X c fr (.Expr (.Call (.Attribute o "append" apos) [e] [] p) pos) (sAppF wo we) := by
  refine ⟨(ps_expr (pe_bm PySem.F.plainAttrs_list PySem.F.slot_list_append PySem.F.type_list_append mt_append ho.pe (pa_cons he.pe pa_nil hst) hbase hfew hline hst hplain) hs).imp fun E σ H ⟨ρ, F, Dk, S, w, k1, _⟩ => ?_⟩
  refine ⟨ρ, F, [], _, S, lst _ _ w, fun d ρ1 q ob F1 H1 ⟨w2, ds0, ed⟩ S1 fs1 _ _ free od => ?_⟩
  subst ed
  obtain ⟨vs, rfl, rv⟩ : ∃ vs, ob = .lst vs ∧ Reps c.K F1 vs ds0 := by
    cases ob <;> simp only [ObjD] at od
    exact ⟨_, rfl, od⟩
  refine ⟨.inl ⟨rfl, vs, SqL.of upd_same⟩, ρ1, F1, [q], _, S1.protect free, w2, fun d2 ρ2 v2 F2 H2 ⟨ds, e1, small, nx⟩ S2 fs2 ko2 _ _ => ?_⟩
  cases e1
  have still : H2 q = some (.lst vs) := by rw [ko2 q (by simp)]; exact upd_same
  refine ⟨q, vs, v2, rfl, rfl, still, by rw [rv.length]; exact Nat.lt_of_lt_of_le small big_line, ?_⟩
  have S3 := (S2.release (by simp : q ∉ ([] : List Addr))).protect (p := q) (o := HO.lst (vs ++ [v2])) gone_at
  have same : upd (gone H2 q) q (HO.lst (vs ++ [v2])) = upd H2 q (.lst (vs ++ [v2])) := by
    funext b
    by_cases z : b = q
    · rw [z, upd_same, upd_same]
    · rw [upd_ne z, upd_ne z, gone_ne z]
  rw [same] at S3
  exact k1 ρ2 σ F2 _ nx ⟨S3.len, S3.sub, S3.tin, S3.old, S3.new, S3.keep, S3.live, S3.slots, fun i a h => ⟨(S3.mine i a h).1, (S3.mine i a h).2.1, by simp⟩, S3.inj, (fun a h => by cases h), S3.reg.imp fun Z ⟨r, z1, z2, _, z4⟩ => ⟨r, z1, z2, (fun a h => by cases h), z4⟩⟩ (fs1.trans fs2)
end
end Q

set_option Elab.async false
set_option linter.all false
set_option maxRecDepth 100000
set_option maxHeartbeats 4000000
namespace Q
open PySem PySem.Spec PyProof.Rows L2
/-! no list, no dict in it, at any depth -/
mutual
def noL : D → Bool
  | .tup xs => noLs xs
  | .ins _ _ xs => noLs xs
  | .non => true
  | .bl _ => true
  | .int _ => true
  | .str _ => true
  | _ => false
def noLs : List D → Bool
  | [] => true
  | x :: xs => noL x && noLs xs
end
section
variable {K : PySem.W.Frag} {F : Hp} {q : Addr} {us : List V}
theorem SqT.gone {a : Addr} {vs : List V} (hq : F q = some (.lst us)) (h : SqT K F a vs) : SqT K (gone F q) a vs := by
  rcases h with (h | ⟨o, h⟩) | h
  · exact .inl (.inl (by rw [gone_ne (fun e => by rw [e, hq] at h; cases h)]; exact h))
  · exact .inl (.inr ⟨o, by rw [gone_ne (fun e => by rw [e, hq] at h; cases h)]; exact h⟩)
  · exact .inr h
mutual
theorem Rep.gone (hq : F q = some (.lst us)) : ∀ {v : V} {d : D}, Rep K F v d → noL d = true → Rep K (Q.gone F q) v d
  | _, _, .non, _ => .non
  | _, _, .bl b, _ => .bl b
  | _, _, .int i, _ => .int i
  | _, _, .str x, _ => .str x
  | _, _, .lst _ _, n => by simp [noL] at n
  | _, _, .tup h r, n => .tup (by rw [gone_ne (fun z => by rw [z, hq] at h; cases h)]; exact h) (Reps.gone hq r (by simpa [noL] using n))
  | _, _, .dK _ _ _, n => by simp [noL] at n
  | _, _, .dT _ _ _, n => by simp [noL] at n
  | _, _, .dM _ _ _ _ _, n => by simp [noL] at n
  | _, _, .ins h e r, n => .ins (by rw [gone_ne (fun z => by rw [z, hq] at h; cases h)]; exact h) e (Reps.gone hq r (by simpa [noL] using n))
  | _, _, .raw _, n => by simp [noL] at n
theorem Reps.gone (hq : F q = some (.lst us)) : ∀ {vs : List V} {ds : List D}, Reps K F vs ds → noLs ds = true → Reps K (Q.gone F q) vs ds
  | _, _, .nil, _ => .nil
  | _, _, .cons r rs, n => by
    rw [noLs, Bool.and_eq_true] at n
    exact .cons (Rep.gone hq r n.1) (Reps.gone hq rs n.2)
end
end
section
variable {X : Cx} {c : Ctx} {pos p yp : Pos} {j k : Nat} {x : Str} {ps : List Str}
/-- C(y), y a list of one's own; what is made holds no list -/
def wMakeB {R : Rgn} (i : Nat) (m : WMX) : WE R := fun ρ K => ∃ ds, ρ.sl[i]? = some (some (.own (.lst ds))) ∧ m [.lst ds] (fun d => noL d = true ∧ K d ρ) fun _ _ _ => False
theorem de_makeB {C : Addr} {m : WMX} {i : Nat} {y : Str} (M : CalK X.prog X.w X.K X.mg X.base x C k ps m) (hr : Room j X.A) (hN : X.N[i]? = some y := by rfl) (hv : Vis X.env.scope y := by first | exact .inl rfl | exact .inr (.inl rfl) | exact .inr (.inr rfl))
    (hj : k + 1 ≤ j := by decide) (hk : X.K = c.K := by rfl) (hg : Gl X x := by rfl) (hdb : (x == ("__debug__" : Str)) = false := by decide) (hd : (y == ("__debug__" : Str)) = false := by decide) (hcd : (y == ("__classdict__" : Str)) = false := by decide)
    (he : starEach [.Name y yp] X.env = (false, eval (.Name y yp) X.env) :: starEach [] X.env := by rfl) (hpl : (backTo pos (starEach [] X.env)).any (·.1) = false := by rfl) : DE X c false false (.Call (.Name x p) [.Name y yp] [] pos) (wMakeB i m) := by
  obtain ⟨f, fd, mk, G, hb⟩ := M.ex
  refine ⟨(pe_make mk G (hr.mono hj) hg M.at_ hb .nil passF (pa_cons (pe_var hN hv hd hcd) pa_nil he) hdb he hpl).imp fun σ H Q ⟨ρ, F, O, Kk, S, ⟨ds, hi, told⟩, next⟩ => ?_, hk⟩
  obtain ⟨q, hq, vs, hvs, rv⟩ := own_at S hi
  obtain ⟨q1, q2, q3⟩ := S.mine i q ⟨hq, _, hi⟩
  refine ⟨.ref q, hq, fun a dx freeA freeD neq => ?_⟩
  have qa : q ≠ a := ne_of_none hvs freeA
  have inH : ∀ {b o}, F b = some o → H b = some o := fun {b o} e => S.sub b o e
  have Fa : F a = none := by
    cases z : F a with
    | none => rfl
    | some o => rw [inH z] at freeA; cases freeA
  have up : Same H (upd (upd H dx (.own a)) a (.ins C dx [])) := fun b o e => by
    rw [upd_ne (ne_of_none e freeA), upd_ne (ne_of_none e freeD)]
    exact e
  have sub1 : Same (upd F q (.lst vs)) H := fun b o e => by
    by_cases z : b = q
    · rw [z, upd_same] at e
      rw [z, hvs]
      exact e
    · rw [upd_ne z] at e
      exact inH e
  have F1a : upd F q (.lst vs) a = none := by rw [upd_ne (Ne.symm qa)]; exact Fa
  have FF1 : Same F (upd F q (.lst vs)) := fun b o e => by rw [upd_ne (fun z => by rw [z, q1] at e; cases e)]; exact e
  refine ⟨a, dx, [.ref q], [.lst ds], upd F q (.lst vs), _, _, rfl, upd_same, F1a, ⟨sub1.trans up, ((S.tin.updF hvs).updH (fun _ z => by cases z)).updH (fun _ z => by cases z)⟩, .cons (.lst upd_same (by rw [hk]; exact rv.same FF1)) .nil, told, fun ns xs fs F' H' ⟨nl, hk'⟩ gr nx en rf => ⟨rfl, ?_⟩, fun _ _ _ _ _ _ bad => bad.elim⟩
  have F'q : F' q = some (.lst vs) := gr.fs _ _ upd_same
  have ga : gone F' q a = none := by rw [gone_ne (Ne.symm qa)]; exact nx
  have g2 : Grow F H (upd (gone F' q) a (.ins C dx fs)) (upd H' a (.ins C dx fs)) := by
    refine ⟨fun b o e => ?_, fun b o e => ?_, fun b o e => ?_, fun b n => ?_, fun t => Tin.upd2 fun b xs e => ?_⟩
    rotate_left 4
    · have e2 := gr.tn (((t.updF hvs).updH (fun _ z => by cases z)).updH (fun _ z => by cases z)) b xs e
      rw [gone_ne (fun z => by rw [z, F'q] at e2; cases e2)]
      exact e2
    · have bq : b ≠ q := fun z => by rw [z, q1] at e; cases e
      have ba : b ≠ a := fun z => by rw [z, Fa] at e; cases e
      rw [upd_ne ba, gone_ne bq]
      exact gr.fs _ _ (FF1 _ _ e)
    · by_cases z : b = a
      · rw [z, upd_same] at e ⊢
        exact e
      · rw [upd_ne z] at e ⊢
        have bq : b ≠ q := fun y => by rw [y, gone_at] at e; cases e
        rw [gone_ne bq] at e
        exact gr.sub _ _ e
    · rw [upd_ne (ne_of_none e freeA)]
      exact gr.hs _ _ (up _ _ e)
    · by_cases z : b = a
      · rw [z]; exact .inr freeA
      · rw [upd_ne z] at n
        have bq : b ≠ q := fun y => by rw [y] at n; exact n gone_at
        rw [gone_ne bq] at n
        rcases gr.old b n with h | h
        · rw [upd_ne bq] at h
          exact .inl h
        · refine .inr ?_
          rw [upd_ne z] at h
          by_cases y : b = dx
          · rw [y]; exact freeD
          · rw [upd_ne y] at h; exact h
  have rf' : Reps X.K (gone F' q) (fs.map (·.2)) xs := Reps.gone F'q rf (by simpa [noL] using nl)
  have stay : Same (gone F' q) (upd (gone F' q) a (.ins C dx fs)) := fun b o e => by rw [upd_ne (fun z => by rw [z, ga] at e; cases e)]; exact e
  refine next _ ρ (.ref a) _ _ hk' (S.grow g2) g2.fs (fun b hb => ?_) (fun z => by cases z) (.ins upd_same en ?_)
  · rw [g2.at (S.out b hb).2.2]
  · rw [← hk]; exact rf'.same stay
end
end Q
namespace Q
open PySem PySem.Spec PyProof.Rows L2
section
variable {X : Cx} {c : Ctx} {a b : Expr} {pos : Pos} {pa pb : Bool} {wa wb : WE c.R} {j : Nat}
/-! == and != of a class's own, as tests -/
theorem dt_ownE {C : Addr} {m : WM} {n : Nat} (I : IsC c.K C) (O : OwnEq X C n m) (hr : Room j X.A) (ha : DE X c pa false a wa) (hb : DE X c pb false b wb) (hj : n ≤ j := by decide) (hm : behindInMarks .Eq b = false := by rfl) : DT X c (pa && pb) (.Compare a [.Eq] [b] pos) (wTest (wOwnE C false m wa wb)) := by
  obtain ⟨g, h1, h2, F⟩ := O.ex
  exact ⟨(pt_cmpR (op_ownE h1 h2 F (hr.mono hj)) ha.pe hb.pe hm).imp fun σ H Q h => by rw [ha.kk]; exact ownE_ok I ha hb (test_ok (ba := false) h)⟩
theorem dt_ownN {C : Addr} {m : WM} {n : Nat} (I : IsC c.K C) (O : OwnEq X C n m) (hr : Room j X.A) (ha : DE X c pa false a wa) (hb : DE X c pb false b wb) (hj : n + 1 ≤ j := by decide) (hm : behindInMarks .NotEq b = false := by rfl) : DT X c (pa && pb) (.Compare a [.NotEq] [b] pos) (wTest (wOwnE C true m wa wb)) := by
  obtain ⟨g, h1, h2, F⟩ := O.ex
  exact ⟨(pt_cmpR (op_ownN O.ne h1 h2 (by rw [ha.kk]; exact I.hm) F (hr.mono hj)) ha.pe hb.pe hm).imp fun σ H Q h => by rw [ha.kk]; exact ownE_ok I ha hb (test_ok (ba := false) h)⟩
end
end Q

set_option Elab.async false
set_option linter.all false
set_option maxRecDepth 100000
set_option maxHeartbeats 4000000
/-! data that can be set side by side up to the first place where they differ: their order, as Python's < tells it -/
namespace Q
open PySem PySem.Spec PyProof.Rows L2 PySem.SeqAt PySem.W
mutual
def cmb : PyData → PyData → Bool
  | .none, .none => true
  | .bool _, .bool _ => true
  | .int _, .int _ => true
  | .str _, .str _ => true
  | .list xs, .list ys => alikeAll xs ys
  | .tuple xs, .tuple ys => cmbs xs ys
  | _, _ => false
def cmbs : List PyData → List PyData → Bool
  | x :: xs, y :: ys => cmb x y && (!PyData.eqv x y || cmbs xs ys)
  | _, _ => true
end
theorem cmbs_cons {x y : PyData} {xs ys : List PyData} (h : cmbs (x :: xs) (y :: ys) = true) : cmb x y = true ∧ (PyData.eqv x y = true → cmbs xs ys = true) := by
  rw [cmbs, Bool.and_eq_true, Bool.or_eq_true] at h
  refine ⟨h.1, fun e => h.2.elim (fun z => ?_) id⟩
  rw [e] at z
  cases z
abbrev lexT := PyProof.Rows.lexLt itemOrd
theorem lex_same (p a b : List (Int ⊕ List Nat)) : lexT (p ++ a) (p ++ b) = lexT a b := lex_pre p a b
mutual
theorem tk_eqv : ∀ (x y : PyData), cmb x y = true → (PyData.eqv x y = true → keyToks x = keyToks y) ∧ (PyData.eqv x y = false → ∀ l m, lexT (keyToks x ++ l) (keyToks y ++ m) = lexT (keyToks x) (keyToks y))
  | .none, y, h => by
    cases y with
    | none => exact ⟨fun _ => rfl, fun e => by simp [PyData.eqv] at e⟩
    | _ => simp [cmb] at h
  | .bool a, y, h => by
    cases y with
    | bool b => exact toks_eqv _ _ (by simp [alike])
    | _ => simp [cmb] at h
  | .int a, y, h => by
    cases y with
    | int b => exact toks_eqv _ _ (by simp [alike])
    | _ => simp [cmb] at h
  | .str a, y, h => by
    cases y with
    | str b => exact toks_eqv _ _ (by simp [alike])
    | _ => simp [cmb] at h
  | .list xs, y, h => by
    cases y with
    | list ys => exact toks_eqv _ _ (by simpa [alike, cmb] using h)
    | _ => simp [cmb] at h
  | .dict _, y, h => by cases y <;> simp [cmb] at h
  | .tuple xs, y, h => by
    cases y with
    | tuple ys =>
      have hc : cmbs xs ys = true := by simpa [cmb] using h
      obtain ⟨r1, r2⟩ := tk_eqvs xs ys hc
      refine ⟨fun e => ?_, fun e => ?_⟩
      · show keyToks (.tuple xs) = keyToks (.tuple ys)
        simp only [keyToks]
        exact r1 (by simpa [PyData.eqv] using e)
      · simp only [keyToks]
        exact r2 (by simpa [PyData.eqv] using e)
    | _ => simp [cmb] at h
theorem tk_eqvs : ∀ (xs ys : List PyData), cmbs xs ys = true → (PyData.eqvAll xs ys = true → keyToksAll xs = keyToksAll ys) ∧ (PyData.eqvAll xs ys = false → ∀ l m, lexT (keyToksAll xs ++ l) (keyToksAll ys ++ m) = lexT (keyToksAll xs) (keyToksAll ys))
  | [], [], _ => ⟨fun _ => rfl, fun e => by simp [PyData.eqvAll] at e⟩
  | [], y :: ys, _ => ⟨fun e => by simp [PyData.eqvAll] at e, fun _ l m => by
      rw [toks_all_cons]
      simp only [keyToksAll, List.cons_append]
      exact (lex_atom (by simp) _ _).trans (lex_atom (by simp) _ _).symm⟩
  | x :: xs, [], _ => ⟨fun e => by simp [PyData.eqvAll] at e, fun _ l m => by
      rw [toks_all_cons]
      simp only [keyToksAll, List.cons_append]
      exact (lex_atom (by simp) _ _).trans (lex_atom (by simp) _ _).symm⟩
  | x :: xs, y :: ys, h => by
    obtain ⟨c1, c2⟩ := cmbs_cons h
    obtain ⟨r1, r2⟩ := tk_eqv x y c1
    rw [eqv_all_cons, toks_all_cons, toks_all_cons]
    refine ⟨fun e => ?_, fun e l m => ?_⟩
    · rw [Bool.and_eq_true] at e
      rw [r1 e.1, (tk_eqvs xs ys (c2 e.1)).1 e.2]
    · have out : ∀ a b : List (Int ⊕ List Nat), lexT ((Sum.inl 1 :: a) ++ l) ((Sum.inl 1 :: b) ++ m) = lexT (a ++ l) (b ++ m) := fun a b => lex_same [Sum.inl 1] (a ++ l) (b ++ m)
      have inn : ∀ a b : List (Int ⊕ List Nat), lexT (Sum.inl 1 :: a) (Sum.inl 1 :: b) = lexT a b := fun a b => lex_same [Sum.inl 1] a b
      rw [out, inn, List.append_assoc, List.append_assoc]
      cases hx : PyData.eqv x y with
      | false => rw [r2 hx, r2 hx]
      | true =>
        have e2 : PyData.eqvAll xs ys = false := by rw [hx] at e; simpa using e
        rw [r1 hx, lex_same, lex_same]
        exact (tk_eqvs xs ys (c2 hx)).2 e2 l m
end
theorem lt_yes {x y : PyData} {xs ys : List PyData} (h : cmb x y = true) (e : PyData.eqv x y = true) : lexT (keyToksAll (x :: xs)) (keyToksAll (y :: ys)) = lexT (keyToksAll xs) (keyToksAll ys) := by
  rw [toks_all_cons, toks_all_cons, (tk_eqv x y h).1 e]
  exact (lex_same [Sum.inl 1] _ _).trans (lex_same _ _ _)
theorem lt_no {x y : PyData} {xs ys : List PyData} (h : cmb x y = true) (e : PyData.eqv x y = false) : lexT (keyToksAll (x :: xs)) (keyToksAll (y :: ys)) = dataLt x y := by
  rw [toks_all_cons, toks_all_cons]
  exact (lex_same [Sum.inl 1] _ _).trans ((tk_eqv x y h).2 e _ _)
/-! ### < of two tuples, read up to the first place where they differ -/
section
open AutoSeq1 (wpAny_loadPart')
open MeetsSeq MeetsSeq2 MeetsSeq3 SeqRoads2
/-- what < of two rows comes to, place by place -/
def RowLt (A : Around) (s : Shared) : List Value → List Value → Bool → Prop
  | [], ws, k => k = !ws.isEmpty
  | _ :: _, [], k => k = false
  | v :: vs, w :: ws, k => (EqAt A s v w true ∧ RowLt A s vs ws k) ∨ (EqAt A s v w false ∧ RcLt A s v w k)
theorem tup_lt (l b : Addr) (xs ys : Array Value) (n n2 : Nat) (dd dd2 : Option Addr) (sl sl2 : Array (Option Value)) (k : Bool) :
    Meets (Builtin.«tuple.__lt__» ⟨[.ref l, .ref b], []⟩)
      (fun A R s => s.heap.get? l = some { cls := .type "tuple", dict := dd, data := .seq xs n, slots := sl } ∧ s.heap.get? b = some { cls := .type "tuple", dict := dd2, data := .seq ys n2, slots := sl2 } ∧
        RowLt A.in1 s xs.toList ys.toList k ∧ R (.ok (.ret (.bool k))) s) :=
  .of_wp fun prog w A R s h => by
    obtain ⟨hp, g, d, tk, os⟩ := s
    obtain ⟨hl, hb, hk, hR⟩ := h
    have sub := AutoSeq1.sub_tuple_tuple
    wp_walk using wpAny_loadPart' hl, wpAny_loadPart' hb, wpAny_forIn_list _ (fun rest b s' => b.1 = none ∧ s' = ⟨hp, g, d, tk, os⟩ ∧ ∃ vs ws, rest = vs.zip ws ∧ vs.length + ys.size = ws.length + xs.size ∧ RowLt A.in1 ⟨hp, g, d, tk, os⟩ vs ws k) _
    case turn =>
      rintro ⟨y, x⟩ rest b s' ⟨hb', rfl, vs, ws, hz, hlen, hrow⟩
      cases vs with
      | nil => cases hz
      | cons v vs =>
        cases ws with
        | nil => cases hz
        | cons w' ws =>
          rw [List.zip_cons_cons] at hz
          injection hz with h1 h2
          cases h1
          rcases hrow with ⟨he, hrow⟩ | ⟨he, hlt⟩
          · refine wpAny_bind (he prog w _ _ ?_)
            wp_walk
            exact ⟨rfl, rfl, vs, ws, h2, by simp only [List.length_cons] at hlen; omega, hrow⟩
          · refine wpAny_bind (he prog w _ _ ?_)
            have hlt2 := hlt
            unfold RcLt at hlt2
            generalize PySem.richCompare = RC at hlt2 ⊢
            wp_walk
            refine hlt2 prog w _ _ ?_
            wp_walk
            exact ⟨_, rfl, hR⟩
    case fin =>
      rintro ⟨b1, b2⟩ s' ⟨hb', rfl, vs, ws, hz, hlen, hrow⟩
      simp only at hb'
      subst hb'
      have hk' : decide (xs.size < ys.size) = k := by
        cases vs with
        | nil =>
          have e : k = !ws.isEmpty := hrow
          rw [e]
          cases ws with
          | nil => simp at hlen ⊢; omega
          | cons w' ws => simp at hlen ⊢; omega
        | cons v vs =>
          cases ws with
          | nil =>
            have e : k = false := hrow
            rw [e]
            simp at hlen ⊢; omega
          | cons w' ws => rw [List.zip_cons_cons] at hz; cases hz
      wp_walk
      exact ⟨_, rfl, by simpa [Builtin.Tuple.tupleCompareSizes, hk'] using hR⟩
    case h =>
      exact ⟨rfl, rfl, xs.toList, ys.toList, by simp, by simp; omega, hk⟩
theorem rc_tups {A : Around} {s : Shared} {l b : Addr} {xs ys : Array Value} {k : Bool} (hl : s.heap.IsTuple l xs) (hb : s.heap.IsTuple b ys) (hu : A.units < cLine) (h : RowLt A.in1 s xs.toList ys.toList k) : RcLt A s (.ref l) (.ref b) k := fun prog w E Q hq => by
  obtain ⟨⟨c1, d1, t1, s1⟩, at1, e1, n1, f1⟩ := id hl
  obtain ⟨⟨c2, d2, t2, s2⟩, at2, e2, n2, f2⟩ := id hb
  simp only at e1 f1 e2 f2
  subst e1 f1 e2 f2
  exact richCompare_meets_room (op := .Lt) ⟨_, at1, rfl⟩ ⟨_, at2, rfl⟩ PySem.F.slot_tuple_lt PySem.F.entry_tuple_lt (PySem.F.args_tuple_lt_2 _ _) (tup_lt l b xs ys n1 n2 d1 d2 s1 s2 k)
    ⟨at1, at2, h, show Value.bool k ≠ Value.notImplemented ∧ Q (.bool k) s from ⟨(fun x => nomatch x), hq⟩⟩ hu
end
end Q

set_option Elab.async false
set_option linter.all false
set_option maxRecDepth 100000
set_option maxHeartbeats 4000000
namespace Q
open PySem PySem.Spec PyProof.Rows L2 PySem.SeqAt PySem.W
theorem plain_cons {x : PyData} {xs : List PyData} (h : PyData.plainAll (x :: xs) = true) : x.plain = true ∧ PyData.plainAll xs = true := by
  rw [PyData.plainAll, Bool.and_eq_true] at h
  exact h
theorem dep_cons {n : Nat} {x : PyData} {xs : List PyData} (h : n + PyData.depthAll (x :: xs) < cLine) : n + x.depth < cLine ∧ n + PyData.depthAll xs < cLine := by
  rw [PyData.depthAll] at h
  omega
mutual
theorem rc_cmb : ∀ (x y : PyData) (A : Around) (s : Shared) (a b : Value) (as bs : List Addr), Reads s.heap a x as → Reads s.heap b y bs → cmb x y = true → PyData.eqv x y = false → x.plain = true → y.plain = true → A.units + x.depth < cLine → RcLt A s a b (dataLt x y)
  | .none, y, A, s, a, b, as, bs, ra, rb, h, e, px, py, hu => by
    cases y with
    | none => simp [PyData.eqv] at e
    | _ => simp [cmb] at h
  | .bool i, y, A, s, a, b, as, bs, ra, rb, h, e, px, py, hu => by
    cases y with
    | bool j => exact rcLt_alike _ _ A s a b as bs ra rb (by simp [alike]) (fun z => by cases z) (Nat.lt_of_le_of_lt (Nat.add_le_add_left (Nat.min_le_left _ _) _) hu)
    | _ => simp [cmb] at h
  | .int i, y, A, s, a, b, as, bs, ra, rb, h, e, px, py, hu => by
    cases y with
    | int j => exact rcLt_alike _ _ A s a b as bs ra rb (by simp [alike]) (fun z => by cases z) (Nat.lt_of_le_of_lt (Nat.add_le_add_left (Nat.min_le_left _ _) _) hu)
    | _ => simp [cmb] at h
  | .str i, y, A, s, a, b, as, bs, ra, rb, h, e, px, py, hu => by
    cases y with
    | str j => exact rcLt_alike _ _ A s a b as bs ra rb (by simp [alike]) (fun z => by cases z) (Nat.lt_of_le_of_lt (Nat.add_le_add_left (Nat.min_le_left _ _) _) hu)
    | _ => simp [cmb] at h
  | .list xs, y, A, s, a, b, as, bs, ra, rb, h, e, px, py, hu => by
    cases y with
    | list ys => exact rcLt_alike _ _ A s a b as bs ra rb (by simpa [alike, cmb] using h) (fun z => by cases z) (Nat.lt_of_le_of_lt (Nat.add_le_add_left (Nat.min_le_left _ _) _) hu)
    | _ => simp [cmb] at h
  | .dict _, y, _, _, _, _, _, _, _, _, h, _, _, _, _ => by cases y <;> simp [cmb] at h
  | .tuple xs, y, A, s, a, b, as, bs, ra, rb, h, e, px, py, hu => by
    cases y with
    | tuple ys =>
      have hc : cmbs xs ys = true := by simpa [cmb] using h
      have p1 : PyData.plainAll xs = true := by simpa [PyData.plain] using px
      have p2 : PyData.plainAll ys = true := by simpa [PyData.plain] using py
      have hd : A.in1.units + PyData.depthAll xs < cLine := by
        have : (PyData.tuple xs).depth = PyData.depthAll xs + 1 := by simp [PyData.depth]
        have hi : A.in1.units = A.units + 1 := rfl
        omega
      cases ra with
      | @tuple l o vs n _ _ h1 h2 h3 h4 =>
        cases rb with
        | @tuple l' o' ws n' _ _ k1 k2 k3 k4 =>
          rw [dataLt_tuple]
          exact rc_tups ⟨_, h1, h2, _, h3⟩ ⟨_, k1, k2, _, k3⟩ (by omega) (row_cmb xs ys A.in1 s _ _ _ _ h4 k4 hc p1 p2 hd)
    | _ => simp [cmb] at h
theorem row_cmb : ∀ (xs ys : List PyData) (A : Around) (s : Shared) (vs ws : List Value) (as bs : List Addr), ReadsAll s.heap vs xs as → ReadsAll s.heap ws ys bs → cmbs xs ys = true → PyData.plainAll xs = true → PyData.plainAll ys = true → A.units + PyData.depthAll xs < cLine →
    RowLt A s vs ws (lexT (keyToksAll xs) (keyToksAll ys))
  | [], [], A, s, vs, ws, _, _, ra, rb, _, _, _, _ => by
    cases ra
    cases rb
    show lexT _ _ = false
    exact lex_irrefl _
  | [], y :: ys, A, s, vs, ws, _, _, ra, rb, _, _, _, _ => by
    cases ra
    cases rb
    show lexT _ _ = true
    rw [toks_all_cons]
    simp only [keyToksAll]
    exact (lex_diff (O := itemOrd) (by simp)).trans (by simp [itemLt])
  | x :: xs, [], A, s, vs, ws, _, _, ra, rb, _, _, _, _ => by
    cases ra
    cases rb
    show lexT _ _ = false
    rw [toks_all_cons]
    simp only [keyToksAll]
    exact (lex_diff (O := itemOrd) (by simp)).trans (by simp [itemLt])
  | x :: xs, y :: ys, A, s, vs, ws, _, _, ra, rb, h, p1, p2, hu => by
    obtain ⟨c1, c2⟩ := cmbs_cons h
    obtain ⟨q1, q2⟩ := plain_cons p1
    obtain ⟨q3, q4⟩ := plain_cons p2
    obtain ⟨d1, d2⟩ := dep_cons hu
    cases ra with
    | cons r rs =>
      cases rb with
      | cons r' rs' =>
        have eq := eqAt_plain x y A s _ _ _ _ r r' q1 q3 (Nat.lt_of_le_of_lt (Nat.add_le_add_left (Nat.min_le_left _ _) _) d1)
        cases hx : PyData.eqv x y with
        | true =>
          rw [hx] at eq
          rw [lt_yes c1 hx]
          exact .inl ⟨eq, row_cmb xs ys A s _ _ _ _ rs rs' (c2 hx) q2 q4 d2⟩
        | false =>
          rw [hx] at eq
          rw [lt_no c1 hx]
          exact .inr ⟨eq, rc_cmb x y A s _ _ _ _ r r' c1 hx q1 q3 d1⟩
end
mutual
theorem reads_same {h : Heap} : ∀ (d d' : PyData) (v : Value) (as as' : List Addr), Reads h v d as → Reads h v d' as' → d.plain = true → d = d'
  | .none, d', _, _, _, r, r', _ => by cases r; cases r'; rfl
  | .bool _, d', _, _, _, r, r', _ => by cases r; cases r'; rfl
  | .int _, d', _, _, _, r, r', _ => by cases r; cases r'; rfl
  | .str _, d', _, _, _, r, r', _ => by cases r; cases r'; rfl
  | .dict _, d', _, _, _, r, r', p => by simp [PyData.plain] at p
  | .list xs, d', v, _, _, r, r', p => by
    have p1 : PyData.plainAll xs = true := by simpa [PyData.plain] using p
    cases r with
    | list h1 h2 h3 h4 =>
      cases r' with
      | list k1 k2 k3 k4 =>
        rw [h1] at k1
        cases k1
        rw [h3] at k3
        cases k3
        rw [reads_sames xs _ _ _ _ h4 k4 p1]
      | tuple k1 k2 k3 k4 =>
        rw [h1] at k1
        cases k1
        rw [h2] at k2
        injection k2 with k2
        exact absurd k2 (by decide)
      | _ =>
        rename_i kc kd ka kb kg
        rw [h1] at kg
        cases kg
        rw [h2] at kc
        injection kc with kc
        exact absurd kc (by decide)
  | .tuple xs, d', v, _, _, r, r', p => by
    have p1 : PyData.plainAll xs = true := by simpa [PyData.plain] using p
    cases r with
    | tuple h1 h2 h3 h4 =>
      cases r' with
      | tuple k1 k2 k3 k4 =>
        rw [h1] at k1
        cases k1
        rw [h3] at k3
        cases k3
        rw [reads_sames xs _ _ _ _ h4 k4 p1]
      | list k1 k2 k3 k4 =>
        rw [h1] at k1
        cases k1
        rw [h2] at k2
        injection k2 with k2
        exact absurd k2 (by decide)
      | _ =>
        rename_i kc kd ka kb kg
        rw [h1] at kg
        cases kg
        rw [h2] at kc
        injection kc with kc
        exact absurd kc (by decide)
theorem reads_sames {h : Heap} : ∀ (xs ys : List PyData) (vs : List Value) (as as' : List Addr), ReadsAll h vs xs as → ReadsAll h vs ys as' → PyData.plainAll xs = true → xs = ys
  | [], _, _, _, _, r, r', _ => by cases r; cases r'; rfl
  | x :: xs, ys, _, _, _, r, r', p => by
    obtain ⟨p1, p2⟩ := plain_cons p
    cases r with
    | cons r1 r2 =>
      cases r' with
      | cons q1 q2 => rw [reads_same x _ _ _ _ r1 q1 p1, reads_sames xs _ _ _ _ r2 q2 p2]
end
/-- every two can be set side by side; all plain -/
structure CmbAll (ds : List PyData) : Prop where
  two : ∀ d ∈ ds, ∀ d' ∈ ds, cmb d d' = true
  plain : ∀ d ∈ ds, d.plain = true
theorem kind_some {h : Heap} {ds : List PyData} (C : CmbAll ds) {v : Value} {d : PyData} {as : List Addr} (hd : d ∈ ds) (r : Reads h v d as) : (dataKind h ds).keyOf v = some (keyToks d) := by
  have q : ∃ d, d ∈ ds ∧ ∃ as, Reads h v d as := ⟨d, hd, as, r⟩
  have e : (dataKind h ds).keyOf v = some (keyToks q.choose) := by
    show (open Classical in if q : ∃ d, d ∈ ds ∧ ∃ as, Reads h v d as then some (keyToks q.choose) else none) = _
    exact dif_pos q
  obtain ⟨z1, bs, z2⟩ := q.choose_spec
  rw [e, reads_same _ _ _ _ _ z2 r (C.plain _ z1)]
section
variable {prog : Program} {w : World} {A : Around} {E : Value → Shared → Prop} {s : Shared}
theorem kat_cmb {b fin : Bool} {Q : Bool → Shared → Prop} : ∀ (xs ys : List PyData) (i : Nat) (vs ws : List Value) (as bs : List Addr), ReadsAll s.heap vs xs as → ReadsAll s.heap ws ys bs → cmbs xs ys = true → PyData.plainAll xs = true → PyData.plainAll ys = true →
    A.units + PyData.depthAll xs < cLine → (b = true → i = 0 → ∀ x r y r', xs = x :: r → ys = y :: r' → alike x y = true ∧ x ≠ .none ∧ ∀ t, x ≠ .tuple t) → fin = decide (xs.length < ys.length) → Q (lexT (keyToksAll xs) (keyToksAll ys)) s → KatLex prog w A b fin Q (vs.zip ws) i s
  | [], [], i, _, _, _, _, ra, rb, _, _, _, _, _, hf, hq => by
    cases ra
    cases rb
    have e : fin = false := by rw [hf]; rfl
    rw [e]
    refine kat_nil ?_
    rwa [show lexT (keyToksAll []) (keyToksAll []) = false from lex_irrefl _] at hq
  | [], y :: ys, i, _, _, _, _, ra, rb, _, _, _, _, _, hf, hq => by
    cases ra
    have e : fin = true := by rw [hf]; exact decide_eq_true (Nat.succ_pos _)
    rw [e, List.zip_nil_left]
    refine kat_nil ?_
    rw [toks_all_cons] at hq
    simp only [keyToksAll] at hq
    rwa [show lexT _ _ = true from (lex_diff (O := itemOrd) (by simp)).trans (by simp [itemLt])] at hq
  | x :: xs, [], i, _, _, _, _, ra, rb, _, _, _, _, _, hf, hq => by
    cases rb
    have e : fin = false := by rw [hf]; exact decide_eq_false (Nat.not_lt_zero _)
    rw [e, List.zip_nil_right]
    refine kat_nil ?_
    rw [toks_all_cons] at hq
    simp only [keyToksAll] at hq
    rwa [show lexT _ _ = false from (lex_diff (O := itemOrd) (by simp)).trans (by simp [itemLt])] at hq
  | x :: xs, y :: ys, i, _, _, _, _, ra, rb, h, p1, p2, hu, hb, hf, hq => by
    obtain ⟨c1, c2⟩ := cmbs_cons h
    obtain ⟨q1, q2⟩ := plain_cons p1
    obtain ⟨q3, q4⟩ := plain_cons p2
    obtain ⟨d1, d2⟩ := dep_cons hu
    have small : A.units + min x.depth y.depth < cLine := Nat.lt_of_le_of_lt (Nat.add_le_add_left (Nat.min_le_left _ _) _) d1
    cases ra with
    | cons r rs =>
      cases rb with
      | cons r' rs' =>
        rw [List.zip_cons_cons]
        refine kat_cons (eqAt_plain x y A s _ _ _ _ r r' q1 q3 small prog w _ _ ?_)
        cases hx : PyData.eqv x y with
        | true =>
          rw [lt_yes c1 hx] at hq
          exact kat_yes (kat_cmb xs ys (i + 1) _ _ _ _ rs rs' (c2 hx) q2 q4 d2 (fun _ z => by cases z) (by rw [hf]; simp) hq)
        | false =>
          rw [lt_no c1 hx] at hq
          refine kat_no ?_
          cases hi : (b && i == 0) with
          | true =>
            rw [Bool.and_eq_true] at hi
            obtain ⟨a1, a2, a3⟩ := hb hi.1 (by simpa using hi.2) x xs y ys rfl rfl
            exact oneLt_alike (fun _ => a3) r r' a1 a2 small hq
          | false =>
            rw [oneLt'_eq]
            simp only [Bool.false_eq_true, if_false]
            exact wpAny_bind (rc_cmb x y A s _ _ _ _ r r' c1 hx q1 q3 d1 prog w _ _ (wpAny_truthy_bool hq))
/-- tuples whose first items are all numbers, or all texts -/
def Heads (ds : List PyData) : Prop := (∀ d ∈ ds, ∃ i r, d = .tuple (.int i :: r)) ∨ ∀ d ∈ ds, ∃ z r, d = .tuple (.str z :: r)
theorem Heads.tup {ds : List PyData} (h : Heads ds) : ∀ d ∈ ds, ∃ x r, d = .tuple (x :: r) := fun d hd => by
  rcases h with h | h
  · obtain ⟨i, r, e⟩ := h d hd
    exact ⟨_, _, e⟩
  · obtain ⟨i, r, e⟩ := h d hd
    exact ⟨_, _, e⟩
theorem Heads.ty {ds : List PyData} (h : Heads ds) : ∃ T : String, T ≠ "tuple" ∧ ∀ x r, PyData.tuple (x :: r) ∈ ds → dataType x = .type T ∧ x ≠ .none ∧ (∀ t, x ≠ .tuple t) ∧ ∀ y r', PyData.tuple (y :: r') ∈ ds → alike x y = true := by
  rcases h with h | h
  · refine ⟨"int", by decide, fun x r m => ?_⟩
    obtain ⟨i, q, e⟩ := h _ m
    cases e
    refine ⟨rfl, (fun z => by cases z), (fun t z => by cases z), fun y r' m' => ?_⟩
    obtain ⟨j, q', e⟩ := h _ m'
    cases e
    simp [alike]
  · refine ⟨"str", by decide, fun x r m => ?_⟩
    obtain ⟨i, q, e⟩ := h _ m
    cases e
    refine ⟨rfl, (fun z => by cases z), (fun t z => by cases z), fun y r' m' => ?_⟩
    obtain ⟨j, q', e⟩ := h _ m'
    cases e
    simp [alike]
theorem sorts_cmb {vs : List Value} {ds : List PyData} (e : EachIs (fun v d => ∃ as, Reads s.heap v d as) vs ds) (C : CmbAll ds) (hh : Heads ds) (hu : ∀ d, d ∈ ds → A.units + d.depth < cLine) : SortsAt prog w A s (dataKind s.heap ds) vs := by
  obtain ⟨T, nT, hT⟩ := hh.ty
  have ne : (Value.type T != Value.type "tuple") = true := by simpa using nT
  refine ⟨fun v hv => ?_, tuples' (Value.type T != Value.type "tuple"), ?_, fun h2 E Q hq => ?_⟩
  · obtain ⟨d, hd, as, r⟩ := e.left v hv
    exact ⟨_, kind_some C hd r⟩
  · intro E x y a b Q ha hb hq
    obtain ⟨d, as, hd, ra, rfl⟩ := dataKind_inv ha
    obtain ⟨d', as', hd', rb, rfl⟩ := dataKind_inv hb
    have hdd := C.two d hd d' hd'
    have hroom := hu d hd
    obtain ⟨x1, r1, rfl⟩ := hh.tup d hd
    obtain ⟨x2, r2, rfl⟩ := hh.tup d' hd'
    have hq' : Q (dataLt (.tuple (x1 :: r1)) (.tuple (x2 :: r2))) s := hq
    rw [dataLt_tuple] at hq'
    have pl1 : PyData.plainAll (x1 :: r1) = true := by simpa [PyData.plain] using C.plain _ hd
    have pl2 : PyData.plainAll (x2 :: r2) = true := by simpa [PyData.plain] using C.plain _ hd'
    have hdp : A.units + PyData.depthAll (x1 :: r1) < cLine := by
      have : (PyData.tuple (x1 :: r1)).depth = PyData.depthAll (x1 :: r1) + 1 := by simp [PyData.depth]
      omega
    cases ra with
    | @tuple l o xs n _ _ h1 h2 h3 h4 =>
      cases rb with
      | @tuple l' o' xs' n' _ _ k1 k2 k3 k4 =>
        have n1 : xs.size = (x1 :: r1).length := by simpa using SeqAt.ReadsAll.length _ _ _ h4
        have n2 : xs'.size = (x2 :: r2).length := by simpa using SeqAt.ReadsAll.length _ _ _ k4
        refine kat_lt h1 h3 k1 k3 (kat_cmb (x1 :: r1) (x2 :: r2) 0 _ _ _ _ h4 k4 (by simpa [cmb] using hdd) pl1 pl2 hdp (fun _ _ x r y r' ex ey => ?_) (by rw [n1, n2]) hq')
        cases ex
        cases ey
        obtain ⟨_, t2, t3, t4⟩ := hT _ _ hd
        exact ⟨t4 _ _ hd', t2, t3⟩
  · obtain ⟨fs, t1, t2, t3⟩ := each_katTups e hh.tup
    refine kat_kind (T := Value.type T) t1 (by omega) (fun f hf => ?_) (beq_self_eq_true _) hq
    obtain ⟨x, r, as, m1, m2⟩ := t3 f hf
    rw [← (hT x r m1).1]
    exact looks_reads m2
end
end Q

set_option Elab.async false
set_option linter.all false
set_option maxRecDepth 100000
set_option maxHeartbeats 4000000
/-! sorted over data, by a key or without -/
namespace Q
open PySem PySem.Spec PyProof.Rows L2 PySem.SeqAt PySem.W
theorem vals_each {α : Type} {f : α → V} : ∀ {bs : List α} {us : List Value}, Vals (bs.map f) us → EachIs (fun u b => RelV (f b) u) us bs
  | [], _, h => by cases h; exact .nil
  | b :: bs, _, h => by
    cases h with
    | cons r t => exact .cons r (vals_each t)
theorem each_vals {α : Type} {f : α → V} : ∀ {bs : List α} {us : List Value}, EachIs (fun u b => RelV (f b) u) us bs → Vals (bs.map f) us
  | [], _, h => by cases h; exact .nil
  | b :: bs, _, h => by
    cases h with
    | cons r t => exact .cons r (each_vals t)
def pk (d : D) : PyData := (pyD d).getD .none
theorem pyDs_pk : ∀ {ks : List D}, (∀ k ∈ ks, pyD k = some (pk k)) → pyDs ks = some (ks.map pk)
  | [], _ => rfl
  | k :: ks, h => by
    rw [pyDs, h k List.mem_cons_self, pyDs_pk fun x hx => h x (List.mem_cons_of_mem _ hx)]
    rfl
theorem reps_zip {K : PySem.W.Frag} {F : Hp} : ∀ {vs : List V} {ds : List D}, Reps K F vs ds → ∀ p ∈ vs.zip ds, Rep K F p.1 p.2
  | _, _, .nil, p, h => by cases h
  | _, _, .cons r t, p, h => by
    rw [List.zip_cons_cons] at h
    rcases List.mem_cons.mp h with rfl | h
    · exact r
    · exact reps_zip t p h
theorem reps_of {K : PySem.W.Frag} {F : Hp} : ∀ {ps : List (V × D)}, (∀ p ∈ ps, Rep K F p.1 p.2) → Reps K F (ps.map (·.1)) (ps.map (·.2))
  | [], _ => .nil
  | p :: ps, h => .cons (h p List.mem_cons_self) (reps_of fun q hq => h q (List.mem_cons_of_mem _ hq))
theorem take_put {α : Type} {ds : List α} {i : Nat} {d : α} (h : ds[i]? = some d) : ds.take (i + 1) = ds.take i ++ [d] := by
  rw [List.take_add_one, h]
  rfl
/-- sorted by a key -/
def sortD (kf : D → D) (ds : List D) : List D := ds.mergeSort (dataLe false fun d => pk (kf d))
/-- the sorted list, as values and as data -/
theorem sort_both {K : PySem.W.Frag} {F : Hp} {vs : List V} {ds : List D} (kf : D → D) (r : Reps K F vs ds) :
    ∃ bs : List (V × PyData), bs.map (·.1) = vs ∧ bs.map (·.2) = (ds.map kf).map pk ∧ Reps K F ((bs.mergeSort (dataLe false (·.2))).map (·.1)) (sortD kf ds) := by
  have len := r.length
  let cs := vs.zip ds
  have c1 : cs.map (·.1) = vs := by simp [cs, List.map_fst_zip (Nat.le_of_eq len)]
  have c2 : cs.map (·.2) = ds := by simp [cs, List.map_snd_zip (Nat.le_of_eq len.symm)]
  refine ⟨cs.map fun p => (p.1, pk (kf p.2)), ?_, ?_, ?_⟩
  · rw [List.map_map]
    exact c1
  · rw [List.map_map, List.map_map]
    conv => rhs; rw [← c2, List.map_map]
    rfl
  · have e1 := sort_maps (r := fun a b : V × D => dataLe false (fun d => pk (kf d)) a.2 b.2) (s := dataLe false (fun p : V × PyData => p.2)) (fun p : V × D => (p.1, pk (kf p.2))) (l := cs) (fun a _ b _ => rfl)
    have e2 := sort_maps (r := fun a b : V × D => dataLe false (fun d => pk (kf d)) a.2 b.2) (s := dataLe false (fun d => pk (kf d))) (fun p : V × D => p.2) (l := cs) (fun a _ b _ => rfl)
    rw [← e1, List.map_map]
    have e3 : sortD kf ds = (cs.mergeSort fun a b : V × D => dataLe false (fun d => pk (kf d)) a.2 b.2).map (·.2) := by
      rw [e2]
      unfold sortD
      conv => lhs; rw [← c2]
    rw [e3]
    exact reps_of fun p hp => reps_zip r p ((List.mergeSort_perm _ _).mem_iff.mp hp)
section
variable {X : Cx} {c : Ctx} {x f a : Str} {k j : Nat} {p pos kpos fpos : Pos} {e : Expr} {pa ba : Bool} {we : WE c.R} {m : WM}
/-- sorted(e), without a key -/
def wSort {R : Rgn} (we : WE R) : WE R := fun ρ K => we ρ fun x ρ1 => ∃ ds : List D, seqD x = some ds ∧ (∀ d ∈ ds, pyD d = some (pk d) ∧ (pk d).depth ≤ 40) ∧ AllAlike (ds.map pk) ∧ Sortable (ds.map pk) ∧ K (.lst (sortD id ds)) ρ1
def rSortAny (K : PySem.W.Frag) : List V → Hp → VK → Prop := fun vs H Q => ∃ (a : Addr) (bs : List (V × PyData)), vs = [.ref a] ∧ SqL K H a (bs.map (·.1)) ∧ DpAll K H (bs.map (·.1)) (bs.map (·.2)) ∧ AllAlike (bs.map (·.2)) ∧ Sortable (bs.map (·.2)) ∧ (∀ b ∈ bs, b.2.depth ≤ 40) ∧
  ∀ p, H p = none → Q (.ref p) (upd H p (.lst ((bs.mergeSort (dataLe false (·.2))).map (·.1))))
theorem cr_sortedAny {X : Cx} (hu : X.A.units + 65 < cLine) : CallR X (.builtin "sorted") (rSortAny X.K) := by
  intro pins s σ H vs us Q I r h
  obtain ⟨a, bs, rfl, hs, hd, hal, hk, hdp, q⟩ := h
  obtain ⟨its, rv, hl, hz⟩ := I.list hs
  rw [Vals.ref1 r]
  rw [List.length_map] at hz
  obtain ⟨as, rd⟩ := Dp.readsAll I _ _ _ hd rv
  refine PySem.W.sorted_data (enc := fun b : V × PyData => b.2) (R := fun v (b : V × PyData) => RelV b.1 v) hl.isList (vals_each rv) (readsAll_each (fun b : V × PyData => b.2) rd) hal hk hz (fun b hb => by have := hdp b hb; omega) fun out ho eo => ?_
  obtain ⟨ep, he'⟩ := PyProof.Rows.sortedAll_at s.heap its (List.toArray out)
  have rv' := each_vals (f := fun b : V × PyData => b.1) eo
  exact ⟨.ref _, upd H (s.heap.objs.size + 1) (.lst ((bs.mergeSort (dataLe false (·.2))).map (·.1))), I.laid (t' := s.toks) (fun _ _ => PyProof.Rows.sortedAll_old) (Nat.le_succ _) ⟨by rw [List.length_map, List.length_mergeSort]; exact hz, out, ep, rv', he'⟩, rfl, q _ (I.hok.fresh (Nat.le_succ _))⟩
end
end Q

set_option Elab.async false
set_option linter.all false
set_option maxRecDepth 100000
set_option maxHeartbeats 4000000
/-! sorted(xs, key=f), f a def of the text: over the hand layer -/
namespace Q
open PySem PySem.Spec PyProof.Rows L2 PySem.SeqAt PySem.W
section
variable {P : Program} {w : World} {A : Around} {E : Value → Shared → Prop} {s : Shared} {a kS : Addr} {vs : List Value} {e1 : Nat} {Z : PySem.Fin → Shared → Prop}
/-- the keys are read one by one; I tells what is so behind each -/
theorem keys_loop {f : Value} (I : Nat → List Value → Shared → Prop) (hz : vs.length ≤ sizeLine) (at0 : ∃ e, s.heap.get? kS = some (seqObj "list" #[] e)) (i0 : I 0 [] s)
    (step : ∀ (j : Nat) (x : Value) (ks : List Value) (s' : Shared), vs[j]? = some x → ks.length = j → (∃ e, s'.heap.get? kS = some (seqObj "list" ks.toArray e)) → I j ks s' →
      wpAny (model P w) A (call f [x]) (fun v s2 => (∃ e, s2.heap.get? kS = some (seqObj "list" ks.toArray e)) ∧ ∀ h', (∀ b o, b ≠ kS → s2.heap.get? b = some o → h'.get? b = some o) → (∃ e, h'.get? kS = some (seqObj "list" (ks ++ [v]).toArray e)) → I (j + 1) (ks ++ [v]) { s2 with heap := h' }) (fun _ _ => False) s')
    (done : ∀ (ks : List Value) (s' : Shared), ks.length = vs.length → (∃ e, s'.heap.get? kS = some (seqObj "list" ks.toArray e)) → I vs.length ks s' → wpAny (model P w) A (ksk_end a false vs.toArray e1 (.ref kS) ks.toArray) Z E s') :
    wpAny (model P w) A (ksk_rest a f false vs.toArray e1 (.ref kS)) Z E s := by
  unfold ksk_rest
  refine wpAny_bind (wpAny_rule ?_)
  first
    | rw [List.forIn_toArray]
    | (rw [← Array.forIn_toList]; simp only [List.toList_toArray])
    | rw [← Array.forIn_toList]
  refine wpAny_bind (ksk_fold (fun i s' => ∃ ks, ks.length = i ∧ (∃ e, s'.heap.get? kS = some (seqObj "list" ks.toArray e)) ∧ I i ks s') vs 0 s ⟨[], rfl, at0, i0⟩ ?turn ?fin)
  case turn =>
    rintro j x s' hx ⟨ks, hl, hk, hi⟩
    rw [Nat.zero_add] at hl hi
    have hj : j < vs.length := (List.getElem?_eq_some_iff.mp hx).1
    refine wpAny_bind (wpAny_attempt (wpAny_mono (step j x ks s' hx hl hk hi) (fun v s2 told => ?_) fun _ _ z => z.elim))
    obtain ⟨⟨e, at2⟩, next⟩ := told
    try dsimp only
    have upd2 := Heap.SameBut.update s2.heap kS (Obj.mapSeq (·.push v))
    have at3 := get?_update_seq at2 (·.push v)
    have push : ks.toArray.push v = (ks ++ [v]).toArray := by simp
    rw [push] at at3
    refine wpAny_bind (listUpdate_at at2 rfl ?_ (by simp; omega) (by simp; omega))
    refine wpAny_pure ⟨rfl, ks ++ [v], by rw [List.length_append]; simp; omega, ⟨_, at3⟩, ?_⟩
    rw [Nat.zero_add]
    exact next _ (fun b o hb q => (upd2.2 b hb).trans q) ⟨_, at3⟩
  case fin =>
    rintro s' ⟨ks, hl, ⟨e, hk⟩, hi⟩
    rw [Nat.zero_add] at hl hi
    try dsimp only
    refine wpAny_bind (listItems_at hk rfl ?_)
    exact done ks s' hl ⟨e, hk⟩ hi
end
section
variable {X : Cx} {pins : List (Addr × Obj)} {σ : L2.St} {H : Hp} {s : Shared} {n : Nat} {g : Addr} {sp : Sp}
/-- an address that is new lies outside of all that is known -/
structure Out (X : Cx) (pins : List (Addr × Obj)) (b : Addr) : Prop where
  loc : b ≠ X.env.locals
  fs : b ∉ X.fs
  old : X.s_0.heap.objs.size ≤ b
  cell : ∀ x c, X.env.cells.lookup x = some c → c ≠ b
  pin : ∀ p ∈ X.pn ++ pins, p.1 ≠ b
theorem Out.of (I : Inv X pins σ H s) {b : Addr} (h : s.heap.objs.size ≤ b) : Out X pins b where
  loc := fun e => by
    have := I.lt
    rw [← e] at this
    exact absurd this (Nat.not_lt.mpr h)
  fs := I.nofs h
  old := Nat.le_trans I.sz h
  cell := fun x c e z => by
    obtain ⟨v, o, ho, _⟩ := I.cell x c e
    rw [z] at ho
    exact absurd (Heap.lt_size ho) (Nat.not_lt.mpr h)
  pin := fun p hp z => by
    have ho := (I.pin p hp).1
    rw [z] at ho
    exact absurd (Heap.lt_size ho) (Nat.not_lt.mpr h)
theorem pin2 {a kS : Addr} {oa ok : Obj} (I : Inv X pins σ H s) (A : Out X pins a) (B : Out X pins kS) (ha : s.heap.get? a = some oa) (hk : s.heap.get? kS = some ok) (na : H a = none) (nk : H kS = none) (da : ∀ v, oa.data ≠ .cell v) (dk : ∀ v, ok.data ≠ .cell v) :
    Inv X ((kS, ok) :: (a, oa) :: pins) σ H s := I.pins_of fun p hp => by
  rcases List.mem_cons.mp hp with rfl | hp
  · exact ⟨hk, nk, B.loc, B.fs, dk⟩
  · rcases List.mem_cons.mp hp with rfl | hp
    · exact ⟨ha, na, A.loc, A.fs, da⟩
    · exact I.pin p (List.mem_append_right _ hp)
theorem unpin2 {a kS : Addr} {oa ok : Obj} (I : Inv X ((kS, ok) :: (a, oa) :: pins) σ H s) : Inv X pins σ H s ∧ (s.heap.get? kS = some ok ∧ H kS = none) ∧ s.heap.get? a = some oa ∧ H a = none := by
  obtain ⟨p1, p2, _⟩ := I.pin (kS, ok) (List.mem_append_right _ List.mem_cons_self)
  obtain ⟨q1, q2, _⟩ := I.pin (a, oa) (List.mem_append_right _ (List.mem_cons_of_mem _ List.mem_cons_self))
  exact ⟨I.pins_of fun p hp => I.pin p (List.mem_append_right _ (List.mem_cons_of_mem _ (List.mem_cons_of_mem _ hp))), ⟨p1, p2⟩, q1, q2⟩
end
theorem vals_at {xs : List V} {us : List Value} (h : Vals xs us) {j : Nat} {u : Value} (e : us[j]? = some u) : ∃ x, xs[j]? = some x ∧ RelV x u := by
  induction h generalizing j with
  | nil => simp at e
  | cons r t ih =>
    cases j with
    | zero => simp at e; subst e; exact ⟨_, rfl, r⟩
    | succ j =>
      obtain ⟨x, h1, h2⟩ := ih (j := j) (by simpa using e)
      exact ⟨x, by simpa using h1, h2⟩
/-- the heap without what stands at b -/
def lessAt (h : Heap) (b : Addr) : Heap := h.update b fun o => { o with data := .freed }
theorem lessAt_none (h : Heap) (b : Addr) : (lessAt h b).get? b = none := by
  cases e : (lessAt h b).get? b with
  | none => rfl
  | some o =>
    obtain ⟨e1, e2⟩ := (Heap.get?_eq_some _ _ _).mp e
    unfold lessAt at e1
    cases q : h.objs[b]? with
    | none =>
      rw [Heap.objs_update_self, q] at e1
      cases e1
    | some u =>
      rw [Heap.objs_update_self, q] at e1
      cases e1
      simp [Obj.alive] at e2
theorem lessAt_ne {h : Heap} {b c : Addr} (n : c ≠ b) : (lessAt h b).get? c = h.get? c := Heap.get?_update_other h _ (Ne.symm n)
section
variable {X : Cx} {pins : List (Addr × Obj)} {σ : L2.St} {H : Hp} {s : Shared} {n : Nat} {g l : Addr} {sp : Sp} {xs : List V} {Q : VK}
/-- what is so of keys that can be sorted -/
def KeysOk (ds : List PyData) : Prop := ((CmbAll ds ∧ Heads ds) ∨ (AllAlike ds ∧ Sortable ds)) ∧ ∀ d ∈ ds, d.depth ≤ 40
/-- two objects of ours have changed, one of them is a list from now on -/
theorem two_changed {H' : Hp} {a kS : Addr} {h' : Heap} {tk c : Nat} {ys : List V} {out : List Value} (I : Inv X pins σ H' s) (oa : Out X pins a) (ok : Out X pins kS) (na : H' a = none) (nk : H' kS = none)
    (keep : ∀ b o, b ≠ a → b ≠ kS → s.heap.get? b = some o → h'.get? b = some o) (at_ : h'.get? a = some (seqObj "list" out.toArray c)) (rv : Vals ys out) (hz : ys.length ≤ sizeLine) :
    Inv X pins σ (upd H' a (.lst ys)) { s with heap := h', toks := tk } := by
  have ne : ∀ b u, H' b = some u → b ≠ a ∧ b ≠ kS := fun b u e => ⟨(fun z => by rw [z, na] at e; cases e), (fun z => by rw [z, nk] at e; cases e)⟩
  refine I.step (g' := s.gens) (d' := s.drawn) (ch := [a, kS]) (fun b hb => ?_) (fun b o _ _ hc e _ => ?_) (fun b o _ _ hc e _ => ⟨o.slots, ?_⟩) (fun b o hc e n' => ?_) (fun b o hc e => ⟨o, ?_⟩) (fun b xs e => ?_) (fun b o u e => ?_) (fun b ps e => ⟨#[], ?_⟩) (fun m hm => ?_) (fun b u e => ?_) I.bare
  · simp only [List.mem_cons, List.not_mem_nil, or_false] at hb
    rcases hb with rfl | rfl
    · exact ⟨.inr oa.old, oa.loc, oa.cell, oa.pin⟩
    · exact ⟨.inr ok.old, ok.loc, ok.cell, ok.pin⟩
  · simp only [List.mem_cons, List.not_mem_nil, or_false, not_or] at hc
    exact keep b o hc.1 hc.2 e
  · simp only [List.mem_cons, List.not_mem_nil, or_false, not_or] at hc
    exact keep b o hc.1 hc.2 e
  · simp only [List.mem_cons, List.not_mem_nil, or_false, not_or] at hc
    rw [upd_ne hc.1]
    exact n'
  · simp only [List.mem_cons, List.not_mem_nil, or_false, not_or] at hc
    exact keep b o hc.1 hc.2 e
  · rw [upd_ne (ne b _ e).1]
    exact e
  · rw [upd_ne (ne b _ e).1]
    exact e
  · rw [upd_ne (ne b _ e).1, e]
    simp
  · obtain ⟨o, es, ep, ho, r⟩ := hm
    exact ⟨o, es, ep, keep _ o (Ne.symm oa.loc) (Ne.symm ok.loc) ho, r⟩
  · by_cases hb : b = a
    · subst hb
      rw [upd_same] at e
      cases e
      exact ⟨hz, out, c, rv, at_⟩
    · rw [upd_ne hb] at e
      refine (I.hok b u e).stay (fun d v hd q => ?_) (fun d q => by rw [upd_ne (ne d _ q).1]; exact q) fun d xs q => by rw [upd_ne (ne d _ q).1]; exact q
      rcases hd with z | z
      · rw [z] at q ⊢; exact keep b v hb (ne b _ e).2 q
      · exact keep d v (ne d _ z).1 (ne d _ z).2 q
theorem sorted_keyI (G : Hp → List V → Prop) (I : Inv X pins σ H s) (hs : SqL X.K H l xs) (F : L2.FnR X.prog X.w X.K X.mg X.base CX0 n g sp) (hr : Room (n + 2) X.A) (g0 : G H [])
    (turn : ∀ H' ks x, xs[ks.length]? = some x → G H' ks → sp [x] H' (fun y H'' => G H'' (ks ++ [y])) E0)
    (fin : ∀ H' ks, G H' ks → ks.length = xs.length → ∃ bs : List (V × PyData), bs.map (·.1) = xs ∧ DpAll X.K H' ks (bs.map (·.2)) ∧ KeysOk (bs.map (·.2)) ∧ ∀ p, H' p = none → Q (.ref p) (upd H' p (.lst ((bs.mergeSort (dataLe false (·.2))).map (·.1))))) :
    wpAny (model X.prog X.w) X.A (call (.builtin "sorted") [.ref l] [(Str.ofString "key", .ref g)]) (EP X pins σ Q) X.xe s := by
  obtain ⟨its, rv, hl, hz⟩ := I.list hs
  have hlen : its.length = xs.length := rv.length.symm
  have hzi : its.length ≤ sizeLine := by omega
  have cp := copyHeap_at s.heap its
  refine sorted_of_sort hl.isList hzi (ksk_s1 _ _) (fun _ => ksk_l1 _ _) fun E' => ?_
  rw [ksk_t1]
  obtain ⟨e1, ho1⟩ : ∃ e1, ((copyHeap s.heap its).update (s.heap.objs.size + 1) (Obj.mapSeq fun _ => (#[] : Array Value))).get? (s.heap.objs.size + 1) = some (seqObj "list" #[] e1) := ⟨_, get?_update_seq cp fun _ => #[]⟩
  unfold ksk_tree
  refine wpAny_bind (listItems_at cp rfl ?_)
  refine wpAny_bind (listUpdate_at cp rfl ?_ (by rw [List.size_toArray]; exact hzi) (Nat.zero_le _))
  refine wpAny_bind (seqEpoch_at ho1 rfl ?_)
  refine wpAny_bind (wpAny_newTuple ?_ (by show its.length ≤ _; exact hzi))
  refine wpAny_bind (wpAny_newList ?_ (Nat.zero_le _))
  refine wpAny_holding ?_
  generalize hkS : ((((copyHeap s.heap its).update (s.heap.objs.size + 1) (Obj.mapSeq fun _ => (#[] : Array Value))).push (seqObj "tuple" its.toArray 0)).objs.size) = kS
  have szk : kS = ((copyHeap s.heap its).update (s.heap.objs.size + 1) (Obj.mapSeq fun _ => (#[] : Array Value))).objs.size + 1 := by rw [← hkS, size_push']
  have lt : s.heap.objs.size + 1 < ((copyHeap s.heap its).update (s.heap.objs.size + 1) (Obj.mapSeq fun _ => (#[] : Array Value))).objs.size := Heap.lt_size ho1
  have nek : kS ≠ s.heap.objs.size + 1 := by omega
  have oa : Out X pins (s.heap.objs.size + 1) := Out.of I (Nat.le_succ _)
  have ok : Out X pins kS := Out.of I (by omega)
  have I1 : Inv X pins σ H { s with heap := sortingHeap (copyHeap s.heap its) (s.heap.objs.size + 1) its } := I.kept (t' := s.toks) fun b o q => sorting_copy_old q
  have at_a : (sortingHeap (copyHeap s.heap its) (s.heap.objs.size + 1) its).get? (s.heap.objs.size + 1) = some (seqObj "list" #[] e1) := Heap.get?_push_of_some _ (Heap.get?_push_of_some _ ho1)
  have at_k : (sortingHeap (copyHeap s.heap its) (s.heap.objs.size + 1) its).get? kS = some (seqObj "list" #[] 0) := by rw [← hkS]; exact Heap.get?_push_size _ rfl
  have I2 := pin2 I1 oa ok at_a at_k (I.hok.fresh (Nat.le_succ _)) (I.hok.fresh (by omega)) (fun v z => by cases z) (fun v z => by cases z)
  have un : X.A.in1.in1.units = X.A.units + 2 := rfl
  have room := hr.units
  show wpAny _ _ (ksk_rest (s.heap.objs.size + 1) (.ref g) false its.toArray e1 (.ref kS)) _ _ { s with heap := sortingHeap (copyHeap s.heap its) (s.heap.objs.size + 1) its }
  refine keys_loop (I := fun i ks s' => ∃ (H' : Hp) (ksV : List V) (e : Nat), Inv X ((kS, seqObj "list" ks.toArray e) :: (s.heap.objs.size + 1, seqObj "list" #[] e1) :: pins) σ H' s' ∧ G H' ksV ∧ ksV.length = i ∧ Vals ksV ks)
    hzi ⟨0, at_k⟩ ⟨H, [], 0, I2, g0, rfl, .nil⟩ ?_ ?_
  · rintro j x ks s' hx hl' ⟨e, hk⟩ ⟨H', ksV, e', I', g', l', rk⟩
    obtain ⟨y, hy, ry⟩ := vals_at rv hx
    have q := turn H' ksV y (by rw [l']; exact hy) g'
    refine wpAny_mono (wpAny_call (SlX.run_at (X := X.wish fun _ _ => False) (us := [x]) F hr.in1.in1 (I'.wish _).env0.in1.in1 pass0 (I'.wish _) (.cons ry .nil) q)) (fun v s2 z => ?_) fun _ _ z => z
    obtain ⟨v', H2, I2w, rz, gz⟩ := z
    obtain ⟨I3, ⟨k1, k2⟩, a1, a2⟩ := unpin2 I2w.unwish
    refine ⟨⟨_, k1⟩, fun h' keep ⟨e3, at3⟩ => ⟨H2, ksV ++ [v'], e3, ?_, gz, by rw [List.length_append]; simp; omega, rk.append (.cons rz .nil)⟩⟩
    have I4 := I3.turned (it := kS) (t' := s2.toks) keep k2 ok.loc (.inr ok.old) ok.cell ok.pin
    exact pin2 I4 oa ok (keep _ _ nek.symm a1) at3 a2 k2 (fun v z => by cases z) (fun v z => by cases z)
  · rintro ks s' hl' ⟨e, hk⟩ ⟨H', ksV, e', I', g', l', rk⟩
    obtain ⟨bs, b1, b2, ⟨b3, b4⟩, b5⟩ := fin H' ksV g' (by rw [l']; exact hlen)
    obtain ⟨I3, ⟨k1, k2⟩, a1, a2⟩ := unpin2 I'
    obtain ⟨as, rd⟩ := Dp.readsAll I3 _ _ _ b2 rk
    have er := readsAll_each (fun b : V × PyData => b.2) rd
    have er' : EachIs (fun v d => ∃ as, Reads s'.heap v d as) ks (bs.map (·.2)) := each_map (R := fun v d => ∃ as, Reads s'.heap v d as) (fun b : V × PyData => b.2) er
    have dpt : ∀ d, d ∈ bs.map (·.2) → X.A.in1.in1.units + d.depth < cLine := fun d hd => by
      have := b4 d hd
      omega
    have S : SortsAt X.prog X.w X.A.in1.in1 s' (dataKind s'.heap (bs.map (·.2))) ks.toArray.toList := by
      rcases b3 with ⟨c1, c2⟩ | ⟨c1, c2⟩
      · exact sorts_cmb er' c1 c2 dpt
      · exact SortsAt.data er' c1 c2 dpt
    have keyed : EachIs (fun v b => (dataKind s'.heap (bs.map (·.2))).keyOf v = some (keyToks b.2)) ks bs := by
      have er2 := each_mem er
      refine er2.mono fun v b ⟨⟨as, r⟩, hb⟩ => ?_
      have hm : b.2 ∈ bs.map (·.2) := List.mem_map.mpr ⟨b, hb, rfl⟩
      rcases b3 with ⟨c1, c2⟩ | ⟨c1, c2⟩
      · exact kind_some c1 hm r
      · exact dataKind_some c1 hm r
    refine keyH_end (κ := dataKind s'.heap (bs.map (·.2))) (h₁ := lessAt s'.heap kS) (fun b o _ q => ?_) (lessAt_none _ _) k1 a1 nek S (by simp; omega) hzi fun h' tk c kp hD => ⟨rfl, ?_⟩
    · have nb : b ≠ kS := fun z => by
        rw [z, lessAt_none] at q
        cases q
      rw [lessAt_ne nb] at q
      exact q
    have items : EachIs (fun u (b : V × PyData) => RelV b.1 u) its bs := vals_each (by rw [b1]; exact rv)
    have out := sortVals_each (κ := dataKind s'.heap (bs.map (·.2))) (rev := false) (fun b : V × PyData => keyToks b.2) items keyed
    have outV := each_vals (f := fun b : V × PyData => b.1) out
    have bl : bs.length = xs.length := by rw [← b1, List.length_map]
    refine ⟨.ref _, _, two_changed (out := sortVals (dataKind s'.heap (bs.map (·.2))) false ks.toArray.toList its) (ys := (bs.mergeSort (dataLe false (·.2))).map (·.1)) I3 oa ok a2 k2 (fun b o n1 n2 q => kp b o n1 (by rw [lessAt_ne n2]; exact q)) hD outV (by rw [List.length_map, List.length_mergeSort]; omega), rfl, b5 _ a2⟩
end
end Q

set_option Elab.async false
set_option linter.all false
set_option maxRecDepth 100000
set_option maxHeartbeats 4000000
/-! sorted over data, by a key or without -/
namespace Q
open PySem PySem.Spec PyProof.Rows L2 PySem.SeqAt PySem.W
def rSK (X : Cx) (g : Addr) (sp : Sp) : List V → List V → Hp → VK → Prop := fun vs zs H Q => ∃ (l : Addr) (xs : List V) (G : Hp → List V → Prop), vs = [.ref l] ∧ zs = [.ref g] ∧ SqL X.K H l xs ∧ G H [] ∧
  (∀ H' ks x, xs[ks.length]? = some x → G H' ks → sp [x] H' (fun y H'' => G H'' (ks ++ [y])) E0) ∧
  ∀ H' ks, G H' ks → ks.length = xs.length → ∃ bs : List (V × PyData), bs.map (·.1) = xs ∧ DpAll X.K H' ks (bs.map (·.2)) ∧ KeysOk (bs.map (·.2)) ∧ ∀ p, H' p = none → Q (.ref p) (upd H' p (.lst ((bs.mergeSort (dataLe false (·.2))).map (·.1))))
theorem cr_sortedK {X : Cx} {n : Nat} {g : Addr} {sp : Sp} (F : L2.FnR X.prog X.w X.K X.mg X.base CX0 n g sp) (hr : Room (n + 2) X.A) : CallRK X (.builtin "sorted") [Str.ofString "key"] (rSK X g sp) := by
  intro pins s σ H vs zs us ws Q I r rz h
  obtain ⟨l, xs, G, rfl, rfl, hs, g0, turn, fin⟩ := h
  obtain rfl := Vals.ref1 r
  obtain rfl := Vals.ref1 rz
  exact sorted_keyI G I hs F hr g0 turn fin
def KeysD (ks : List D) : Prop := (∀ k ∈ ks, pyD k = some (pk k)) ∧ KeysOk (ks.map pk)
def wSortK {R : Rgn} (m : WM) (we : WE R) : WE R := fun ρ K => we ρ fun x ρ1 => ∃ (ds : List D) (kf : D → D), x = .lst ds ∧ (∀ d ∈ ds, ∀ Kk : D → Prop, Kk (kf d) → m [d] Kk) ∧ KeysD (ds.map kf) ∧ K (.lst (sortD kf ds)) ρ1
section
variable {X : Cx} {c : Ctx} {x f a : Str} {k j : Nat} {p pos kpos fpos : Pos} {e : Expr} {pa ba : Bool} {we : WE c.R} {m : WM}
theorem fe_sortK (C : Cal X.prog X.w X.K X.mg X.base f k [a] (spD c.K m)) (hr : Room j X.A) (hm : X.mg "sorted" = none) (he : DE X c pa ba e we) (hj : k + 2 ≤ j := by decide) (hg : Gl X "sorted" := by rfl) (hgf : Gl X f := by rfl) (hdb : (f == ("__debug__" : Str)) = false := by decide)
    (h1 : backTo pos (starEach [e] X.env) = (false, eval e X.env) :: backTo pos (starEach [] X.env) := by rfl) (h2 : (backTo pos (starEach [e] X.env)).any (·.1) = false := by rfl)
    (h3 : (backToKw pos (keywordEach [⟨some "key", .Name f fpos, kpos⟩] X.env)).all (·.1.isSome) = true := by rfl) (h4 : (backToKw pos (keywordEach [⟨some "key", .Name f fpos, kpos⟩] X.env)).any (·.1.isNone) = false := by rfl)
    (h5 : (backToKw pos (keywordEach [⟨some "key", .Name f fpos, kpos⟩] X.env)).filterMap (·.1) = [Str.ofString "key"] := by rfl) (h6 : starEach [e] X.env = (false, eval e X.env) :: starEach [] X.env := by rfl) :
    FE X c pa (.Call (.Name "sorted" p) [e] [⟨some "key", .Name f fpos, kpos⟩] pos) (wSortK m we) := by
  obtain ⟨g, fd, hf, hkp, G, hb⟩ := C.ex
  have FR : L2.FnR X.prog X.w X.K X.mg X.base CX0 k g (spD c.K m) := (FnOk.raw G hb .nil).imp fun vs H Q E h => by rw [List.append_nil]; exact h
  refine ⟨(pe_callBK (cr_sortedK FR (hr.mono hj)) hg hm (by decide +kernel) (pa_cons he.pe pa_nil h6) (pk_cons (pe_glob hgf hf (v := .ref g) rfl hdb) pk_nil) (by decide) (by decide) h1 h2 h3 h4 h5).imp fun σ H Q ⟨ρ, F, O, Kk, S, hw, next⟩ => ?_, he.kk⟩
  refine ⟨ρ, F, O, _, S, hw, fun y ρ1 v F1 H1 ⟨ds, kf, hy, hm', hk, hK⟩ S1 fs1 ko1 g1 r1 => ?_⟩
  subst hy
  obtain ⟨l, vs, rfl, hl, rp⟩ := (r1.bv S1).lst S1.sub
  have len := rp.length
  show rSK X g (spD c.K m) [.ref l] [.ref g] H1 Q
  refine ⟨l, vs, fun H' ks => ∃ F', Grow F1 H1 F' H' ∧ Reps c.K F' ks ((ds.take ks.length).map kf), rfl, rfl, SqL.of hl, ⟨F1, Grow.refl S1.sub, .nil⟩, ?_, ?_⟩
  · rintro H' ks x hx ⟨F', gr, rk⟩
    obtain ⟨d, hd, rd⟩ := (rp.same gr.fs).get hx
    refine ⟨[d], F', fun z => z = kf d, ⟨gr.sub, gr.tn S1.tin⟩, .cons rd .nil, hm' d (List.mem_of_getElem? hd) _ rfl, fun z v F2 H2 hz g2 rz => ⟨F2, gr.trans g2, ?_⟩⟩
    subst hz
    rw [List.length_append, List.length_singleton, take_put hd, List.map_append]
    exact (rk.same g2.fs).append (.cons rz .nil)
  · rintro H' ks ⟨F', gr, rk⟩ hl'
    rw [hl', len, List.take_length] at rk
    obtain ⟨bs, b1, b2, b3⟩ := sort_both kf (rp.same gr.fs)
    refine ⟨bs, b1, ?_, ?_, fun q hq => ?_⟩
    · rw [b2, he.kk]
      exact rk.dp gr.sub (pyDs_pk hk.1)
    · rw [b2]
      exact hk.2
    · exact next _ ρ1 q _ F' H' hK (S1.grow gr) (fs1.trans gr.fs) (fun z hz => by rw [gr.at (S1.out z hz).2.2]; exact ko1 z hz) (fun z => ⟨(g1 z).1, (g1 z).2.trans gr⟩) hq b3
end
end Q

set_option Elab.async false
set_option linter.all false
set_option maxRecDepth 100000
set_option maxHeartbeats 4000000
/-! calls that may let errors out: classes, methods, own operators; methods with arguments; sorted, .get, [::-1] -/
namespace Q
open PySem PySem.Spec PyProof.Rows L2
section
variable {X : Cx} {c : Ctx} {fr : Bool} {e o a b : Expr} {es : List Expr} {pos p apos : Pos} {pa pb ba bb : Bool} {we wo wb : WE c.R} {wa : WA c.R} {j k n : Nat} {x : Str} {ps : List Str} {E : XK} {Xk : XW}
/-- the heap in which an object was made anew -/
theorem made_grow {F1 H1 : Hp} {a dx C : Addr} (S1 : Same F1 H1) (ha : H1 a = none) (hd : H1 dx = none) : F1 a = none ∧ Grow F1 H1 F1 (upd (upd H1 dx (.own a)) a (.ins C dx [])) := by
  have hs2 : Same H1 (upd (upd H1 dx (.own a)) a (.ins C dx [])) := fun b o q => by
    rw [upd_ne (fun z => by rw [z, ha] at q; cases q), upd_ne (fun z => by rw [z, hd] at q; cases q)]
    exact q
  refine ⟨?_, Same.refl _, S1.trans hs2, hs2, fun b h => .inl h, fun t => (t.updH (fun _ z => by cases z)).updH (fun _ z => by cases z)⟩
  cases q : F1 a with
  | none => rfl
  | some o => rw [S1 _ _ q] at ha; cases ha
/-- C(..), its errors leave the def -/
theorem de_makeX {C : Addr} {m : WMX} (M : CalK X.prog X.w X.K X.mg X.base x C k ps m) (hx : Passes (L2.CX X.prog X.w) X E) (fit : XFit c E Xk) (hr : Room j X.A) (ha : DA X c pa (e :: es) wa) (hj : k + 1 ≤ j := by decide) (hk : X.K = c.K := by rfl) (hg : Gl X x := by rfl) (hdb : (x == ("__debug__" : Str)) = false := by decide)
    (he : starEach (e :: es) X.env = (false, eval e X.env) :: starEach es X.env := by rfl) (hpl : (backTo pos (starEach es X.env)).any (·.1) = false := by rfl) : DE X c false false (.Call (.Name x p) (e :: es) [] pos) (wCallX Xk m wa) := by
  obtain ⟨f, fd, mk, G, hb⟩ := M.ex
  refine ⟨(pe_make mk G (hr.mono hj) hg M.at_ hb .nil hx ha.pa hdb he hpl).imp fun σ H Q ⟨ρ, F, O, Kk, S, hw, k1⟩ => ⟨ρ, F, O, _, S, hw, fun ds ρ1 vs F1 H1 hm S1 fs1 ko1 g1 r1 a dx ha hd nd => ?_⟩, hk⟩
  obtain ⟨na, gr0⟩ := made_grow (C := C) S1.sub ha hd
  rw [app_nil]
  refine ⟨a, dx, vs, ds, F1, _, Xk, rfl, upd_same, na, ⟨gr0.sub, gr0.tn S1.tin⟩, by rw [hk]; exact r1, hm, fun ns xs fs F' H' hk' gr nx en rf => ⟨rfl, ?_⟩, fun C' ns xs F' H' d hX gr xd => ?_⟩
  · have gr1 := gr0.trans gr
    have at_ : H' a = some (.ins C dx []) := gr.hs _ _ upd_same
    have g2 : Grow F1 H1 (upd F' a (.ins C dx fs)) (upd H' a (.ins C dx fs)) :=
      ⟨fun b o q => by rw [upd_ne (fun z => by rw [z, na] at q; cases q)]; exact gr1.fs _ _ q, Same.upd2 gr1.sub, fun b o q => by rw [upd_ne (fun z => by rw [z, ha] at q; cases q)]; exact gr1.hs _ _ q, fun b n => by
        by_cases z : b = a
        · rw [z]; exact .inr ha
        · rw [upd_ne z] at n; exact gr1.old b n, fun t => (gr1.tn t).upd2⟩
    have fs2 : Same F' (upd F' a (.ins C dx fs)) := fun b o q => by rw [upd_ne (fun z => by rw [z, nx] at q; cases q)]; exact q
    rw [hk] at rf
    exact k1 _ ρ1 _ _ _ hk' (S1.grow g2) (fs1.trans g2.fs) (fun q hq => by rw [g2.at (S1.out q hq).2.2, ko1 q hq]) (fun z => by cases z) (.ins upd_same en (rf.same fs2))
  · have gr1 := gr0.trans gr
    rw [hk] at xd
    obtain ⟨x0, x1, x2⟩ := xd
    have h1 : H1 d = none := gr0.hs.free x1
    exact fit C' ns xs ρ1.g F' H' d hX (S1.grow gr1).fin ⟨x0, S1.dead h1, x2⟩
/-- a method that may let errors out -/
structure CalMX (P : Program) (w : World) (K : PySem.W.Frag) (mg : Str → Option Value) (base : Heap) (C : Addr) (x : Str) (k : Nat) (ps : List Str) (sp : Sp) : Prop where
  there : ∃ (g : Addr) (gd : FuncData), Meth K C x g ∧ FnOk P w K mg base (L2.CX P w) k g gd ps sp ∧ Binds K gd ps []
  cls : Cls K C
def wMethA {R : Rgn} (C : Addr) (f : Str) (m : WM) (we : WE R) (wa : WA R) : WE R := fun ρ K => we ρ fun d ρ1 => (∃ ns xs, d = .ins C ns xs ∧ f ∉ ns) ∧ wa ρ1 fun ds ρ2 => m (d :: ds) fun z => K z ρ2
def wMethX {R : Rgn} (C : Addr) (f : Str) (m : WMX) (we : WE R) (wa : WA R) : WEX R := fun ρ K Xk => we ρ fun d ρ1 => (∃ ns xs, d = .ins C ns xs ∧ f ∉ ns) ∧ wa ρ1 fun ds ρ2 => m (d :: ds) (fun z => K z ρ2) fun C' ns xs => Xk C' ns xs ρ2
theorem ins_at {F H : Hp} {v : V} {C : Addr} {f : Str} {d : D} (r : Rep c.K F v d) (S : Same F H) (h : ∃ ns xs, d = .ins C ns xs ∧ f ∉ ns) : ∃ a dx fs, v = .ref a ∧ H a = some (.ins C dx fs) ∧ fs.lookup f = none := by
  obtain ⟨ns, xs, rfl, nf⟩ := h
  obtain ⟨a, dx, fs, e1, at_, en, _⟩ := (BV.rep r : BV c.K F H v _).ins S
  subst en
  exact ⟨a, dx, fs, e1, at_, lookup_no nf⟩
theorem fe_methA {C : Addr} {m : WM} {pl : Sem Bool} (M : CalM X.prog X.w X.K X.mg X.base C x k ps (spF c.K m)) (hr : Room j X.A) (ho : DE X c pa false o wo) (ha : DA X c pb (e :: es) wa) (hj : k ≤ j := by decide)
    (hst : starEach (e :: es) X.env = (false, eval e X.env) :: starEach es X.env := by rfl) (hpl : (backTo pos (starEach es X.env)).any (·.1) = false := by rfl)
    (ht : eval (.Call (.Attribute o x apos) (e :: es) [] pos) X.env = (do
      let ov ← eval o X.env
      standAt apos.atName
      let (f, first) ← holding [ov] (getMethod ov x pl)
      callWith pos f first (backTo pos (starEach (e :: es) X.env)) (backToKw pos (keywordEach [] X.env))) := by rfl) : FE X c (pa && pb) (.Call (.Attribute o x apos) (e :: es) [] pos) (wMethA C x m wo wa) := by
  obtain ⟨g, gd, isM, G, hb⟩ := M.there
  refine ⟨(pe_meth ho.pe M.cls isM G (hr.mono hj) hb .nil pass0 ha.pa hst hpl ht).imp fun σ H Q ⟨ρ, F, O, Kk, S, w, kk⟩ => ⟨ρ, F, O, _, S, w, fun d ρ1 v F1 H1 ⟨hi, wa1⟩ S1 fs1 ko1 g1 r1 => ?_⟩, ho.kk⟩
  have r1' : Rep c.K F1 v d := r1
  obtain ⟨z, dx, fs, rfl, at_, nf⟩ := ins_at r1' S1.sub hi
  refine ⟨z, dx, fs, rfl, at_, nf, ρ1, F1, O, _, S1, wa1, fun ds ρ2 vs F2 H2 hm S2 fs2 ko2 g2 r2 => ?_⟩
  refine ⟨d :: ds, F2, _, S2.sbt, .cons (r1'.same fs2) (by rw [app_nil]; exact r2), hm, fun y q ob F' H' hd gr hq od => kk y ρ2 q ob F' H' hd (S2.grow gr) (fs1.trans (fs2.trans gr.fs)) (fun b hb => by rw [gr.at (S2.out b hb).2.2, ko2 b hb, ko1 b hb]) (fun t => ?_) hq od⟩
  rw [Bool.and_eq_true] at t
  obtain ⟨e1, q1⟩ := g1 t.1
  obtain ⟨e2, q2⟩ := g2 t.2
  exact ⟨e2.trans e1, q1.trans (q2.trans gr)⟩
theorem dx_meth {C : Addr} {m : WMX} {pl : Sem Bool} (M : CalMX X.prog X.w X.K X.mg X.base C x k ps (spX c.K m)) (hx : Passes (L2.CX X.prog X.w) X E) (hr : Room j X.A) (ho : DE X c pa false o wo) (ha : DA X c pb (e :: es) wa) (hj : k ≤ j := by decide)
    (hst : starEach (e :: es) X.env = (false, eval e X.env) :: starEach es X.env := by rfl) (hpl : (backTo pos (starEach es X.env)).any (·.1) = false := by rfl)
    (ht : eval (.Call (.Attribute o x apos) (e :: es) [] pos) X.env = (do
      let ov ← eval o X.env
      standAt apos.atName
      let (f, first) ← holding [ov] (getMethod ov x pl)
      callWith pos f first (backTo pos (starEach (e :: es) X.env)) (backToKw pos (keywordEach [] X.env))) := by rfl) : DX X c (.Call (.Attribute o x apos) (e :: es) [] pos) (wMethX C x m wo wa) E := by
  obtain ⟨g, gd, isM, G, hb⟩ := M.there
  refine ⟨(pe_meth ho.pe M.cls isM G (hr.mono hj) hb .nil hx ha.pa hst hpl ht).imp fun σ H Q ⟨ρ, F, O, Kk, Xk, S, w, k1, k2⟩ => ⟨ρ, F, O, _, S, w, fun d ρ1 v F1 H1 ⟨hi, wa1⟩ S1 fs1 ko1 g1 r1 => ?_⟩, ho.kk⟩
  have r1' : Rep c.K F1 v d := r1
  obtain ⟨z, dx, fs, rfl, at_, nf⟩ := ins_at r1' S1.sub hi
  refine ⟨z, dx, fs, rfl, at_, nf, ρ1, F1, O, _, S1, wa1, fun ds ρ2 vs F2 H2 hm S2 fs2 ko2 g2 r2 => ?_⟩
  refine ⟨d :: ds, F2, _, _, S2.sbt, .cons (r1'.same fs2) (by rw [app_nil]; exact r2), hm, fun y u F' H' hd gr rp => k1 y ρ2 u F' H' hd (S2.grow gr) (fs1.trans (fs2.trans gr.fs)) (fun b hb => by rw [gr.at (S2.out b hb).2.2, ko2 b hb, ko1 b hb]) rp, fun C' ns xs F' H' dx hX gr xd => k2 C' ns xs ρ2 F' H' dx hX (S2.grow gr) (fs1.trans (fs2.trans gr.fs)) (fun b hb => by rw [gr.at (S2.out b hb).2.2, ko2 b hb, ko1 b hb]) xd.l⟩
/-- x op y by an own method of the class of both -/
def rOwnB (C : Addr) (sp : Sp) (E : XK) : R2 := fun x y H Q => ∃ a dx fs b dy gs, x = .ref a ∧ H a = some (.ins C dx fs) ∧ y = .ref b ∧ H b = some (.ins C dy gs) ∧ sp [x, y] H Q E
theorem op_ownB {op : Operator} {C g : Addr} {sp : Sp} (hC : Cls X.K C) (hc : PySem.W.selfFirst X.K C = true) (hs : PySem.W.findIn X.K (.ref C) (PySem.dunder op.info.2) = some (some (.ref g))) (hf : PySem.W.isFn X.K (.ref g) = true)
    {gd : FuncData} (F : FnOk X.prog X.w X.K X.mg X.base (L2.CX X.prog X.w) n g gd ps sp) (hb : Binds X.K gd ps []) (hr : Room n X.A) (hx : Passes (L2.CX X.prog X.w) X E) : OpR X (binaryOp op) (rOwnB C sp E) := by
  intro pn s σ H x y v u Q I rX rY h
  obtain ⟨a, dx, fs, b, dy, gs, rfl, ha, rfl, hb', q⟩ := h
  have rX' := rX
  have rY' := rY
  cases (show v = .ref a from rX)
  cases (show u = .ref b from rY)
  obtain ⟨attrs, J1, _⟩ := ins_get I.hok ha
  obtain ⟨od, J1, _⟩ := J1.look
  obtain ⟨attrs2, J2, _⟩ := ins_get I.hok hb'
  obtain ⟨od2, J2, _⟩ := J2.look
  obtain ⟨m, hF⟩ := I.fr
  have FR : L2.FnR X.prog X.w X.K X.mg X.base (L2.CX X.prog X.w) n g sp := (FnOk.raw F hb .nil).imp fun vs H Q E h => by rw [List.append_nil]; exact h
  refine PySem.W.binop_K (op := op) hF I.ok.mod.kin J1 (J2.type) hc hs hf ?_
  refine wpAny_mono (wpAny_call (run_fnR (us := [.ref a, .ref b]) FR hr hx I (.cons rX' (.cons rY' .nil)) q)) (fun w s' z => ?_) fun _ _ x => x
  obtain ⟨z', H', I', rZ, qz⟩ := z
  exact SlX.cmpback rZ ⟨_, H', I', rZ, qz⟩
/-- a class's own operator -/
structure OwnOp (X : Cx) (C : Addr) (op : Operator) (n : Nat) (m : WMX) : Prop where
  cls : Cls X.K C
  sf : PySem.W.selfFirst X.K C = true
  ex : ∃ (g : Addr) (gd : FuncData) (ps : List Str), PySem.W.findIn X.K (.ref C) (PySem.dunder op.info.2) = some (some (.ref g)) ∧ PySem.W.isFn X.K (.ref g) = true ∧ FnOk X.prog X.w X.K X.mg X.base (L2.CX X.prog X.w) n g gd ps (spX X.K m) ∧ Binds X.K gd ps []
def wOwnB {R : Rgn} (C : Addr) (m : WMX) (wo wb : WE R) : WEX R := fun ρ K Xk => wo ρ fun d ρ1 => wb ρ1 fun d' ρ2 => (∃ ns xs, d = .ins C ns xs) ∧ (∃ ns xs, d' = .ins C ns xs) ∧ m [d, d'] (fun z => K z ρ2) fun C' ns xs => Xk C' ns xs ρ2
theorem dx_op {op : Operator} {C : Addr} {m : WMX} (M : OwnOp X C op n m) (hx : Passes (L2.CX X.prog X.w) X E) (hr : Room j X.A) (ha : DE X c pa false a wo) (hb : DE X c pb false b wb) (hj : n ≤ j := by decide) : DX X c (.BinOp a op b pos) (wOwnB C m wo wb) E := by
  obtain ⟨g, gd, ps, h1, h2, G, hB⟩ := M.ex
  refine ⟨(pe_op (op_ownB M.cls M.sf h1 h2 G hB (hr.mono hj) hx) ha.pe hb.pe).imp fun σ H Q ⟨ρ, F, O, Kk, Xk, S, w, k1, k2⟩ => ⟨ρ, F, O, _, S, w, fun d ρ1 v F1 H1 wb1 S1 fs1 ko1 g1 r1 => ⟨ρ1, F1, O, _, S1, wb1, fun d' ρ2 u F2 H2 ⟨i1, i2, hm⟩ S2 fs2 ko2 g2 r2 => ?_⟩⟩, ha.kk⟩
  have r1' : Rep c.K F1 v d := r1
  have r2' : Rep c.K F2 u d' := r2
  obtain ⟨ns, xs, rfl⟩ := i1
  obtain ⟨ns', xs', rfl⟩ := i2
  obtain ⟨z, dx, fs, rfl, at_, _⟩ := (BV.rep (r1'.same fs2) : BV c.K F2 H2 v _).ins S2.sub
  obtain ⟨z', dx', fs', rfl, at', _⟩ := (BV.rep r2' : BV c.K F2 H2 u _).ins S2.sub
  refine ⟨z, dx, fs, z', dx', fs', rfl, at_, rfl, at', [_, _], F2, _, _, S2.sbt, by rw [ha.kk]; exact .cons (r1'.same fs2) (.cons r2' .nil), hm, fun y u F' H' hd gr rp => ?_, fun C' ns xs F' H' dx hX gr xd => ?_⟩
  · rw [ha.kk] at rp
    exact k1 y ρ2 u F' H' hd (S2.grow gr) (fs1.trans (fs2.trans gr.fs)) (fun b hb => by rw [gr.at (S2.out b hb).2.2, ko2 b hb, ko1 b hb]) rp
  · rw [ha.kk] at xd
    exact k2 C' ns xs ρ2 F' H' dx hX (S2.grow gr) (fs1.trans (fs2.trans gr.fs)) (fun b hb => by rw [gr.at (S2.out b hb).2.2, ko2 b hb, ko1 b hb]) xd.l
end
end Q

set_option Elab.async false
set_option linter.all false
set_option maxRecDepth 100000
set_option maxHeartbeats 4000000
/-! try: return (tag, ask()) / except C as e: return (tag, e.f, ..); sorted, .get, [::-1] over data -/
namespace Q
open PySem PySem.Spec PyProof.Rows L2 LamX
def TTold (K : PySem.W.Frag) (n : Nat) (l : List (Value × Nat × Suite)) (tag : Str) : (XK → Hp → VK → Prop) → Hp → VK → Prop := fun tl H Q =>
  tl (fun cls d H' => ∀ τ : L2.St, τ.length = n → wNamed K (fun _ _ _ _ => False) { nx := fun _ H' => Q .non H', rt := Q } l cls d τ H') H fun v H' => ∀ p, H' p = none → Q (.ref p) (upd H' p (.tup [.str tag, v]))
theorem told_gives {X : Cx} {Ng : List Str} {x a q tag : Str} {sg : Scope} {g : Addr} {cdg : Value} {h0 : ExceptHandler} {more : List ExceptHandler} {l : List (Value × Nat × Suite)} {j : Nat} {p1 p2 p3 p4 p5 p6 : Pos} {tk : Nat} {cx : Nat} (nd : Ng.Nodup)
    (clauses : ∀ (s : Shared) (H : Hp), Clauses (cxOf C8.CX0 X.prog X.w X.K X.mg X.base Ng x sg g cdg X.A X.stack s H C8.E0).nox (h0 :: more) l) (s0 : ∀ f : Addr, (L2.start Ng [V.ref f])[0]? = some (some (V.ref f))) :
    GivesTo X Ng x sg g cdg [.Try [.Return (some (.Tuple [.Constant (.str tag) j p5, .Call (.Name a p1) [] [] p2] cx p6)) p3] (h0 :: more) [] [] p4] a q (TTold X.K Ng.length l tag) := by
  intro f c' s H Q tl act hc wish
  refine ⟨_, pss_one (ps_try_named (X := (cxOf C8.CX0 X.prog X.w X.K X.mg X.base Ng x sg g cdg X.A X.stack s H C8.E0).nox) (l := l)
      (tb := fun W D σ H => ∃ Ech : XK, (∀ cls d τ H', τ.length = Ng.length → Ech cls d H' → W cls d τ H') ∧ σ[0]? = some (some (.ref f)) ∧ H c' = some (CodeO c' q) ∧ tl Ech H (fun v H' => ∀ p, H' p = none → D.rt (.ref p) (upd H' p (.tup [.str tag, v]))))
      rfl rfl nd L2.takes0 (fun W pn xe tk _ => ?_) (clauses s H)), ?_⟩
  · refine ⟨fun pins s' σ H' D I ⟨Ech, hW, h1, h2, h3⟩ => ?_⟩
    have called := act (fun cls d τ H' => τ.length = Ng.length → W cls d τ H') pn xe Ech p1 p2 (takes_len tk) fun cls d τ H' e n => hW cls d τ H' n e
    refine (pss_one (ps_ret (pos := p3) (pe_tup (pa_cons pe_str (pa_cons called pa_nil))))).run pins s' σ H' D I ?_
    refine ⟨h1, h2, ?_⟩
    have e : (fun (v : V) (H2 : Hp) => (fun vs H3 => (fun xs H1 => xs.length ≤ sizeLine ∧ ∀ p, H1 p = none → D.rt (.ref p) (upd H1 p (.tup xs))) (V.str tag :: vs) H3) [v] H2) = fun v H2 => ([V.str tag, v].length ≤ sizeLine ∧ ∀ p, H2 p = none → D.rt (.ref p) (upd H2 p (.tup [.str tag, v]))) := rfl
    have sz : ([V.str tag, V.non].length ≤ sizeLine) := Nat.le_trans (by decide : 2 ≤ 100000) big_line
    have two : (fun (v : V) (H2 : Hp) => ([V.str tag, v].length ≤ sizeLine ∧ ∀ p, H2 p = none → D.rt (.ref p) (upd H2 p (.tup [.str tag, v])))) = fun v H2 => ∀ p, H2 p = none → D.rt (.ref p) (upd H2 p (.tup [.str tag, v])) := by
      funext v H2
      exact propext ⟨fun h => h.2, fun h => ⟨sz, h⟩⟩
    show tl Ech H' fun v H2 => ([V.str tag, v].length ≤ sizeLine ∧ ∀ p, H2 p = none → D.rt (.ref p) (upd H2 p (.tup [.str tag, v])))
    rw [two]
    exact h3
  · exact ⟨_, fun cls d τ H' n e => e τ n, s0 f, hc, wish⟩
/-- tried(lambda: e): what is told, or a clause's row -/
def wTold {R : Rgn} (cs : List Cl) (tag : Str) (w : WEX R) : WE R := fun ρ K => w ρ (fun d ρ' => K (.tup [.str tag, d]) ρ') (wClauses K cs)
section
variable {X : Cx} {c : Ctx}
theorem de_told {T : List (Addr × Str)} {cs : List Cl} {n k : Nat} {x a tag : Str} {g co P : Addr} {st : Stmt} {gd : FuncData} {Ng : List Str} {params : Arguments} {body : Expr} {scope : Scope} {w : WEX c.R} {p lpos pos p1 p2 p3 p4 p5 p6 : Pos} {h0 : ExceptHandler} {more : List ExceptHandler} {j : Nat} {cx : Nat}
    (hm : X.mg x = some (.ref g)) (fg : FnP X.K x x st g gd) (hb : L2.Binds X.K gd [a] []) (Sg : FnScope Ng [a] (defScope st)) (hNg : Ng[0]? = some a) (hva : Vis (defScope st) a) (hbd : defBody st = [.Try [.Return (some (.Tuple [.Constant (.str tag) j p5, .Call (.Name a p1) [] [] p2] cx p6)) p3] (h0 :: more) [] [] p4])
    (clauses : ∀ (cdg : Value) (s : Shared) (H : Hp), Clauses (cxOf C8.CX0 X.prog X.w X.K X.mg X.base Ng x (defScope st) g cdg X.A X.stack s H C8.E0).nox (h0 :: more) (cs.map Cl.told)) (s0 : ∀ f : Addr, (L2.start Ng [V.ref f])[0]? = some (some (V.ref f)))
    (slots : ∀ k ∈ cs, k.i < Ng.length) (kinds : ∀ k ∈ cs, ∀ k' ∈ cs, PySem.W.exmOne c.K (.ref k.C) (.ref k'.C) = some (decide (k.C = k'.C)))
    (TB : LamX.TabB X.base X.mg co P) (code : X.env.code = .ref co) (mem : (P, X.env.qual ++ "<lambda>") ∈ T) (uni : ∀ p ∈ T, p.1 = P → p.2 = X.env.qual ++ "<lambda>") (LR : LamR c.R T)
    (hr : Room (k + 2) X.A) (L : LamX.LamS X.env.scope scope) (nodef : defaultsOf params X.env = ([], [])) (hbind : ∀ (q : Str) (cl : List (Str × Addr)) (pm cv ctv : Value), bindArgs (PySem.W.kla_fn "<lambda>" q params body scope cl pm cv ctv) ⟨[], []⟩ = pure [])
    (hbody : ∀ (A : Around) (outer : List Env) (s : Shared) (H : Hp) (E : XK) (f c' : Addr), Room k (A.deeper (LamX.lamEnv X scope s.heap.objs.size f c')) → DX (LamX.lamCx X A outer s H E scope f c') c body w E) (hk : X.K = c.K := by rfl)
    (hg : Gl X x := by rfl) (hdb : (x == ("__debug__" : Str)) = false := by decide) (hd : (a == ("__debug__" : Str)) = false := by decide) (hcd : (a == ("__classdict__" : Str)) = false := by decide) :
    DE X c false false (.Call (.Name x p) [.Lambda params body scope lpos] [] pos) (wTold cs tag w) := by
  refine ⟨(pe_lam1 (T := T) (t := fun E => liftX c w E) hm fg hb Sg hNg hva (fun cdg => by rw [hbd]; exact told_gives (tk := 0) Sg.nd (clauses cdg) s0) TB code mem uni hr L nodef hbind (fun A outer s H E f c' room => (hbody A outer s H E f c' room).pe) hg hdb hd hcd).imp fun σ H Q ⟨ρ, F, O, Kk, S, hw, next⟩ => ?_, hk⟩
  obtain ⟨Z, r, _⟩ := S.reg
  refine ⟨(LR.tabs r).1, fun H1 step => ?_⟩
  obtain ⟨S1, ko1⟩ := S.lam LR step
  refine ⟨ρ, F, O, _, _, S1, hw, fun d ρ' v F' H' hk' S' fs ko rp q hq => ?_, fun C ns xs ρ' F' H' dx hX S' fs ko xd τ len => ?_⟩
  · have gr := (Al.one (F := F') (o := HO.tup [V.str tag, v]) hq).grow S'.sub
    exact next _ ρ' _ _ _ hk' (S'.grow gr) (fs.trans gr.fs) (fun b hb => by rw [gr.at (S'.out b hb).2.2, ko b hb, ko1 b hb]) (fun z => by cases z) (.tup upd_same (.cons (.str _) (.cons (rp.same gr.fs) .nil)))
  · obtain ⟨k0, m0, e0⟩ := in_clauses hX
    rw [hk]
    exact clauses_run S' xd (fun d v F2 H2 hk2 S2 fs2 ko2 rp => next d ρ' v F2 H2 hk2 S2 (fs.trans fs2) (fun q hq => by rw [ko2 q hq, ko q hq, ko1 q hq]) (fun z => by cases z) rp) rfl cs slots (fun k' m => by rw [e0]; exact kinds k0 m0 k' m) hX τ len
end
section
variable {X : Cx} {c : Ctx} {fr : Bool} {e o a b : Expr} {es : List Expr} {pos p apos : Pos} {pa pb pd ba bb bd : Bool} {we wo wb wk wd : WE c.R} {wa : WA c.R} {j k n : Nat} {x : Str}
/-- sorted(e), e a list -/
def wSortL {R : Rgn} (we : WE R) : WE R := fun ρ K => we ρ fun x ρ1 => ∃ ds : List D, x = .lst ds ∧ (∀ d ∈ ds, pyD d = some (pk d)) ∧ (∀ d ∈ ds, (pk d).depth ≤ 40) ∧ PySem.W.AllAlike (ds.map pk) ∧ PySem.W.Sortable (ds.map pk) ∧ K (.lst (sortD id ds)) ρ1
theorem fe_sort (hm : X.mg "sorted" = none) (hr : Room j X.A) (he : DE X c pa ba e we) (hg : Gl X "sorted" := by rfl) (h1 : starEach [e] X.env = (false, eval e X.env) :: starEach [] X.env := by rfl) (hpl : (backTo pos (starEach [] X.env)).any (·.1) = false := by rfl) :
    FE X c pa (.Call (.Name "sorted" p) [e] [] pos) (wSortL we) :=
  ⟨(pe_callB (cr_sortedAny (by have := hr.units; have := hr.un; omega)) hg hm (by decide +kernel) (pa_cons he.pe pa_nil h1) (by decide) (by decide) h1 hpl).imp fun σ H Q ⟨ρ, F, O, Kk, S, hw, next⟩ => by
    refine ⟨ρ, F, O, _, S, hw, fun y ρ1 v F1 H1 ⟨ds, hy, hk, hd, hal, hs, hK⟩ S1 fs1 ko1 g1 r1 => ?_⟩
    subst hy
    obtain ⟨l, vs, rfl, hl, rp⟩ := (r1.bv S1).lst S1.sub
    obtain ⟨bs, b1, b2, b3⟩ := sort_both id rp
    rw [List.map_id] at b2
    show rSortAny X.K [.ref l] H1 Q
    refine ⟨l, bs, rfl, SqL.of (by rw [b1]; exact hl), ?_, by rw [b2]; exact hal, by rw [b2]; exact hs, fun z hz => ?_, fun q hq => ?_⟩
    · rw [b1, b2, he.kk]
      exact rp.dp S1.sub (pyDs_pk hk)
    · have : z.2 ∈ ds.map pk := by rw [← b2]; exact List.mem_map.mpr ⟨z, hz, rfl⟩
      obtain ⟨d, hd', e⟩ := List.mem_map.mp this
      rw [← e]
      exact hd d hd'
    · exact next _ ρ1 q _ F1 H1 hK S1 fs1 ko1 g1 hq b3, he.kk⟩
/-- x.get(k, z), x a dict with plain keys -/
def wDgetOr {R : Rgn} (we wk wd : WE R) : WE R := fun ρ K => we ρ fun d ρ1 => ∃ (ks : List Key) (vs : List D), d = .dct (ks.map kD) vs ∧ wk ρ1 fun kd ρ2 => wd ρ2 fun z ρ3 => ∃ k : Key, kd = kD k ∧ K ((valD ks vs k).getD z) ρ3
theorem valD_getD {K : PySem.W.Frag} {F : Hp} (k : Key) {u : V} {z : D} (rz : Rep K F u z) : ∀ {kvs : List (Key × V)} {ds : List D}, Reps K F (kvs.map (·.2)) ds → Rep K F ((valV kvs k).getD u) ((valD (kvs.map (·.1)) ds k).getD z)
  | [], _, _ => by simpa [valV, valD] using rz
  | kv :: kvs, _, .cons r t => by
    by_cases h : kv.1 = k
    · simpa [valV, valD, h] using r
    · have := valD_getD k rz t
      simpa [valV, valD, h] using this
theorem de_dgetOr (hr : Room j X.A) (ho : DE X c true bb o we) (hk : DE X c pa false a wk) (hd : DE X c pb false b wd) (hpa : pa = true := by rfl) (hpb : pb = true := by rfl)
    (m : M2 X o "get" apos a b pos := by exact ⟨rfl, rfl, rfl, rfl⟩) : DE X c true false (.Call (.Attribute o "get" apos) [a, b] [] pos) (wDgetOr we wk wd) := by
  subst hpa hpb
  refine ⟨(pe_dget2 (hu_of hr) ho.pe hk.pe hd.pe m).imp fun σ H Q ⟨ρ, F, O, Kk, S, hw, next⟩ => ?_, ho.kk⟩
  refine ⟨ρ, F, O, _, S, hw, fun d ρ1 v F1 H1 ⟨ks, vs, ed, wk1⟩ S1 fs1 ko1 g1 r1 => ?_⟩
  subst ed
  obtain ⟨q, kvs, rfl, h1, hks, rv⟩ := (r1.bv S1).dct S1.sub
  refine ⟨q, rfl, .inl ⟨kvs, h1⟩, ρ1, F1, O, _, S1, wk1, fun kd ρ2 u F2 H2 wd1 S2 fs2 ko2 g2 r2 => ⟨ρ2, F2, O, _, S2, wd1, fun z ρ3 y F3 H3 ⟨kk, ek, hK⟩ S3 fs3 ko3 g3 r3 => ?_⟩⟩
  obtain ⟨e2, q2⟩ := g2 rfl
  obtain ⟨e3, q3⟩ := g3 rfl
  have h3 : Rd H3 q (.dK kvs) := h1.imp (fun h => q3.hs _ _ (q2.hs _ _ h)) fun ⟨o, h⟩ => ⟨o, q3.hs _ _ (q2.hs _ _ h)⟩
  subst ek
  have hks : ks = kvs.map (·.1) := kD_map (by rw [hks, List.map_map]; rfl)
  subst hks
  have r2' : u = kV kk := Rep.key r2
  subst r2'
  refine ⟨_, .inl ⟨kvs, kk, h3, rfl, rfl⟩, ?_⟩
  refine next _ ρ3 _ F3 H3 hK S3 (fs1.trans (fs2.trans fs3)) (fun b hb => by rw [ko3 b hb, ko2 b hb, ko1 b hb]) (fun _ => ?_) ?_
  · obtain ⟨e1, q1⟩ := g1 rfl
    exact ⟨by rw [e3, e2, e1], q1.trans (q2.trans q3)⟩
  · exact valD_getD kk r3 ((rv.same fs2).same fs3)
/-- e[::-1], e a list -/
def revD : D → Option D
  | .lst ds => some (.lst ds.reverse)
  | _ => none
theorem fe_rev {kk : Nat} {p1 p2 p3 : Pos} (he : DE X c pa ba e we) : FE X c pa (.Subscript e (.Slice none none (some (.UnaryOp .USub (.Constant (.int 1) kk p1) p2)) p3) pos) (wUn revD we) :=
  ⟨(pe_revL he.pe).imp fun σ H Q ⟨ρ, F, O, Kk, S, hw, next⟩ => by
    refine ⟨ρ, F, O, _, S, hw, fun y ρ1 v F1 H1 ⟨z, hz, hK⟩ S1 fs1 ko1 g1 r1 => ?_⟩
    cases y <;> simp [revD] at hz
    subst hz
    obtain ⟨l, vs, rfl, hl, rp⟩ := (r1.bv S1).lst S1.sub
    exact ⟨l, vs, rfl, SqL.of hl, fun q hq => next _ ρ1 q _ F1 H1 hK S1 fs1 ko1 g1 hq rp.reverse⟩, he.kk⟩
/-- x, y = a, b: the second one an object of the def's own -/
def sPar2O {R : Rgn} (i k : Nat) (wa wb : WE R) : WS R := fun Dk ρ => wa ρ fun x ρ1 => wb ρ1 fun y ρ2 => Dk.nx ((ρ2.put i (some (.fz x))).put k (some (.own y)))
theorem ds_par2O {i k : Nat} {x y : Str} {px py pt : Pos} {kt k2 pt2} (hN : X.N.Nodup) (hij : i ≠ k) (ha : DE X c pa false a we) (hb : FE X c pb b wb) (hi : X.N[i]? = some x := by rfl) (hj : X.N[k]? = some y := by rfl)
    (hx : X.env.scope.names.lookup x = some .local := by rfl) (hy : X.env.scope.names.lookup y = some .local := by rfl) (hc : X.calm = true := by rfl)
    (hw : swappedStores [.Tuple [.Name x px, .Name y py] kt pt] (.Tuple [a, b] k2 pt2) X.env = pure (some [x, y]) := by rfl)
    (hs : swapsWithSole [.Tuple [.Name x px, .Name y py] kt pt] (.Tuple [a, b] k2 pt2) pos.line X.env = pure false := by rfl)
    (h1 : starEach [a, b] X.env = (false, eval a X.env) :: starEach [b] X.env := by rfl) (h2 : starEach [b] X.env = (false, eval b X.env) :: starEach [] X.env := by rfl) :
    DS1 X c fr (.Assign [.Tuple [.Name x px, .Name y py] kt pt] (.Tuple [a, b] k2 pt2) pos) (sPar2O i k we wb) :=
  ⟨(ps_par hc hN hi hj hij hx hy (pa_cons ha.pe (pa_cons hb.pe pa_nil h2) h1) hw hs).imp fun E σ H ⟨ρ, F, Dk, S, w, k1, k2, k3, k4⟩ => ⟨ρ, F, [], _, S, w, fun d ρ1 v F1 H1 hw2 S1 fs1 _ _ r1 => ⟨ρ1, F1, [], _, S1, hw2, fun d2 ρ2 q o F2 H2 hk S2 fs2 _ _ hq ob => by
    have r1' : Rep c.K F1 v d := r1
    exact ⟨_, _, rfl, k1 _ _ F2 _ hk ((S2.setF (r1'.same fs2) i).setO hq ob k) (fs1.trans fs2)⟩⟩⟩⟩
end
end Q

set_option Elab.async false
set_option linter.all false
set_option maxRecDepth 100000
set_option maxHeartbeats 4000000
namespace Q
open PySem PySem.Spec PyProof.Rows L2
/-- y = {k: v for ..} -/
theorem ps_setDcQ {X : Cx} {i : Nat} {y : Str} {py : Pos} {kx vx tg iter : Expr} {ifs : List Expr} {scope : Scope} {own : List (Str × Nat)} {pos spos : Pos} {wi : TI} {g : TG} {tt : TT} {tk tv : TE} (hc : X.calm = true) (hN : X.N.Nodup) (hy : X.N[i]? = some y)
    (hyl : X.env.scope.names.lookup y = some .local) (hsw : swapsWith (.DictComp kx vx [⟨tg, iter, ifs, 0⟩] scope pos) (some (.Name y py)) spos.line X.env = pure true) (hi : PI X tg iter wi) (ok : BlkOk X.N X.env.scope scope own)
    (hg : ∀ (s : Shared) (H : Hp) (C : Addr) (cl : List (Str × Addr)) (fp : List Addr), PG (X.blk s H scope (compEnvC scope cl C X.env) fp) tg g)
    (ht : ∀ (s : Shared) (H : Hp) (C : Addr) (cl : List (Str × Addr)) (fp : List Addr), PTs (X.blk s H scope (compEnvC scope cl C X.env) fp) ifs tt)
    (hkx : ∀ (s : Shared) (H : Hp) (C : Addr) (cl : List (Str × Addr)) (fp : List Addr), PE (X.blk s H scope (compEnvC scope cl C X.env) fp) kx tk)
    (hvx : ∀ (s : Shared) (H : Hp) (C : Addr) (cl : List (Str × Addr)) (fp : List Addr), PE (X.blk s H scope (compEnvC scope cl C X.env) fp) vx tv) (hs : ∀ x, foldedSetIterable iter X.env x = pure x := by intro _; rfl) :
    PS X (.Assign [.Name y py] (.DictComp kx vx [⟨tg, iter, ifs, 0⟩] scope pos) spos) (tAsg (tDc wi g tt tk tv (own.map (·.2))) (gName i)) := by
  constructor
  intro pins s σ H D I h
  rw [show _ = _ from exec_Assign_Name_used _ _ _ _ hsw]
  refine wpAny_bind <| wpAny_standAt <| wpAny_bind ?_
  show wpAny _ X.A (do let _ ← comprehension (.DictComp kx vx [⟨tg, iter, ifs, 0⟩] scope pos) scope X.env (firstIterPos [⟨tg, iter, ifs, 0⟩] pos) newDict false (eval iter X.env) (some (assign (.Name y py) X.env))) _ _ s
  have h2 : tDc wi g tt tk tv (own.map (·.2)) σ H (fun x H1 => gName i x σ H1 D.nx) := h
  refine wpAny_bind (thn (dc_core (Qf := fun _ s' => SP X pins D .next s') hc hN I hi ok hg ht hkx hvx hs h2 fun L C s' m H' I' q hn f => ?_) fun _ s' hq => wpAny_pure (wpAny_pure hq))
  show wpAny _ X.A (assign (.Name y py) X.env (.ref L)) _ X.xe _
  refine wpAny_assign_Name (store_ok2 (v := V.ref L) I' hN hy (.inl hyl) rfl (fun s2 I2 ⟨a, sb, ha⟩ => let ⟨f0, f1, f2, f3, f4, f5⟩ := f; ?_) (.inr hyl))
  have nC : C ≠ a := ha.elim (fun z => by rw [z]; exact f1) fun z e => f4 y a z e.symm
  exact ⟨m, hn.sameBut sb nC, fun h3 sb3 => ⟨_, H', I2.turned (t' := s2.toks) (fun b o hb e => (sb3.2 b hb).trans e) f0 f1 f3 f4 f5, q⟩⟩
theorem sw_trueE {kx vx : Expr} {gs : List Comprehension} {scope : Scope} {pos py : Pos} {y : Str} {l : Nat} {env : Env} (hk : env.scope.kind = .function) (hy : env.scope.names.lookup y = some .local) (hl : (py.line == pos.line) = true)
    (ha : (scope.names.any fun (n, k) => n == y && (k == .local || k == .cell)) = false) : swapsWith (.DictComp kx vx gs scope pos) (some (.Name y py)) l env = pure true := by
  have k1 : env.kindOf y = some .local := hy
  have k2 : env.blockKind = .function := by
    unfold Env.blockKind
    rw [hk]
    rfl
  unfold swapsWith
  simp only [k2, k1, ha, Expr.pos, hl]
  rfl
section
variable {X : Cx} {c : Ctx} {tg iter kx vx : Expr} {ifs : List Expr} {pos : Pos} {pa pb : Bool} {ts : List Nat} {wi : WI c.R} {g : WG c.R} {wt : WB c.R} {wk wv : WE c.R} {j : Nat}
theorem ps_dc {scope : Scope} {own : List (Str × Nat)} {spos py : Pos} {i : Nat} {y : Str} (hr : Room j X.A) (hN : X.N.Nodup) (hi : DI X c tg iter wi) (ok : BlkOk X.N X.env.scope scope own)
    (hg : ∀ (s : Shared) (H : Hp) (C : Addr) (cl : List (Str × Addr)) (fp : List Addr), DG (X.blk s H scope (compEnvC scope cl C X.env) fp) c tg ts g) (ht : ∀ (s : Shared) (H : Hp) (C : Addr) (cl : List (Str × Addr)) (fp : List Addr), DTs (X.blk s H scope (compEnvC scope cl C X.env) fp) c ifs wt)
    (he : ∀ (s : Shared) (H : Hp) (C : Addr) (cl : List (Str × Addr)) (fp : List Addr), DE (X.blk s H scope (compEnvC scope cl C X.env) fp) c pa false kx wk) (he2 : ∀ (s : Shared) (H : Hp) (C : Addr) (cl : List (Str × Addr)) (fp : List Addr), DE (X.blk s H scope (compEnvC scope cl C X.env) fp) c pb false vx wv)
    (hsw : swapsWith (.DictComp kx vx [⟨tg, iter, ifs, 0⟩] scope pos) (some (.Name y py)) spos.line X.env = pure true)
    (hy : X.N[i]? = some y := by rfl) (hyl : X.env.scope.names.lookup y = some .local := by rfl) (hv : ∀ i ∈ ts, i ∈ own.map (·.2) := by decide) (hk : X.K = c.K := by rfl) (hc : X.calm = true := by rfl)
    (hs : ∀ x, foldedSetIterable iter X.env x = pure x := by intro _; rfl) : PS X (.Assign [.Name y py] (.DictComp kx vx [⟨tg, iter, ifs, 0⟩] scope pos) spos) (tAsg (liftF c false (wDc wi g wt wk wv (own.map (·.2)))) (gName i)) :=
  (ps_setDcQ hc hN hy hyl hsw hi.pi ok (fun s H C cl fp => (hg s H C cl fp).pg) (fun s H C cl fp => (ht s H C cl fp).pts) (fun s H C cl fp => (he s H C cl fp).pe) (fun s H C cl fp => (he2 s H C cl fp).pe) hs).imp fun E σ H h => dc_ok h hv
end
end Q

set_option Elab.async false
set_option linter.all false
set_option maxRecDepth 100000
set_option maxHeartbeats 4000000
/-! three fresh lists, each appended to -/
namespace Q
open PySem PySem.Spec PyProof.Rows L2
theorem St.free {c : Ctx} {F H : Hp} {O : List Addr} {σ : L2.St} {ρ : DS c.R} (S : St c F O σ ρ H) : St c F [] σ ρ H :=
  ⟨S.len, S.sub, S.tin, S.old, S.new, S.keep, S.live, S.slots, fun i a h => ⟨(S.mine i a h).1, (S.mine i a h).2.1, by simp⟩, S.inj, (fun a h => by cases h), S.reg.imp fun Z ⟨r, z1, z2, _, z4⟩ => ⟨r, z1, z2, (fun a h => by cases h), z4⟩⟩
def isL (d : D) : Prop := ∃ ds, d = .lst ds ∧ ds.length < 100000
def sThree {R : Rgn} (k : Nat) (wa wb wc : WE R) : WS R := fun Dk ρ => wa ρ fun x ρ1 => wb ρ1 fun y ρ2 => wc ρ2 fun z ρ3 => isL x ∧ isL y ∧ isL z ∧ k < ρ3.sl.length ∧ ∀ v, Dk.nx (ρ3.put k (some (.fz (.raw v))))
section
variable {X : Cx} {c : Ctx} {fr : Bool} {a b e : Expr} {pa pb pc : Bool} {wa wb wc : WE c.R} {k : Nat} {x z : Str}
theorem isL_obj {K : PySem.W.Frag} {F : Hp} {a : Addr} {o : HO} {d : D} (h : ObjD K F a o d) (l : isL d) : ∃ us, o = .lst us ∧ us.length ≤ 100000 := by
  obtain ⟨ds, rfl, hl⟩ := l
  cases o <;> simp only [ObjD] at h
  exact ⟨_, rfl, by rw [h.length]; omega⟩
theorem ds_three {p1 tp pp qp cp ep pos1 pos : Pos} {ctx jj} (ha : FE X c pa a wa) (hb : FE X c pb b wb) (hd : FE X c pc e wc) (hN : X.N.Nodup) (hi : X.N[k]? = some x := by rfl) (hx : Loc X.env.scope x := by first | exact Or.inl rfl | exact Or.inr rfl)
    (hf : X.fn x = true ∨ X.env.scope.names.lookup x = some .local := by first | exact .inl rfl | exact .inr rfl | assumption) (hk : X.K = c.K := by rfl)
    (hv : Vis X.env.scope x := by first | exact .inl rfl | exact .inr (.inl rfl) | exact .inr (.inr rfl))
    (hdb : (x == ("__debug__" : Str)) = false := by decide) (hcd : (x == ("__classdict__" : Str)) = false := by decide)
    (h1 : starEach [a, b, e] X.env = (false, eval a X.env) :: starEach [b, e] X.env := by rfl) (h2 : starEach [b, e] X.env = (false, eval b X.env) :: starEach [e] X.env := by rfl) (h3 : starEach [e] X.env = (false, eval e X.env) :: starEach [] X.env := by rfl)
    (hbase : attributeBase (.Name x pp) "append" X.env (eval (.Name x pp) X.env) = eval (.Name x pp) X.env := by rfl)
    (hfew : ((backTo ep (starEach [.Constant (.str z) jj cp] X.env)).all (fun x => !x.1) && (backToKw ep (keywordEach [] X.env)).all (fun x => x.1.isSome) && decide (([.Constant (.str z) jj cp] : List Expr).length + ([] : List Keyword).length + (if ([] : List Keyword).isEmpty then 0 else 1) < 30)) = true := by rfl)
    (hline : (qp.endLine == ep.line) = true := by rfl) (hst : starEach [.Constant (.str z) jj cp] X.env = (false, eval (.Constant (.str z) jj cp) X.env) :: starEach [] X.env := by rfl) (hplain : (backTo ep (starEach [] X.env)).any (·.1) = false := by rfl)
    (hs : swapsWith (.Call (.Attribute (.Name x pp) "append" qp) [.Constant (.str z) jj cp] [] ep) none pos1.line X.env = pure false := by rfl)
    (hp : PassesOwn (model X.prog X.w) X.A X.env X.xe := by exact PassesOwn.never) (hc : X.calm = true := by rfl) (hsi : ∀ y, foldedSetIterable (.Tuple [a, b, e] ctx tp) X.env y = pure y := by intro _; rfl) :
    DS1 X c fr (.For (.Name x p1) (.Tuple [a, b, e] ctx tp) [.Expr (.Call (.Attribute (.Name x pp) "append" qp) [.Constant (.str z) jj cp] [] ep) pos1] [] pos) (sThree k wa wb wc) := by
  refine ⟨(ps_for hp hc (vi_walk.pi (pe_tup (pa_cons ha.pe (pa_cons hb.pe (pa_cons hd.pe pa_nil h3) h2) h1))) (dg_name (c := c) hN hi hx hf).pg
    (pss_one (ps_expr (pe_bm PySem.F.plainAttrs_list PySem.F.slot_list_append PySem.F.type_list_append mt_append (pe_var hi hv hdb hcd) (pa_cons pe_str pa_nil hst) hbase hfew hline hst hplain) hs)) hsi).imp fun E σ H ⟨ρ, F, Dk, S, w, k1, k2, k3, k4⟩ => ?_⟩
  refine ⟨ρ, F, [], _, S, w, fun dx ρ1 q1 o1 F1 H1 w1 S1 fs1 ko1 g1 n1 ob1 => ?_⟩
  refine ⟨ρ1, F1, [q1], _, S1.protect n1 ob1.noTup, w1, fun dy ρ2 q2 o2 F2 H2 w2 S2 fs2 ko2 g2 n2 ob2 => ?_⟩
  refine ⟨ρ2, F2, [q2, q1], _, S2.protect n2 ob2.noTup, w2, fun dz ρ3 q3 o3 F3 H3 ⟨lx, ly, lz, hkl, nx⟩ S3 fs3 ko3 g3 n3 ob3 => ?_⟩
  have N21 : q2 ≠ q1 := fun e => by
    have := ko2 q1 (by simp)
    rw [upd_same] at this
    rw [e, this] at n2
    cases n2
  have N31 : q3 ≠ q1 := fun e => by
    have h1 := ko3 q1 (by simp)
    have h2 := ko2 q1 (by simp)
    rw [upd_ne (fun z => N21 z.symm), h2, upd_same] at h1
    rw [e, h1] at n3
    cases n3
  have N32 : q3 ≠ q2 := fun e => by
    have h1 := ko3 q2 (by simp)
    rw [upd_same] at h1
    rw [e, h1] at n3
    cases n3
  obtain ⟨u1, rfl, l1⟩ := isL_obj ob1 lx
  obtain ⟨u2, rfl, l2⟩ := isL_obj ob2 ly
  obtain ⟨u3, rfl, l3⟩ := isL_obj ob3 lz
  have big : 100010 < sizeLine := by rw [sizeLine_eq]; decide
  show _ ∧ _
  refine ⟨by simp; omega, fun q hq => ?_⟩
  have S4 := S3.protect (o := .lst u3) n3
  let T : HO := .tup [.ref q1, .ref q2, .ref q3]
  let G : Hp := upd H3 q3 (.lst u3)
  have hq : G q = none := hq
  have al : Al F3 G (upd F3 q T) (upd G q T) := Al.one hq
  have gr := al.grow S4.sub
  have S5 : St c (upd F3 q T) [q3, q2, q1] σ ρ3 (upd G q T) := S4.grow gr
  have at3 : G q3 = some (.lst u3) := upd_same
  have at2 : G q2 = some (.lst u2) := by
    show upd H3 q3 _ q2 = _
    rw [upd_ne (fun z => N32 z.symm), ko3 q2 (by simp)]
    exact upd_same
  have at1 : G q1 = some (.lst u1) := by
    show upd H3 q3 _ q1 = _
    rw [upd_ne (fun z => N31 z.symm), ko3 q1 (by simp), upd_ne (fun z => N21 z.symm), ko2 q1 (by simp)]
    exact upd_same
  have there : ∀ p ∈ [q3, q2, q1], ∃ us, upd G q T p = some (.lst us) ∧ us.length ≤ 100000 + 0 := fun p hp => by
    have ne : ∀ {u : List V}, G p = some (.lst u) → upd G q T p = some (.lst u) := fun h => by rw [upd_ne (fun z => by rw [z, hq] at h; cases h)]; exact h
    simp only [List.mem_cons, List.not_mem_nil, or_false] at hp
    rcases hp with rfl | rfl | rfl
    · exact ⟨u3, ne at3, by omega⟩
    · exact ⟨u2, ne at2, by omega⟩
    · exact ⟨u1, ne at1, by omega⟩
  have hwk : Walks c.K (upd F3 q T) (Itt c.K q) [.raw (.ref q1), .raw (.ref q2), .raw (.ref q3)] := walks_tup (SqT.of upd_same) (.cons (.raw _) (.cons (.raw _) (.cons (.raw _) .nil)))
  have f05 : Same F (upd F3 q T) := fs1.trans (fs2.trans (fs3.trans gr.fs))
  refine .inr (.inl ⟨q, [.ref q1, .ref q2, .ref q3], rfl, SqT.of upd_same, ?_⟩)
  rw [hk]
  refine ⟨fun i m σ' H' => ∃ ρ' F', m = 3 - i ∧ i ≤ 3 ∧ St c F' [q3, q2, q1] σ' ρ' H' ∧ Same (upd F3 q T) F' ∧ ((ρ' = ρ3 ∧ i = 0) ∨ ∃ v, ρ' = ρ3.put k (some (.fz (.raw v)))) ∧ ∀ p ∈ [q3, q2, q1], ∃ us, H' p = some (.lst us) ∧ us.length ≤ 100000 + i,
    ⟨3, ρ3, _, rfl, Nat.zero_le _, S5, Same.refl _, .inl ⟨rfl, rfl⟩, there⟩, ?_⟩
  rintro i m σ' H' ⟨ρ', F', rfl, hi3, S', fs', hρ, th⟩
  by_cases hlt : i < 3
  · obtain ⟨hgo, hy⟩ := hwk.go F' H' i fs' S'.sbt hlt
    refine .inr ⟨hgo, fun σ2 H2 => ∃ ρ2 F2, St c F2 [q3, q2, q1] σ2 ρ2 H2 ∧ Same (upd F3 q T) F2 ∧ (∃ v, ρ2 = ρ3.put k (some (.fz (.raw v)))) ∧ ∀ p ∈ [q3, q2, q1], ∃ us, H2 p = some (.lst us) ∧ us.length ≤ 100000 + (i + 1), fun σ2 H2 ⟨ρ2, F2, S2, fs2, h2, h3⟩ => ⟨3 - (i + 1), by omega, ρ2, F2, rfl, hlt, S2, fs2, .inr h2, h3⟩, fun y H2 hyl => ?_⟩
    obtain ⟨d, F2, hd, al2, rp⟩ := hy y H2 hyl
    have hH : H2 = H' := hyl.1
    obtain ⟨p, hpm, rfl⟩ : ∃ p ∈ [q3, q2, q1], d = .raw (.ref p) := by
      have : d ∈ [D.raw (.ref q1), .raw (.ref q2), .raw (.ref q3)] := List.mem_of_getElem? hd
      simp only [List.mem_cons, List.not_mem_nil, or_false] at this
      rcases this with rfl | rfl | rfl
      · exact ⟨q1, by simp, rfl⟩
      · exact ⟨q2, by simp, rfl⟩
      · exact ⟨q3, by simp, rfl⟩
    have ey : y = .ref p := by cases rp; rfl
    have S2 := S'.grow (al2.grow S'.sub)
    have fs2 : Same (upd F3 q T) F2 := fs'.trans (al2.fs S'.sub)
    subst ey
    refine ⟨ρ', F2, [q3, q2, q1], _, .raw (.ref p), S2, .raw _, rfl, fun ρ4 σ4 (e4 : ρ'.put k (some (.fz (.raw (.ref p)))) = ρ4) S4' _ => ?_⟩
    subst e4
    have hl' : k < ρ'.sl.length := by
      rcases hρ with ⟨rfl, _⟩ | ⟨v, rfl⟩
      · exact hkl
      · show k < (ρ3.sl.set k _).length
        rw [List.length_set]
        exact hkl
    have hsl := S4'.slots k
    have e5 : (ρ'.put k (some (.fz (.raw (.ref p))))).sl[k]? = some (some (.fz (.raw (.ref p)))) := by
      show (ρ'.sl.set k _)[k]? = _
      rw [List.getElem?_set_self hl']
    rw [e5] at hsl
    obtain ⟨v, hv1, hv2⟩ := hsl
    have hv3 : v = .ref p := by cases hv2; rfl
    subst hv3
    obtain ⟨us, hus, hul⟩ := th p hpm
    rw [← hH] at hus
    refine ⟨.ref p, hv1, .inl ⟨rfl, us, SqL.of hus⟩, p, us, .str z, rfl, rfl, hus, by omega, ?_⟩
    refine ⟨_, F2, S4'.writeO hpm, fs2, ?_, fun p' hp' => ?_⟩
    · rcases hρ with ⟨rfl, _⟩ | ⟨v, rfl⟩
      · exact ⟨_, rfl⟩
      · exact ⟨_, put_put⟩
    · by_cases zz : p' = p
      · rw [zz, upd_same]
        exact ⟨_, rfl, by simp; omega⟩
      · rw [upd_ne zz, hH]
        obtain ⟨us', h1, h2⟩ := th p' hp'
        exact ⟨us', h1, by omega⟩
  · have e : i = 3 := by omega
    subst e
    refine .inl ⟨hwk.stop F' H' fs' S'.sub, ?_⟩
    rcases hρ with ⟨_, h⟩ | ⟨v, rfl⟩
    · cases h
    · exact k1 _ σ' F' H' (nx v) S'.free (f05.trans fs')
end
end Q

set_option Elab.async false
set_option linter.all false
set_option maxRecDepth 100000
set_option maxHeartbeats 4000000
/-! list(x.items()) -/
namespace Q
open PySem PySem.Spec PyProof.Rows L2
def rowsD (ks vs : List D) : List D := List.zipWith (fun k v => D.tup [k, v]) ks vs
def wItems {R : Rgn} (we : WE R) : WE R := fun ρ K => we ρ fun d ρ1 => ∃ ks vs, d = .dct ks vs ∧ K (.lst (rowsD ks vs)) ρ1
theorem rows_reps {K : PySem.W.Frag} {F F' H' : Hp} (fs : Same F F') : ∀ {ts : List Addr} {kvs : List (Key × V)} {ds : List D}, Paired (fun (t : Addr) (q : Key × V) => H' t = some (.tup [kV q.1, q.2])) ts kvs → (∀ t ∈ ts, F' t = H' t) → Reps K F (kvs.map (·.2)) ds →
    Reps K F' (ts.map V.ref) (rowsD (kvs.map fun p => kD p.1) ds)
  | _, _, _, .nil, _, .nil => .nil
  | _, _, _, .cons (a := t) (b := q) h t', hin, .cons r rs => by
    refine .cons (.tup (by rw [hin _ List.mem_cons_self]; exact h) (.cons ?_ (.cons (r.same fs) .nil))) (rows_reps fs t' (fun x hx => hin x (List.mem_cons_of_mem _ hx)) rs)
    obtain ⟨k, v⟩ := q
    cases k with
    | inl i => exact .int i
    | inr z => exact .str z
section
variable {X : Cx} {c : Ctx} {e : Expr} {pa ba : Bool} {we : WE c.R} {p apos cpos pos : Pos}
def tItemsR (te : TE) : TE := fun σ H Q => te σ H fun x H1 => ∃ d kvs, x = .ref d ∧ Rd H1 d (.dK kvs) ∧ ∀ H' q ts, (∀ b u, H1 b = some u → H' b = some u) → H1 q = none → (∀ t ∈ ts, H1 t = none) → q ∉ ts → H' q = some (.lst (ts.map V.ref)) →
  Paired (fun (t : Addr) (p : Key × V) => H' t = some (.tup [kV p.1, p.2])) ts kvs → Q (.ref q) H'
theorem pe_itemsR {te : TE} (hc : X.calm = true) (he : PE X e te) (hg : Gl X "list") (hm : X.mg "list" = none) (hv : bootBuiltins "list" = some (.type "list")) (hb : attributeBase e "items" X.env (eval e X.env) = eval e X.env := by rfl) (hl : (apos.endLine == cpos.line) = true := by rfl)
    (h1 : starEach [.Call (.Attribute e "items" apos) [] [] cpos] X.env = (false, eval (.Call (.Attribute e "items" apos) [] [] cpos) X.env) :: starEach [] X.env := by rfl) : PE X (.Call (.Name "list" p) [.Call (.Attribute e "items" apos) [] [] cpos] [] pos) (tItemsR te) := by
  refine ⟨fun pins s σ H Q I wish => wpAny_Call_Name_kw (ld_blt I hg hm hv (PyProof.Rows.callWith_type1 ?_ h1 rfl))⟩
  rw [h1]
  show wpAny _ _ (spliced ((false, eval (.Call (.Attribute e "items" apos) [] [] cpos) X.env) :: backTo pos (starEach [] X.env))) _ _ s
  refine Calls.spliced_cons (wpAny_Call_method (T := "dict") (id := "dict.items") hb rfl hl F.plainAttrs_dict F.slot_dict_items F.type_dict_items (thn (he.run pins s σ H _ I wish) fun u t ⟨x, G, J, rx, d, kvs, ex, at_, q⟩ => ?_))
  subst ex
  cases rx
  obtain ⟨z, lo, ws, rel, dd⟩ := dk_rd J.hok at_
  obtain ⟨ep, dAt⟩ := dd.dictAt
  have len : kvs.length = ws.length := Paired.length rel
  have J2 : Inv X pins σ G { t with heap := t.heap.push { cls := .type "dict_items", data := .fields #[.ref d] } } := J.kept (t' := t.toks) fun b o h => Heap.get?_push_of_some _ h
  refine ⟨dd.typeIs, dd.mapOf.noDict, ?_⟩
  show wpAny _ _ (callWith cpos (.builtin "dict.items") [.ref d] [] []) _ X.xe t
  refine method_meetsIn F.slot_dict_items F.entry_dict_items rfl (PySem.evalArgs_none ⟨rfl, dd.typeIs, F.args_dict_items_1 _, _, meets_dict_items (mixKind X.prog X.w) d lo, ⟨ws, dd⟩, Calls.spliced_nil ?_⟩)
  refine PySem.W.kdx_call (knd := mixKind X.prog X.w) (kvs := ws) (ep := ep) (J.ok.hd hc) ⟨_, Heap.get?_push_size _ rfl, rfl, rfl⟩ (dAt.push _) (by omega) fun h' tk acc n as g1 g2 g3 g4 g5 => ?_
  obtain ⟨G', k1, k2, k3, k4, k5, k6, J3⟩ := LiI.items_laid (tk := tk) J2 z rel g1 g2 g3 g4 g5
  exact ⟨.ref _, G', J3, rfl, q G' _ as k1 k2 k3 k4 k5 k6⟩
theorem fe_items (hm : X.mg "list" = none) (he : DE X c pa ba e we) (hc : X.calm = true := by rfl) (hg : Gl X "list" := by rfl) (hbase : attributeBase e "items" X.env (eval e X.env) = eval e X.env := by rfl) (hline : (apos.endLine == cpos.line) = true := by rfl)
    (hs : starEach [.Call (.Attribute e "items" apos) [] [] cpos] X.env = (false, eval (.Call (.Attribute e "items" apos) [] [] cpos) X.env) :: starEach [] X.env := by rfl) :
    FE X c pa (.Call (.Name "list" p) [.Call (.Attribute e "items" apos) [] [] cpos] [] pos) (wItems we) :=
  ⟨(pe_itemsR hc he.pe hg hm (by decide +kernel) hbase hline hs).imp fun σ H Q ⟨ρ, F, O, Kk, S, w, next⟩ => by
    refine ⟨ρ, F, O, _, S, w, fun d ρ1 v F1 H1 ⟨ks, vs, ed, hK⟩ S1 fs1 ko1 g1 r1 => ?_⟩
    subst ed
    obtain ⟨a, kvs, rfl, h1, hks, rv⟩ := (r1.bv S1).dct S1.sub
    refine ⟨a, kvs, rfl, h1, fun H' q ts k1 k2 k3 k4 k5 k6 => ?_⟩
    let F' : Hp := fun b => if b ∈ ts then H' b else F1 b
    have fin : ∀ t ∈ ts, F' t = H' t := fun t ht => if_pos ht
    have fs : Same F1 F' := fun b o h => by
      show (if b ∈ ts then H' b else F1 b) = some o
      by_cases z : b ∈ ts
      · have := k3 b z
        rw [S1.sub _ _ h] at this
        cases this
      · rw [if_neg z]; exact h
    have qF : F' q = none := by
      show (if q ∈ ts then H' q else F1 q) = none
      rw [if_neg k4]
      cases h : F1 q with
      | none => rfl
      | some o => rw [S1.sub _ _ h] at k2; cases k2
    have sub : Same F' (gone H' q) := fun b o h => by
      have bq : b ≠ q := fun z => by rw [z, qF] at h; cases h
      rw [gone_ne bq]
      have h : (if b ∈ ts then H' b else F1 b) = some o := h
      by_cases z : b ∈ ts
      · rw [if_pos z] at h; exact h
      · rw [if_neg z] at h; exact k1 _ _ (S1.sub _ _ h)
    have gr : Grow F1 H1 (cpl F' (gone H' q)) (gone H' q) := by
      refine cpl_grow S1.tin fs sub (fun b o h => ?_) (fun b h => ?_)
      · have bq : b ≠ q := fun z => by rw [z, k2] at h; cases h
        rw [gone_ne bq]
        exact k1 _ _ h
      · have h : (if b ∈ ts then H' b else F1 b) ≠ none := h
        by_cases z : b ∈ ts
        · exact .inr (k3 b z)
        · rw [if_neg z] at h; exact .inl h
    have := next (.lst (rowsD ks vs)) ρ1 q (.lst (ts.map V.ref)) _ (gone H' q) hK (S1.grow gr) (fs1.trans gr.fs) (fun z hz => by rw [gr.at (S1.out z hz).2.2]; exact ko1 z hz) (fun z => ⟨(g1 z).1, (g1 z).2.trans gr⟩) gone_at (by rw [hks]; exact (rows_reps fs k6 fin rv).same (cpl_same sub))
    rw [gone_upd k5] at this
    exact this, he.kk⟩
end
end Q

set_option Elab.async false
set_option linter.all false
set_option maxRecDepth 100000
set_option maxHeartbeats 4000000
/-! lists of the data that are changed: lent out, taken back; a loop over a fresh list -/
namespace Q
open PySem PySem.Spec PyProof.Rows L2
theorem relV_one {x y : V} {u : Value} (h : L2.RelV x u) (h' : L2.RelV y u) : x = y := by
  cases x <;> cases y <;> simp only [L2.RelV] at h h' <;> first
    | rfl
    | (subst h; cases h'; rfl)
    | (obtain ⟨_, h⟩ := h; obtain ⟨_, e⟩ := h'; rw [h] at e; cases e; rfl)
    | (obtain ⟨_, h⟩ := h; obtain ⟨_, e⟩ := h'; rw [h] at e; cases e; done)
    | (obtain ⟨_, h⟩ := h; rw [h] at h'; cases h'; done)
    | (obtain ⟨_, e⟩ := h'; rw [h] at e; cases e; done)
    | (rw [h] at h'; cases h'; done)
theorem vals_one : ∀ {xs ys : List V} {its : List Value}, Vals xs its → Vals ys its → xs = ys
  | _, _, _, .nil, .nil => rfl
  | _, _, _, .cons h t, .cons h' t' => by rw [relV_one h h', vals_one t t']
/-- what a tuple holds is one list of values; no list is a tuple -/
structure Uq (K : PySem.W.Frag) (H : Hp) : Prop where
  one : ∀ a xs ys, SqT K H a xs → SqT K H a ys → xs = ys
  no : ∀ a us xs, H a = some (.lst us) → SqT K H a xs → False
theorem uq_of {X : Cx} {pins : List (Addr × Obj)} {σ : L2.St} {H : Hp} {s : Shared} (I : L2.Inv X pins σ H s) : Uq X.K H := by
  refine ⟨fun a xs ys h h' => ?_, fun a us xs h h' => ?_⟩
  · obtain ⟨i1, v1, t1, _⟩ := I.tuple h
    obtain ⟨i2, v2, t2, _⟩ := I.tuple h'
    have : i1 = i2 := by
      obtain ⟨o, g1, _, n, d1⟩ := t1
      obtain ⟨o', g2, _, n', d2⟩ := t2
      rw [g1] at g2
      cases g2
      rw [d1] at d2
      cases d2
      rfl
    subst this
    exact vals_one v1 v2
  · obtain ⟨i1, v1, ⟨o, n, g1, c1, _⟩, _⟩ := I.list (SqL.of h)
    obtain ⟨i2, v2, ⟨o', g2, c2, _⟩, _⟩ := I.tuple h'
    rw [g1] at g2
    cases g2
    rw [c1] at c2
    exact absurd (Value.type.inj c2) (by decide)
/-! out of the data, and back -/
def wo (F : Hp) (O : List Addr) : Hp := fun b => if b ∈ O then none else F b
def wi (F : Hp) (O : List Addr) (H : Hp) : Hp := fun b => if b ∈ O then H b else F b
theorem wo_in {F : Hp} {O : List Addr} {b : Addr} (h : b ∈ O) : wo F O b = none := if_pos h
theorem wo_out {F : Hp} {O : List Addr} {b : Addr} (h : b ∉ O) : wo F O b = F b := if_neg h
theorem wi_in {F H : Hp} {O : List Addr} {b : Addr} (h : b ∈ O) : wi F O H b = H b := if_pos h
theorem wi_out {F H : Hp} {O : List Addr} {b : Addr} (h : b ∉ O) : wi F O H b = F b := if_neg h
theorem wo_same (F : Hp) (O : List Addr) : Same (wo F O) F := fun b o h => by
  by_cases e : b ∈ O
  · rw [wo_in e] at h; cases h
  · rw [wo_out e] at h; exact h
section
variable {c : Ctx} {F H : Hp} {O : List Addr} {σ : L2.St} {ρ : DS c.R}
theorem St.lend {sl' : List (Option DV)} (S : St c F [] σ ρ H) (hO : ∀ q ∈ O, F q ≠ none ∧ c.F0 q = none) (hT : ∀ q ∈ O, ∀ xs, F q ≠ some (.tup xs)) (hl : sl'.length = ρ.sl.length) (hs : ∀ i : Nat, SlotOk c.K (wo F O) H σ i sl'[i]?) (hown : ∀ (i : Nat) (d : D), sl'[i]? = some (some (DV.own d)) → ρ.sl[i]? = some (some (DV.own d))) :
    St c (wo F O) O σ ⟨ρ.g, sl'⟩ H := by
  have own : ∀ i a, Owns σ sl' i a → Owns σ ρ.sl i a := fun i a ⟨h, d, e⟩ => ⟨h, d, hown i d e⟩
  refine ⟨by rw [S.len]; exact hl.symm, (wo_same F O).trans S.sub, (fun b xs e => by rw [wo_out (fun m => hT b m xs (S.tin b xs e))]; exact S.tin b xs e), fun b o h => ?_, fun b n e => ?_, S.keep, S.live, hs, fun i a h => ?_, fun i j a h h' => S.inj i j a (own i a h) (own j a h'), fun a ha => ?_, ?_⟩
  · rw [wo_out (fun m => by rw [(hO b m).2] at h; cases h)]
    exact S.old _ _ h
  · refine S.new b (fun z => n ?_) e
    by_cases m : b ∈ O
    · exact wo_in m
    · rw [wo_out m]; exact z
  · obtain ⟨m1, m2, m3⟩ := S.mine i a (own i a h)
    have na : a ∉ O := fun m => (hO a m).1 m1
    exact ⟨by rw [wo_out na]; exact m1, m2, na⟩
  · obtain ⟨q1, q2⟩ := hO a ha
    refine ⟨wo_in ha, S.new a q1 q2, fun z => q1 ?_⟩
    cases e : F a with
    | none => rfl
    | some o => rw [S.sub _ _ e] at z; cases z
  · obtain ⟨Z, r, z1, z2, z3, z4⟩ := S.reg
    refine ⟨Z, r, fun b hb => ?_, z2, fun a ha hz => (hO a ha).1 (z1 a hz), fun i a h => z4 i a (own i a h)⟩
    by_cases m : b ∈ O
    · exact wo_in m
    · rw [wo_out m]; exact z1 b hb
theorem St.retake {sl' : List (Option DV)} (S : St c F O σ ρ H) (hl : sl'.length = ρ.sl.length) (hs : ∀ i : Nat, SlotOk c.K (wi F O H) H σ i sl'[i]?) (hown : ∀ (i : Nat) (d : D), sl'[i]? = some (some (DV.own d)) → ρ.sl[i]? = some (some (DV.own d))) :
    St c (wi F O H) [] σ ⟨ρ.g, sl'⟩ H := by
  have own : ∀ i a, Owns σ sl' i a → Owns σ ρ.sl i a := fun i a ⟨h, d, e⟩ => ⟨h, d, hown i d e⟩
  refine ⟨by rw [S.len]; exact hl.symm, fun b o h => ?_, (fun b xs e => by
    by_cases m : b ∈ O
    · rw [wi_in m]; exact e
    · rw [wi_out m]; exact S.tin b xs e), fun b o h => ?_, fun b n e => ?_, S.keep, S.live, hs, fun i a h => ?_, fun i j a h h' => S.inj i j a (own i a h) (own j a h'), (fun a ha => by cases ha), ?_⟩
  · by_cases m : b ∈ O
    · rw [wi_in m] at h; exact h
    · rw [wi_out m] at h; exact S.sub _ _ h
  · have h' := S.old _ _ h
    rw [wi_out (fun m => by rw [(S.out b m).1] at h'; cases h')]
    exact h'
  · by_cases m : b ∈ O
    · exact (S.out b m).2.1
    · rw [wi_out m] at n; exact S.new b n e
  · obtain ⟨m1, m2, m3⟩ := S.mine i a (own i a h)
    exact ⟨by rw [wi_out m3]; exact m1, m2, by simp⟩
  · obtain ⟨Z, r, z1, z2, z3, z4⟩ := S.reg
    refine ⟨Z, r, fun b hb => ?_, z2, (fun a ha => by cases ha), fun i a h => z4 i a (own i a h)⟩
    rw [wi_out (fun m => z3 b m hb)]
    exact z1 b hb
end
/-! data without lists -/
mutual
def noM : D → Bool
  | .tup xs => noMs xs
  | .ins _ _ xs => noMs xs
  | .dct _ xs => noMs xs
  | .dtt _ xs => noMs xs
  | .dmx _ _ _ => false
  | .non => true
  | .bl _ => true
  | .int _ => true
  | .str _ => true
  | .raw _ => true
  | _ => false
def noMs : List D → Bool
  | [] => true
  | x :: xs => noM x && noMs xs
end
theorem noMs_iff : ∀ {xs : List D}, noMs xs = true ↔ ∀ x ∈ xs, noM x = true
  | [] => by simp [noMs]
  | x :: xs => by rw [noMs, Bool.and_eq_true, noMs_iff (xs := xs)]; simp
section
variable {K : PySem.W.Frag} {F : Hp} {O : List Addr}
theorem wo_at {b : Addr} {o : HO} (hO : ∀ q ∈ O, ∃ us, F q = some (.lst us)) (h : F b = some o) (n : ∀ us, o ≠ .lst us) : wo F O b = some o := by
  rw [wo_out fun m => ?_]
  · exact h
  · obtain ⟨us, e⟩ := hO b m
    rw [h] at e
    cases e
    exact n us rfl
theorem SqT.wo {a : Addr} {vs : List V} (hO : ∀ q ∈ O, ∃ us, F q = some (.lst us)) (h : SqT K F a vs) : SqT K (wo F O) a vs := by
  rcases h with (h | ⟨o, h⟩) | h
  · exact .inl (.inl (wo_at hO h fun us e => by cases e))
  · exact .inl (.inr ⟨o, wo_at hO h fun us e => by cases e⟩)
  · exact .inr h
mutual
theorem Rep.wo (hO : ∀ q ∈ O, ∃ us, F q = some (.lst us)) : ∀ {v : V} {d : D}, Rep K F v d → noM d = true → Rep K (Q.wo F O) v d
  | _, _, .non, _ => .non
  | _, _, .bl b, _ => .bl b
  | _, _, .int i, _ => .int i
  | _, _, .str x, _ => .str x
  | _, _, .lst _ _, n => by simp [noM] at n
  | _, _, .tup h r, n => .tup (wo_at hO h fun us e => by cases e) (Reps.wo hO r (by simpa [noM] using n))
  | _, _, .dK h e r, n => .dK (wo_at hO h fun us e => by cases e) e (Reps.wo hO r (by simpa [noM] using n))
  | _, _, .dM _ _ _ _ _, n => by simp [noM] at n
  | _, _, .dT h e r, n => .dT (wo_at hO h fun us e => by cases e) e (Reps.wo hO r (by simpa [noM] using n))
  | _, _, .ins h e r, n => .ins (wo_at hO h fun us e => by cases e) e (Reps.wo hO r (by simpa [noM] using n))
  | _, _, .raw v, _ => .raw v
theorem Reps.wo (hO : ∀ q ∈ O, ∃ us, F q = some (.lst us)) : ∀ {vs : List V} {ds : List D}, Reps K F vs ds → noMs ds = true → Reps K (Q.wo F O) vs ds
  | _, _, .nil, _ => .nil
  | _, _, .cons r rs, n => by
    rw [noMs, Bool.and_eq_true] at n
    exact .cons (Rep.wo hO r n.1) (Reps.wo hO rs n.2)
end
end
end Q

set_option Elab.async false
set_option linter.all false
set_option maxRecDepth 100000
set_option maxHeartbeats 4000000
/-! for x in e, e a fresh list: what is so between the turns may be anything -/
namespace Q
open PySem PySem.Spec PyProof.Rows L2
theorem pi_uq {X : Cx} {tg e : Expr} {te : TE} (he : PE X e te) : PI X tg e (fun σ H R => te σ H fun x H1 => Uq X.K H1 → rWalk X.K x H1 R) :=
  ⟨fun pins s σ H R I q => thn (he.run pins s σ H _ I q) fun v s1 ⟨x, H1, I1, r1, q1⟩ => vi_walk.run pins s1 σ H1 x v R I1 r1 (q1 (uq_of I1))⟩
def tForF (c : Ctx) (k : Nat) (we : WE c.R) (tb : TS) : TS := fun E σ H => ∃ (ρ : DS c.R) (F : Hp) (Kk : D → DS c.R → Prop), St c F [] σ ρ H ∧ we ρ Kk ∧
  ∀ d ρ1 p o F1 H1, Kk d ρ1 → St c F1 [] σ ρ1 H1 → Same F F1 → H1 p = none → ObjD c.K F1 p o d → Uq c.K (upd H1 p o) →
    ∃ vs, o = .lst vs ∧ ∃ W : Nat → L2.St → Hp → Prop, W 0 σ (upd H1 p o) ∧ ∀ i σ' H', W i σ' H' → H' p = some (.lst vs) ∧
      (∀ v, vs[i]? = some v → tb { E with nx := W (i + 1), ct := W (i + 1), bk := E.nx } (σ'.set k (some v)) H') ∧ (vs.length ≤ i → E.nx σ' H')
section
variable {X : Cx} {c : Ctx} {iter : Expr} {body : List Stmt} {pa : Bool} {we : WE c.R} {tb : TS} {k : Nat} {x : Str} {p1 pos : Pos}
theorem ps_forF (he : FE X c pa iter we) (hb : PSs X body tb) (hN : X.N.Nodup) (hi : X.N[k]? = some x := by rfl) (hx : Loc X.env.scope x := by first | exact Or.inl rfl | exact Or.inr rfl)
    (hf : X.fn x = true ∨ X.env.scope.names.lookup x = some .local := by first | exact .inl rfl | exact .inr rfl | assumption)
    (hp : PassesOwn (model X.prog X.w) X.A X.env X.xe := by exact PassesOwn.never) (hc : X.calm = true := by rfl) (hsi : ∀ y, foldedSetIterable iter X.env y = pure y := by intro _; rfl) :
    PS X (.For (.Name x p1) iter body [] pos) (tForF c k we tb) := by
  refine (ps_for hp hc (pi_uq he.pe) (pg_name hN hi hx hf) hb hsi).imp fun E σ H ⟨ρ, F, Kk, S, w, next⟩ => ?_
  refine ⟨ρ, F, [], Kk, S, w, fun d ρ1 p o F1 H1 hk S1 fs1 _ _ hp1 ob U => ?_⟩
  rw [he.kk] at U ⊢
  obtain ⟨vs, rfl, W, w0, step⟩ := next d ρ1 p o F1 H1 hk S1 fs1 hp1 ob U
  refine .inl ⟨p, vs, rfl, SqL.of upd_same, ?_⟩
  refine ⟨fun i m σ' H' => W i σ' H' ∧ m = vs.length - i, ⟨_, w0, rfl⟩, ?_⟩
  rintro i m σ' H' ⟨hw, rfl⟩
  obtain ⟨hat, go, stop⟩ := step i σ' H' hw
  cases hv : vs[i]? with
  | none =>
    have hl : vs.length ≤ i := List.getElem?_eq_none_iff.mp hv
    exact .inl ⟨⟨vs, SqL.of hat, hl⟩, stop hl⟩
  | some v =>
    have hl : i < vs.length := (List.getElem?_eq_some_iff.mp hv).1
    refine .inr ⟨⟨vs, v, SqL.of hat, hv⟩, W (i + 1), fun σ2 H2 h2 => ⟨vs.length - (i + 1), by omega, h2, rfl⟩, fun y H2 ⟨e, hy⟩ => ?_⟩
    subst e
    have := hy vs (SqL.of hat)
    rw [hv] at this
    cases this
    exact go v hv
end
end Q

set_option Elab.async false
set_option linter.all false
set_option maxRecDepth 100000
set_option maxHeartbeats 4000000
/-! dicts with tuples for keys -/
namespace Q
open PySem PySem.Spec PyProof.Rows L2
abbrev TK := List Key
instance tkMem (k : TK) (ks : List TK) : Decidable (k ∈ ks) := @List.instDecidableMemOfLawfulBEq _ instBEqOfDecidableEq inferInstance k ks
theorem tD_inj {k j : TK} (h : tD k = tD j) : k = j := kD_map (D.tup.inj h)
theorem tD_map : ∀ {ks js : List TK}, ks.map tD = js.map tD → ks = js
  | [], [], _ => rfl
  | [], _ :: _, h => by cases h
  | _ :: _, [], h => by cases h
  | k :: ks, j :: js, h => by
    have h := List.cons.inj h
    rw [tD_inj h.1, tD_map h.2]
section
variable {K : PySem.W.Frag} {F H : Hp} {v : V}
theorem reps_kv : ∀ {vs : List V} {k : TK}, Reps K F vs (k.map kD) → vs = k.map kV
  | _, [], h => by cases h; rfl
  | _, k :: ks, h => by
    cases h with
    | cons r t => rw [Rep.key r, reps_kv t]; rfl
theorem reps_of_kv : ∀ k : TK, Reps K F (k.map kV) (k.map kD)
  | [] => .nil
  | k :: ks => .cons (rep_key k) (reps_of_kv ks)
theorem Rep.tk {k : TK} (h : Rep K F v (tD k)) : ∃ b, v = .ref b ∧ F b = some (.tup (k.map kV)) := by
  cases h with
  | tup e r => rw [reps_kv r] at e; exact ⟨_, rfl, e⟩
theorem rep_tk {b : Addr} {k : TK} (h : F b = some (.tup (k.map kV))) : Rep K F (.ref b) (tD k) := .tup h (reps_of_kv k)
theorem BV.tk {k : TK} (h : BV K F H v (tD k)) (s : Same F H) : ∃ b, v = .ref b ∧ H b = some (.tup (k.map kV)) := by
  obtain ⟨b, e, h⟩ := (BV.rt h).tk
  exact ⟨b, e, s _ _ h⟩
end
def putT (ks : List TK) (k : TK) : List TK := if k ∈ ks then ks else ks ++ [k]
def putTV (ks : List TK) (vs : List D) (k : TK) (v : D) : List D := if k ∈ ks then List.zipWith (fun j u => if j = k then v else u) ks vs else vs ++ [v]
theorem any_tk (k : TK) : ∀ kvs : List (TK × V), (kvs.any fun kv => decide (kv.1 = k)) = decide (k ∈ kvs.map (·.1))
  | [] => rfl
  | kv :: kvs => by
    rw [List.any_cons, any_tk k kvs, List.map_cons]
    by_cases e : kv.1 = k
    · simp [e]
    · have : ¬ k = kv.1 := fun z => e z.symm
      simp [e, this]
theorem putT_keys (k : TK) (v : V) (kvs : List (TK × V)) : (putK kvs k v).map (·.1) = putT (kvs.map (·.1)) k := by
  unfold putK putT
  rw [any_tk]
  by_cases there : k ∈ kvs.map (·.1)
  · rw [if_pos (by simpa using there), if_pos there, List.map_map]
    apply List.map_congr_left
    intro kv _
    show (if kv.1 = k then (kv.1, v) else kv).1 = kv.1
    split <;> rfl
  · rw [if_neg (by simpa using there), if_neg there, List.map_append]
    rfl
theorem putT_vals {K : PySem.W.Frag} {F : Hp} (k : TK) {v : V} {d : D} (r : Rep K F v d) {kvs : List (TK × V)} {ds : List D} (h : Reps K F (kvs.map (·.2)) ds) : Reps K F ((putK kvs k v).map (·.2)) (putTV (kvs.map (·.1)) ds k d) := by
  unfold putK putTV
  rw [any_tk]
  by_cases m : k ∈ kvs.map (·.1)
  · rw [if_pos (by simpa using m), if_pos m]
    clear m
    induction kvs generalizing ds with
    | nil => cases h; exact .nil
    | cons kv kvs ih =>
      cases h with
      | cons h1 h2 =>
        rw [List.map_cons, List.map_cons, List.map_cons, List.zipWith_cons_cons]
        refine .cons ?_ (ih h2)
        by_cases e : kv.1 = k
        · rw [if_pos e, if_pos e]; exact r
        · rw [if_neg e, if_neg e]; exact h1
  · rw [if_neg (by simpa using m), if_neg m, List.map_append]
    exact h.snoc r
def valT : List TK → List D → TK → Option D
  | j :: ks, v :: vs, k => if j = k then some v else valT ks vs k
  | _, _, _ => none
theorem valT_of {K : PySem.W.Frag} {F : Hp} (k : TK) : ∀ {kvs : List (TK × V)} {ds : List D}, Reps K F (kvs.map (·.2)) ds → ∀ d, valT (kvs.map (·.1)) ds k = some d → ∃ v, valV kvs k = some v ∧ Rep K F v d
  | [], _, _, d, h => by simp [valT] at h
  | kv :: kvs, _, .cons r t, d, h => by
    rw [List.map_cons] at h
    unfold valT at h
    by_cases e : kv.1 = k
    · rw [if_pos e] at h
      cases h
      exact ⟨_, valV_pos e, r⟩
    · rw [if_neg e] at h
      rw [valV_neg e]
      exact valT_of k t d h
theorem putT_length (ks : List TK) (k : TK) : (putT ks k).length ≤ ks.length + 1 := by unfold putT; split <;> simp
theorem tkeys_of {kvs : List (TK × V)} {ks : List TK} (h : ks.map tD = kvs.map fun p => tD p.1) : ks = kvs.map (·.1) := tD_map (by rw [h, List.map_map]; rfl)
section
variable {X : Cx} {c : Ctx} {fr : Bool} {tg iter e e2 kx vx a b : Expr} {ifs : List Expr} {pos p : Pos} {pa pb ba bb : Bool} {ts vs : List Nat} {g : WG c.R} {we wb wk wv wd : WE c.R} {wi : WI c.R} {wt : WB c.R} {j : Nat}
/-- {}, to have tuples for keys -/
theorem fe_d0T (hk : X.K = c.K := by rfl) : FE X c true (.Dict [] [] pos) (wC c.R (.dtt [] [])) :=
  ⟨pe_dnewT.imp fun σ H Q ⟨ρ, F, O, Kk, S, w, k⟩ q hq => k _ ρ q (.dT []) F H w S (Same.refl _) (fun _ _ => rfl) (fun _ => ⟨rfl, Grow.refl S.sub⟩) hq ⟨rfl, .nil⟩, hk⟩
/-- x[k] = e -/
def sTput {R : Rgn} (i : Nat) (we wk : WE R) : WS R := fun Dk ρ => we ρ fun d ρ1 => (∃ d0, ρ1.sl[i]? = some (some (.own d0))) ∧ wk ρ1 fun kd ρ2 => ∃ (k : TK) (ks : List TK) (vs : List D), kd = tD k ∧ ρ2.sl[i]? = some (some (.own (.dtt (ks.map tD) vs))) ∧ ks.length < 100000 ∧ Dk.nx (ρ2.put i (some (.own (.dtt ((putT ks k).map tD) (putTV ks vs k d)))))
theorem ds_tput {i : Nat} {x : Str} {k : Expr} {pp qp : Pos} (hr : Room j X.A) (he : DE X c pa false e we) (hx : DE X c pb bb k wk) (hN : X.N[i]? = some x := by rfl) (hv : Vis X.env.scope x := by first | exact .inl rfl | exact .inr (.inl rfl) | exact .inr (.inr rfl))
    (hd : (x == ("__debug__" : Str)) = false := by decide) (hcd : (x == ("__classdict__" : Str)) = false := by decide) (hs : swapsWith e (some (.Subscript (.Name x pp) k qp)) pos.line X.env = pure false := by rfl) :
    DS1 X c fr (.Assign [.Subscript (.Name x pp) k qp] e pos) (sTput i we wk) :=
  ⟨(ps_dput (hu_of hr) (pe_var hN hv hd hcd) hx.pe he.pe hs).imp fun E σ H ⟨ρ, F, Dk, S, w, k1, k2, k3, k4⟩ => by
    refine ⟨ρ, F, [], _, S, w, fun d ρ1 v F1 H1 ⟨⟨d0, h0⟩, hk⟩ S1 fs1 ko1 g1 r1 => ?_⟩
    obtain ⟨q, hq, _⟩ := own_at S1 h0
    refine ⟨.ref q, hq, ρ1, F1, [], _, S1, hk, fun kd ρ2 kv F2 H2 ⟨kk, ks, vs, ek, h2, hl, hk2⟩ S2 fs2 ko2 g2 r2 => ?_⟩
    subst ek
    obtain ⟨q', hq', kvs, hvs, hks, rv⟩ := own_at S2 h2
    rw [hq] at hq'
    cases hq'
    have hks := tkeys_of hks
    subst hks
    obtain ⟨b, eb, hb⟩ := BV.tk (r2.bv S2) S2.sub
    refine ⟨q, _, rfl, .inr ⟨kvs, kk, b, hvs, eb, hb, by rw [List.length_map] at hl; exact Nat.lt_of_lt_of_le hl big_line, rfl⟩, ?_⟩
    exact k1 _ σ F2 _ hk2 (S2.write hq h2 (o := .dT (putK kvs kk v)) ⟨by rw [← putT_keys kk v, List.map_map]; rfl, putT_vals kk (Rep.same fs2 r1) rv⟩) (fs1.trans fs2)⟩
/-- k in x -/
def wTin {R : Rgn} (n : Bool) (wk we : WE R) : WE R := fun ρ K => wk ρ fun kd ρ1 => we ρ1 fun d ρ2 => ∃ (k : TK) (ks : List TK) (vs : List D), kd = tD k ∧ d = .dtt (ks.map tD) vs ∧ K (.bl (xr n (decide (k ∈ ks)))) ρ2
theorem tin_ok {n : Bool} {wa : WE c.R} (he : DE X c pb bb b wb) (ha : DE X c pa false a wa) {σ : L2.St} {H : Hp} {Q : VK} (h : liftE c (pa && pb) false (wTin n wa wb) σ H Q) :
    liftE c pa false wa σ H fun y H1 => liftE c pb bb wb σ H1 fun x H2 => ∃ a o, x = .ref a ∧ DGet H2 a y o ∧ Q (.bl (xr n o.isSome)) H2 := by
  obtain ⟨ρ, F, O, Kk, S, w, k⟩ := h
  refine ⟨ρ, F, O, _, S, w, fun x ρ1 v F1 H1 hk S1 fs1 ko1 g1 r1 => ⟨ρ1, F1, O, _, S1, hk, fun d ρ2 u F2 H2 ⟨kk, ks, vs, ek, ed, kz⟩ S2 fs2 ko2 g2 r2 => ?_⟩⟩
  subst ek
  subst ed
  obtain ⟨q, kvs, rfl, h1, hks, r⟩ := (r2.bv S2).dtt S2.sub
  have hks := tkeys_of hks
  subst hks
  obtain ⟨b, eb, hb⟩ := (Rep.same fs2 r1).tk
  refine ⟨q, _, rfl, .inr ⟨kvs, kk, b, h1, eb, S2.sub _ _ hb, rfl⟩, ?_⟩
  have e : (valV kvs kk).isSome = decide (kk ∈ kvs.map (·.1)) := by rw [← valV_any, any_tk]
  rw [e]
  refine k _ ρ2 _ F2 H2 kz S2 (fs1.trans fs2) (fun q hq => by rw [ko2 q hq, ko1 q hq]) (fun e => ?_) (.bl _)
  rw [Bool.and_eq_true] at e
  obtain ⟨e1, q1⟩ := g1 e.1
  obtain ⟨e2, q2⟩ := g2 e.2
  exact ⟨e2.trans e1, q1.trans q2⟩
theorem de_tin {wa : WE c.R} (hr : Room j X.A) (ha : DE X c pa false a wa) (hb : DE X c pb bb b wb) (hm : behindInMarks .In b = false := by rfl) : DE X c (pa && pb) false (.Compare a [.In] [b] pos) (wTin false wa wb) :=
  ⟨(pe_cmp (pc_din (hu_of hr) ha.pe hb.pe) hm).imp fun σ H Q h => tin_ok hb ha h, ha.kk⟩
theorem de_tni {wa : WE c.R} (hr : Room j X.A) (ha : DE X c pa false a wa) (hb : DE X c pb bb b wb) (hm : behindInMarks .NotIn b = false := by rfl) : DE X c (pa && pb) false (.Compare a [.NotIn] [b] pos) (wTin true wa wb) :=
  ⟨(pe_cmp (pc_dnotin (hu_of hr) ha.pe hb.pe) hm).imp fun σ H Q h => tin_ok hb ha h, ha.kk⟩
theorem dt_tin {wa : WE c.R} (hr : Room j X.A) (ha : DE X c pa false a wa) (hb : DE X c pb bb b wb) (hm : behindInMarks .In b = false := by rfl) : DT X c (pa && pb) (.Compare a [.In] [b] pos) (wTest (wTin false wa wb)) :=
  ⟨(pt_cmp (pc_din (hu_of hr) ha.pe hb.pe) hm).imp fun σ H Q h => tin_ok hb ha (test_ok (ba := false) h)⟩
theorem dt_tni {wa : WE c.R} (hr : Room j X.A) (ha : DE X c pa false a wa) (hb : DE X c pb bb b wb) (hm : behindInMarks .NotIn b = false := by rfl) : DT X c (pa && pb) (.Compare a [.NotIn] [b] pos) (wTest (wTin true wa wb)) :=
  ⟨(pt_cmp (pc_dnotin (hu_of hr) ha.pe hb.pe) hm).imp fun σ H Q h => tin_ok hb ha (test_ok (ba := false) h)⟩
/-- x[k] -/
def wTget {R : Rgn} (we wk : WE R) : WE R := fun ρ K => we ρ fun d ρ1 => wk ρ1 fun kd ρ2 => ∃ (k : TK) (ks : List TK) (vs : List D) (z : D), kd = tD k ∧ d = .dtt (ks.map tD) vs ∧ valT ks vs k = some z ∧ K z ρ2
theorem de_tget (hr : Room j X.A) (ha : DE X c pa ba e we) (hb : DE X c pb bb e2 wk) (hs : ba = false ∨ pb = true := by first | exact .inl rfl | exact .inr rfl) (hi : NoSl e2 := by exact fun _ _ => rfl) : DE X c (pa && pb) false (.Subscript e e2 pos) (wTget we wk) :=
  ⟨(pe_dget (hu_of hr) ha.pe hb.pe hi).imp fun σ H Q ⟨ρ, F, O, Kk, S, w, k⟩ => ⟨ρ, F, O, _, S, w, fun x ρ1 v F1 H1 hk S1 fs1 ko1 g1 r1 => ⟨ρ1, F1, O, _, S1, hk, fun kd ρ2 u F2 H2 ⟨kk, ks, vs, z, ek, ed, hz, kz⟩ S2 fs2 ko2 g2 r2 => by
    subst ek
    subst ed
    have c1 : VRep c.K F2 σ ρ2.sl v _ ba := r1.carry fs2 (hs.imp id fun e => by rw [(g2 e).1])
    obtain ⟨q, kvs, rfl, h1, hks, r⟩ := (c1.bv S2).dtt S2.sub
    have hks := tkeys_of hks
    subst hks
    obtain ⟨y, hy, ry⟩ := valT_of kk r z hz
    obtain ⟨b, eb, hb⟩ := BV.tk (r2.bv S2) S2.sub
    refine ⟨q, y, rfl, .inr ⟨kvs, kk, b, h1, eb, hb, hy.symm⟩, ?_⟩
    refine k z ρ2 y F2 H2 kz S2 (fs1.trans fs2) (fun q hq => by rw [ko2 q hq, ko1 q hq]) (fun e => ?_) ry
    rw [Bool.and_eq_true] at e
    obtain ⟨e1, q1⟩ := g1 e.1
    obtain ⟨e2, q2⟩ := g2 e.2
    exact ⟨e2.trans e1, q1.trans q2⟩⟩⟩, ha.kk⟩
/-- list(x) -/
def wTlist {R : Rgn} (we : WE R) : WE R := fun ρ K => we ρ fun d ρ1 => ∃ ks vs, d = .dtt ks vs ∧ K (.lst ks) ρ1
theorem keys_reps {K : PySem.W.Frag} {F H : Hp} (t : Tin F H) : ∀ {kvs : List (TK × V)} {bs : List Addr}, IsKeys H kvs bs → Reps K F (bs.map V.ref) (kvs.map fun p => tD p.1)
  | _, _, .nil => .nil
  | _, _, .cons h r => .cons (rep_tk (t _ _ h)) (keys_reps t r)
theorem fe_listT (hm : X.mg "list" = none) (ha : DE X c pa ba e we) (hc : X.calm = true := by rfl) (hg : Gl X "list" := by rfl)
    (he : starEach [e] X.env = (false, eval e X.env) :: starEach [] X.env := by rfl) (hpl : (backTo pos (starEach [] X.env)).any (·.1) = false := by rfl) : FE X c pa (.Call (.Name "list" p) [e] [] pos) (wTlist we) :=
  ⟨(pe_callTy (call_list_dT (X := X) hc) hg hm (by decide +kernel) (pa_cons ha.pe pa_nil he) (by decide) (by decide) he hpl).imp fun σ H Q ⟨ρ, F, O, Kk, S, w, k⟩ => ⟨ρ, F, O, _, S, w, fun d ρ1 v F1 H1 ⟨ks, vs, ed, hk⟩ S1 fs1 ko1 g1 r1 => by
    subst ed
    obtain ⟨a, kvs, rfl, h1, hks, r⟩ := (r1.bv S1).dtt S1.sub
    refine ⟨a, kvs, rfl, h1, fun q bs hq hb => ?_⟩
    subst hks
    exact k _ ρ1 q (.lst (bs.map V.ref)) F1 H1 hk S1 fs1 ko1 g1 hq (keys_reps S1.tin hb)⟩, ha.kk⟩
end
end Q

set_option Elab.async false
set_option linter.all false
set_option maxRecDepth 100000
set_option maxHeartbeats 4000000
/-! going through dicts -/
namespace Q
open PySem PySem.Spec PyProof.Rows L2
section
variable {K : PySem.W.Frag} {F0 : Hp} {a : Addr} {o : Obj}
theorem kd_map {kvs : List (Key × V)} {i : Nat} {k : Key} {v : V} (h : kvs[i]? = some (k, v)) : (kvs.map fun p => kD p.1)[i]? = some (kD k) := by rw [List.getElem?_map, h]; rfl
theorem walks_keys {kvs : List (Key × V)} (h : F0 a = some (.frz o (.dK kvs))) : Walks K F0 (Itk a o kvs) (kvs.map fun p => kD p.1) where
  go := fun F H i s1 st hi => by
    have at_ := st.s _ _ (s1 _ _ h)
    refine ⟨⟨at_, by simpa using hi⟩, fun x H' ⟨e, k, v, e1, e2⟩ => ⟨_, F, kd_map e1, by rw [e]; exact .no, by rw [e2]; exact rep_key k⟩⟩
  stop := fun F H s1 s2 => ⟨s2 _ _ (s1 _ _ h), by simp⟩
theorem walks_keysT {kvs : List (TK × V)} (h : F0 a = some (.frz o (.dT kvs))) : Walks K F0 (Itkt a o kvs) (kvs.map fun p => tD p.1) where
  go := fun F H i s1 st hi => by
    have at_ := st.s _ _ (s1 _ _ h)
    refine ⟨⟨at_, by simpa using hi⟩, fun x H' ⟨e, k, v, q, e1, e2, e3⟩ => ⟨_, F, by rw [List.getElem?_map, e1]; rfl, by rw [e]; exact .no, by rw [e2]; exact rep_tk (st.t _ _ e3)⟩⟩
  stop := fun F H s1 s2 => ⟨s2 _ _ (s1 _ _ h), by simp⟩
theorem walks_vals {kvs : List (Key × V)} {ds : List D} (h : F0 a = some (.frz o (.dK kvs))) (r : Reps K F0 (kvs.map (·.2)) ds) : Walks K F0 (Itd a o kvs) ds where
  go := fun F H i s1 st hi => by
    have at_ := st.s _ _ (s1 _ _ h)
    have len := r.length
    rw [List.length_map] at len
    refine ⟨⟨at_, by omega⟩, fun x H' ⟨e, k, e1⟩ => ?_⟩
    have e2 : (kvs.map (·.2))[i]? = some x := by rw [List.getElem?_map, e1]; rfl
    obtain ⟨d, h1, h2⟩ := r.get e2
    exact ⟨d, F, h1, by rw [e]; exact .no, h2.same s1⟩
  stop := fun F H s1 s2 => ⟨s2 _ _ (s1 _ _ h), by
    have len := r.length
    rw [List.length_map] at len
    omega⟩
def pairsD (ks vs : List D) : List D := List.zipWith (fun k v => .tup [k, v]) ks vs
theorem walks_pairs {kvs : List (Key × V)} {ds : List D} (h : F0 a = some (.frz o (.dK kvs))) (r : Reps K F0 (kvs.map (·.2)) ds) : Walks K F0 (Iti a o kvs) (pairsD (kvs.map fun p => kD p.1) ds) where
  go := fun F H i s1 st hi => by
    have at_ := st.s _ _ (s1 _ _ h)
    have len := r.length
    rw [List.length_map] at len
    have hi' : i < kvs.length := by
      simp only [pairsD, List.length_zipWith, List.length_map] at hi
      omega
    refine ⟨⟨at_, hi'⟩, fun x H' ⟨T, k, v, e1, e2, e3, e4⟩ => ?_⟩
    have e5 : (kvs.map (·.2))[i]? = some v := by rw [List.getElem?_map, e1]; rfl
    obtain ⟨d, h1, h2⟩ := r.get e5
    obtain ⟨al, rp⟩ := al_tup (K := K) (us := [kV k, v]) (es := [kD k, d]) st.s e3 (.cons (rep_key k) (.cons (h2.same s1) .nil))
    refine ⟨_, _, ?_, by rw [e4]; exact al, by rw [e2]; exact rp⟩
    unfold pairsD
    rw [List.getElem?_zipWith, kd_map e1, h1]
  stop := fun F H s1 s2 => ⟨s2 _ _ (s1 _ _ h), by
    have len := r.length
    rw [List.length_map] at len
    simp only [pairsD, List.length_zipWith, List.length_map]
    omega⟩
end
section
variable {X : Cx} {c : Ctx} {tg e : Expr} {pa : Bool} {we : WE c.R} {apos cpos : Pos}
/-- for k in x, x a dict that is data -/
def wKy {R : Rgn} (we : WE R) : WI R := fun ρ K => we ρ fun d ρ1 => ∃ ks vs, (d = .dct ks vs ∨ d = .dtt ks vs) ∧ K ks ρ1
theorem di_keys (he : DE X c pa false e we) : DI X c tg e (wKy we) :=
  ⟨(pi_keys he.pe).imp fun σ H R ⟨ρ, F, O, Kk, S, w, k⟩ => ⟨ρ, F, O, _, S, w, fun d ρ1 v F1 H1 ⟨ks, vs, hd, hk⟩ S1 fs1 ko1 g1 r1 => by
    rcases hd with rfl | rfl
    · cases r1 with
      | @dK a od kvs _ _ h n r =>
        subst n
        exact ⟨a, od, rfl, .inl ⟨kvs, S1.sub _ _ h, k _ ρ1 F1 H1 _ hk S1 fs1 ko1 (walks_keys h)⟩⟩
    · cases r1 with
      | @dT a od kvs _ _ h n r =>
        subst n
        exact ⟨a, od, rfl, .inr ⟨kvs, S1.sub _ _ h, k _ ρ1 F1 H1 _ hk S1 fs1 ko1 (walks_keysT h)⟩⟩⟩⟩
/-- for v in x.values() -/
def wVl {R : Rgn} (we : WE R) : WI R := fun ρ K => we ρ fun d ρ1 => ∃ ks vs, d = .dct ks vs ∧ K vs ρ1
theorem di_vals (he : DE X c pa false e we) (hbase : attributeBase e "values" X.env (eval e X.env) = eval e X.env := by rfl) (hline : (apos.endLine == cpos.line) = true := by rfl) : DI X c tg (.Call (.Attribute e "values" apos) [] [] cpos) (wVl we) :=
  ⟨(pi_values he.pe hbase hline).imp fun σ H R ⟨ρ, F, O, Kk, S, w, k⟩ => ⟨ρ, F, O, _, S, w, fun d ρ1 v F1 H1 ⟨ks, vs, hd, hk⟩ S1 fs1 ko1 g1 r1 => by
    subst hd
    cases r1 with
    | @dK a od kvs _ _ h n r => exact ⟨a, od, kvs, rfl, S1.sub _ _ h, k _ ρ1 F1 H1 _ hk S1 fs1 ko1 (walks_vals h r)⟩⟩⟩
/-- for k, v in x.items() -/
def wIt {R : Rgn} (we : WE R) : WI R := fun ρ K => we ρ fun d ρ1 => ∃ ks vs, d = .dct ks vs ∧ K (pairsD ks vs) ρ1
theorem di_items {elts : List Expr} {kk : Nat} {tpos : Pos} (he : DE X c pa false e we) (hbase : attributeBase e "items" X.env (eval e X.env) = eval e X.env := by rfl) (hline : (apos.endLine == cpos.line) = true := by rfl) : DI X c (.Tuple elts kk tpos) (.Call (.Attribute e "items" apos) [] [] cpos) (wIt we) :=
  ⟨(pi_items he.pe hbase hline).imp fun σ H R ⟨ρ, F, O, Kk, S, w, k⟩ => ⟨ρ, F, O, _, S, w, fun d ρ1 v F1 H1 ⟨ks, vs, hd, hk⟩ S1 fs1 ko1 g1 r1 => by
    subst hd
    cases r1 with
    | @dK a od kvs _ _ h n r =>
      subst n
      exact ⟨a, od, kvs, rfl, S1.sub _ _ h, k _ ρ1 F1 H1 _ hk S1 fs1 ko1 (walks_pairs h r)⟩⟩⟩
end
end Q

set_option Elab.async false
set_option linter.all false
set_option maxRecDepth 100000
set_option maxHeartbeats 4000000
/-! dict comprehensions that make tuples keys -/
namespace Q
open PySem PySem.Spec PyProof.Rows L2
/-- one pair more -/
theorem t_dictSet {X : Cx} {pins : List (Addr × Obj)} {σ : L2.St} {H : Hp} {s : Shared} {E : Value → Shared → Prop} {dn b : Addr} {kvs : List (TK × V)} {k : TK} {v : V} {u r : Value} {Q : Unit → Shared → Prop} (hu : X.A.units + 1 < cLine) (I : Inv X pins σ H s) (hd : H dn = some (.dT kvs)) (hz : kvs.length < sizeLine)
    (hb : H b = some (.tup (k.map kV))) (ry : RelV (V.ref b) u) (rv : RelV v r) (h : ∀ s', Inv X pins σ (upd H dn (.dT (putK kvs k v))) s' → Q () s') : wpAny (model X.prog X.w) X.A (dictSet dn u r) Q E s := by
  obtain ⟨z, lo, xs, rel, dd⟩ := L2.dt_of I.hok hd
  have ez : xs.length ≤ sizeLine := by rw [← Paired.length rel]; exact z
  have more : (putK kvs k v).length ≤ sizeLine := by have := length_putK kvs k v; omega
  cases ry
  refine wpAny_dictSet_heap (hsz := ez) (show X.A.units < cLine by omega) (key_of I.hok hb) dd fun h' dd' same => h _ ?_
  obtain ⟨qo, es, ep, hq, h2, h3, h4, _, h5⟩ := dd'
  refine d_write I (by rw [hd]; exact True.intro) same ⟨qo, hq⟩ ⟨more, lo, _, (rel.put k hb rv).keeps fun e ys ee => ?_, qo, es, ep, hq, h2, h3, h4, h5⟩
  rw [upd_ne (ne_of ee hd (fun n => nomatch n))]
  exact ee
section
variable {X : Cx}
def tDcT (wi : TI) (g : TG) (tt : TT) (tk tv : TE) (vs : List Nat) : TE := fun σ H Q => wi σ H fun J H1 => ∀ dn, H1 dn = none → ∃ Wd : Nat → Nat → Hp → Prop, (∃ m, Wd 0 m (upd H1 dn (.dT []))) ∧ ∀ i m H, Wd i m H →
  (J.stop i H ∧ Q (.ref dn) H) ∨ (J.go i H ∧ ∃ Next : Hp → Prop, (∀ H', Next H' → ∃ m', m' < m ∧ Wd (i + 1) m' H') ∧ ∀ x H', J.yld i H x H' → g x (wipe σ vs) H' fun σ2 H2 => wipe σ2 vs = wipe σ vs ∧ tt σ2 H2 fun b H3 =>
    if b = true then tk σ2 H3 fun y H4 => tv σ2 H4 fun z H5 => ∃ kvs k b, y = V.ref b ∧ H5 b = some (.tup (k.map kV)) ∧ H5 dn = some (.dT kvs) ∧ kvs.length < sizeLine ∧ Next (upd H5 dn (.dT (putK kvs k z))) else Next H3)
theorem dcT_core {pins : List (Addr × Obj)} {s : Shared} {σ : L2.St} {H : Hp} {Q : VK} {kx vx tg iter : Expr} {ifs : List Expr} {scope : Scope} {own : List (Str × Nat)} {pos pos' : Pos} {wi : TI} {g : TG} {tt : TT} {tk tv : TE} {use : Option (Value → Sem Unit)} {Qf : Value → Shared → Prop}
    (hu : X.A.units + 1 < cLine) (hc : X.calm = true) (hN : X.N.Nodup) (I : Inv X pins σ H s) (hi : PI X tg iter wi) (ok : BlkOk X.N X.env.scope scope own)
    (hg : ∀ (s : Shared) (H : Hp) (C : Addr) (cl : List (Str × Addr)) (fp : List Addr), PG (X.blk s H scope (compEnvC scope cl C X.env) fp) tg g) (ht : ∀ (s : Shared) (H : Hp) (C : Addr) (cl : List (Str × Addr)) (fp : List Addr), PTs (X.blk s H scope (compEnvC scope cl C X.env) fp) ifs tt) (hk : ∀ (s : Shared) (H : Hp) (C : Addr) (cl : List (Str × Addr)) (fp : List Addr), PE (X.blk s H scope (compEnvC scope cl C X.env) fp) kx tk) (he : ∀ (s : Shared) (H : Hp) (C : Addr) (cl : List (Str × Addr)) (fp : List Addr), PE (X.blk s H scope (compEnvC scope cl C X.env) fp) vx tv) (hs : ∀ x, foldedSetIterable iter X.env x = pure x)
    (h : tDcT wi g tt tk tv (own.map (·.2)) σ H Q)
    (hEnd : ∀ dn C s' m H', Inv X pins σ H' s' → Q (.ref dn) H' → s'.heap.Ns C m → FpOk X pins H' C → compPost (model X.prog X.w) X.A X.xe use Qf (.ref dn) C (.ok .next) s') :
    wpAny (model X.prog X.w) X.A (comprehension (.DictComp kx vx [⟨tg, iter, ifs, 0⟩] scope pos) scope X.env pos' newDict false (eval iter X.env) use) Qf X.xe s := by -- as it runs
  have free : ∀ y ∈ scope.names, y.2 = .free → ∃ c, X.env.cells.lookup y.1 = some c := fun y hy e => by
    rcases ok.free y hy e with k1 | k1
    · exact I.ok.has _ (.inl k1)
    · exact I.ok.has _ (.inr k1)
  refine wpAny_comprehension_free (use := use) rfl hs (closure_ok free) ok.kind (fun y hy e => by rw [ok.uniq y hy, e])
    (thn (hi.run pins s σ H _ I h) fun xv s1 hx => thn hx fun itv z2 h2 => ?_)
  obtain ⟨it, fp, tn, J, G2, e, J2, T, st2, fo2, q⟩ := h2
  subst e
  refine wpAny_newObj_type <| newEnv_comp ?_
  generalize hdn : z2.heap.objs.size = dn
  have hdnone : G2 dn = none := J2.hok.fresh (Nat.le_of_eq hdn)
  obtain ⟨Wd, ⟨mm0, wd0⟩, round⟩ := q dn hdnone
  -- the new list
  generalize eq3 : ({ z2 with heap := z2.heap.push { cls := .type "dict", data := .dict #[] } } : Shared) = z3
  have J3 : Inv X pins σ (upd G2 dn (.dT [])) z3 := by
    rw [← eq3]
    refine J2.laid (t' := z2.toks) (fun b o e => Heap.get?_push_of_some _ e) (Nat.le_of_eq hdn) ?_
    rw [← hdn]
    exact dt_empty z2.heap J2.big
  have hp3 : z3.heap = z2.heap.push { cls := .type "dict", data := .dict #[] } := by rw [← eq3]
  have small : ∀ b ∈ fp, b < z2.heap.objs.size := fun b hb => by
    obtain ⟨oo, e, _⟩ := T.obj _ _ st2 b hb
    exact Heap.lt_size e
  have fo3 : ∀ b ∈ fp, FpOk X pins (upd G2 dn (.dT [])) b ∧ b < z3.heap.objs.size := fun b hb => by
    have below := small b hb
    refine ⟨⟨?_, (fo2 b hb).2⟩, by rw [hp3, Heap.size_push]; exact Nat.lt_succ_of_lt below⟩
    rw [upd_ne (by rw [← hdn]; exact Nat.ne_of_lt below)]
    exact (fo2 b hb).1
  have sta3 : tn 0 z3.heap := T.keep _ _ _ st2 fun b _ o e => by rw [hp3]; exact Heap.get?_push_of_some _ e
  have J4 := block_start J3 ok hN fo3
  have prG := hg z3 (upd G2 dn (.dT [])) z3.heap.objs.size (cellsFrom (z3.heap.objs.size + 1) scope.names (cloFrom X.env.cells scope.names [])) fp
  have prT := ht z3 (upd G2 dn (.dT [])) z3.heap.objs.size (cellsFrom (z3.heap.objs.size + 1) scope.names (cloFrom X.env.cells scope.names [])) fp
  have prK := hk z3 (upd G2 dn (.dT [])) z3.heap.objs.size (cellsFrom (z3.heap.objs.size + 1) scope.names (cloFrom X.env.cells scope.names [])) fp
  have prV := he z3 (upd G2 dn (.dT [])) z3.heap.objs.size (cellsFrom (z3.heap.objs.size + 1) scope.names (cloFrom X.env.cells scope.names [])) fp
  show codeAny _ _ (.compStart (.DictComp kx vx [⟨tg, iter, ifs, 0⟩] scope pos) 0 (.ref it) (.ref dn) (compEnvC scope (cellsFrom (z3.heap.objs.size + 1) scope.names (cloFrom X.env.cells scope.names [])) z3.heap.objs.size X.env)) (compPost (model X.prog X.w) X.A X.xe use Qf (.ref dn) z3.heap.objs.size) { z3 with heap := pushCells (z3.heap.push { cls := .type "dict", data := .dict #[] }) scope.names }
  have noFp : ∀ b ∈ fp, (upd G2 dn (.dT [])) b = none := fun b hb => (fo3 b hb).1.1
  generalize eqEnv : compEnvC scope (cellsFrom (z3.heap.objs.size + 1) scope.names (cloFrom X.env.cells scope.names [])) z3.heap.objs.size X.env = env2 at J4 prG prT prK prV ⊢
  have envL : env2.locals = z3.heap.objs.size := by subst eqEnv; rfl
  generalize eqH3 : upd G2 dn (.dT []) = G3 at J3 J4 prG prT prK prV wd0 noFp fo3
  generalize eq4 : ({ z3 with heap := pushCells (z3.heap.push { cls := .type "dict", data := .dict #[] }) scope.names } : Shared) = z4 at J4 ⊢
  have sta4 : tn 0 z4.heap := T.keep _ _ _ sta3 fun b _ o e => by rw [← eq4]; exact pushCells_keeps _ _ _ _ (Heap.get?_push_of_some _ e)
  have stays : ∀ {σ' : L2.St} {H' : Hp} {s' : Shared}, Inv (X.blk z3 G3 scope env2 fp) [] σ' H' s' → (∀ b ∈ fp, H' b = none) → ∀ b ∈ fp, FpOk (X.blk z3 G3 scope env2 fp) [] H' b := fun {σ' H' s'} I' named b hb =>
    ⟨named b hb, (I'.ok.exf b hb).1, I'.ok.exfs b hb, .inl hb, fun x c e => (I'.ok.exf b hb).2 x c e, fun p hp => absurd (show p ∈ ([] : List (Addr × Obj)) ++ [] from hp) (by simp)⟩
  have rounds : codeAny (model X.prog X.w) X.A (.compLoop (.DictComp kx vx [⟨tg, iter, ifs, 0⟩] scope pos) 0 (.ref it) (.ref dn) env2) (compPost (model X.prog X.w) X.A X.xe use Qf (.ref dn) z3.heap.objs.size) z4 := by
    refine compLoop_anyD (fun n s' => ∃ i H', Inv (X.blk z3 G3 scope env2 fp) [] (wipe σ (own.map (·.2))) H' s' ∧ tn i s'.heap ∧ (∀ b ∈ fp, H' b = none) ∧ Wd i n H') ?_ mm0 ⟨0, G3, J4, sta4, noFp, wd0⟩
    rintro n z5 ⟨i, G5, J5, sta5, nn5, wd5⟩
    rcases round i n G5 wd5 with ⟨stop, done⟩ | ⟨go, Next, hNext, step⟩
    · have tdone := T.done (X.blk z3 G3 scope env2 fp) rfl rfl rfl hc i [] z5 _ G5 (fun _ _ => False) J5 (stays J5 nn5) sta5 stop
      refine thnF tdone fun r z6 ⟨hr, J6⟩ => ?_
      subst hr
      -- back in the def's context
      have J7 : Inv X pins σ G5 z6 := J3.call' (ch := fp) J6.os J6.base J6.hok J6.bare fun b hb => ⟨(fo3 b hb).1.2.2.2.1, (fo3 b hb).1.2.1, (fo3 b hb).1.2.2.2.2.1, (fo3 b hb).1.2.2.2.2.2⟩
      have noC : G5 z3.heap.objs.size = none := by
        have zz : G5 env2.locals = none := J6.free
        rw [envL] at zz
        exact zz
      obtain ⟨m, named, _⟩ := J6.loc
      have named : z6.heap.Ns env2.locals m := named
      rw [envL] at named
      exact hEnd dn z3.heap.objs.size z6 m G5 J7 done named (J3.fpOk (Nat.le_refl _) noC)
    · have titem := T.item (X.blk z3 G3 scope env2 fp) rfl rfl rfl hc i [] z5 _ G5 (fun _ _ => False) J5 (stays J5 nn5) sta5 go
      refine thnF titem fun r z6 ⟨u, hr, h6⟩ => ?_
      subst hr
      refine thnF h6 fun _ z7 ⟨x, G7, J7, rr7, yy7, sta7, nn7⟩ => ?_
      have J7' := J7.pinned (stays J7 nn7) (T.obj _ _ sta7)
      refine thnF (prG.run _ z7 _ G7 x u _ J7' rr7 (step x G7 yy7)) fun _ z8 ⟨σ8, G8, J8, wip8, qq8⟩ => ?_
      refine thnF (prT.run _ z8 σ8 G8 _ J8 qq8) fun b z9 ⟨G9, J9, qq9⟩ => ?_
      -- the turn's end
      have finish : ∀ {s' : Shared} {H' : Hp}, Inv (X.blk z3 G3 scope env2 fp) ([] ++ pinsAt fp z7.heap) σ8 H' s' → Next H' → ∃ m, m < n ∧ ∃ i H', Inv (X.blk z3 G3 scope env2 fp) [] (wipe σ (own.map (·.2))) H' s' ∧ tn i s'.heap ∧ (∀ b ∈ fp, H' b = none) ∧ Wd i m H' := fun {s' H'} I' next => by
        obtain ⟨m', hm, wd'⟩ := hNext H' next
        have pinned' : ∀ b ∈ fp, ∀ o, z7.heap.get? b = some o → s'.heap.get? b = some o ∧ H' b = none := fun b hb o e =>
          let zz := I'.pin (b, o) (List.mem_append_right _ (List.mem_append_right _ (mem_pinsAt hb e)))
          ⟨zz.1, zz.2.1⟩
        have lenEq : (wipe σ (own.map (·.2))).length = σ8.length := by rw [← wip8, wipe_length]
        refine ⟨m', hm, i + 1, H', (I'.unpinned (pins := [])).weak lenEq (fun j v e => ?_), T.keep _ _ _ sta7 fun b hb o e => (pinned' b hb o e).1, fun b hb => ?_, wd'⟩
        · rw [← wip8] at e
          exact (wipe_some e).1
        · obtain ⟨o, e, _⟩ := T.obj _ _ sta7 b hb
          exact (pinned' b hb o e).2
      cases b with
      | false =>
        simp only [Bool.false_eq_true, if_false] at qq9 ⊢
        exact finish J9 qq9
      | true =>
        simp only [if_true] at qq9 ⊢
        refine thnF (prK.run _ z9 σ8 G9 _ J9 qq9) fun zz z10 ⟨yk, G10, J10, rk10, qq10⟩ => ?_
        refine thnF (prV.run _ z10 σ8 G10 _ J10 qq10) fun zz2 z11 ⟨yv, G11, J11, rv11, kvs, k, b, ek, hb, hT11, hl11, next⟩ => ?_
        subst ek
        exact t_dictSet (X := X.blk z3 G3 scope env2 fp) hu J11 hT11 hl11 hb rk10 rv11 fun z12 J12 => finish J12 next
  exact codeAny_compStart_dict rounds (T.self X.A 0 _ _ _ sta4 rounds)
/-- the dict, as a value -/
theorem pe_dcT {kx vx tg iter : Expr} {ifs : List Expr} {scope : Scope} {own : List (Str × Nat)} {pos : Pos} {wi : TI} {g : TG} {tt : TT} {tk tv : TE} (hu : X.A.units + 1 < cLine) (hc : X.calm = true) (hN : X.N.Nodup) (hi : PI X tg iter wi) (ok : BlkOk X.N X.env.scope scope own)
    (hg : ∀ (s : Shared) (H : Hp) (C : Addr) (cl : List (Str × Addr)) (fp : List Addr), PG (X.blk s H scope (compEnvC scope cl C X.env) fp) tg g) (ht : ∀ (s : Shared) (H : Hp) (C : Addr) (cl : List (Str × Addr)) (fp : List Addr), PTs (X.blk s H scope (compEnvC scope cl C X.env) fp) ifs tt) (hk : ∀ (s : Shared) (H : Hp) (C : Addr) (cl : List (Str × Addr)) (fp : List Addr), PE (X.blk s H scope (compEnvC scope cl C X.env) fp) kx tk) (he : ∀ (s : Shared) (H : Hp) (C : Addr) (cl : List (Str × Addr)) (fp : List Addr), PE (X.blk s H scope (compEnvC scope cl C X.env) fp) vx tv)
    (hs : ∀ x, foldedSetIterable iter X.env x = pure x := by intro _; rfl) : PE X (.DictComp kx vx [⟨tg, iter, ifs, 0⟩] scope pos) (tDcT wi g tt tk tv (own.map (·.2))) := ⟨fun pins s σ H Q I h => by
  rw [arm_eval_DictComp]
  refine dcT_core hu hc hN I hi ok hg ht hk he hs h fun dn C s1 m H1 I1 q ns ⟨f0, f1, f2, f3, f4, f5⟩ => ⟨m, ns, fun h2 sb => ⟨.ref dn, H1, I1.turned (t' := s1.toks) (fun b o hb e => (sb.2 b hb).trans e) f0 f1 f3 f4 f5, rfl, q⟩⟩⟩
end
/-! ### {k: v for ..} over data -/
section
variable {X : Cx} {c : Ctx} {tg iter kx vx : Expr} {ifs : List Expr} {pos : Pos} {pa pb : Bool} {ts : List Nat} {wi : WI c.R} {g : WG c.R} {wt : WB c.R} {wk wv : WE c.R} {j : Nat}
def dcGoT {R : Rgn} (g : WG R) (wt : WB R) (wk wv : WE R) (us : List Nat) (K : List TK → List D → DS R → Prop) : List D → List TK → List D → DS R → Prop
  | [], ks, vs, ρ => K ks vs ρ
  | d :: ds, ks, vs, ρ => g d ρ fun ρ2 => wt ρ2 fun b ρ3 => if b = true then wk ρ3 fun y ρ4 => wv ρ4 fun z ρ5 => ∃ k, y = tD k ∧ dcGoT g wt wk wv us K ds (putT ks k) (putTV ks vs k z) ⟨ρ5.g, wipeL ρ5.sl us⟩ else dcGoT g wt wk wv us K ds ks vs ⟨ρ3.g, wipeL ρ3.sl us⟩
def wDcT {R : Rgn} (wi : WI R) (g : WG R) (wt : WB R) (wk wv : WE R) (us : List Nat) : WE R := fun ρ K => wi ρ fun ds ρ1 => ds.length ≤ 100000 ∧ NoOwn ρ1.sl us ∧ dcGoT g wt wk wv us (fun ks vs ρ2 => K (.dtt (ks.map tD) vs) ⟨ρ2.g, backL ρ1.sl ρ2.sl us⟩) ds [] [] ⟨ρ1.g, wipeL ρ1.sl us⟩
theorem dcT_ok {us : List Nat} {σ : L2.St} {H : Hp} {Q : VK} (h : liftF c false (wDcT wi g wt wk wv us) σ H Q) (hv : ∀ i ∈ ts, i ∈ us) : tDcT (liftI c wi) (liftG c ts g) (liftT c false wt) (liftE c pa false wk) (liftE c pb false wv) us σ H Q := by
  obtain ⟨ρ, F, O, Kk, S, w, k⟩ := h
  refine ⟨ρ, F, O, _, S, w, fun ds ρ1 F1 H1 J ⟨hz, no, hk⟩ S1 fs1 ko1 wk' L hD => ?_⟩
  have nDO : L ∉ O := fun m => (S1.out L m).2.2 hD
  refine ⟨fun i m H' => ∃ (F' : Hp) (ρ' : DS c.R) (kvs : List (TK × V)) (vs : List D), m = ds.length - i ∧ i ≤ ds.length ∧ St c F' (L :: O) (wipe σ us) ρ' H' ∧ Same F1 F' ∧ (∀ a ∈ O, H' a = H1 a) ∧ H' L = some (.dT kvs) ∧ Reps c.K F' (kvs.map (·.2)) vs ∧ kvs.length ≤ i ∧
    dcGoT g wt wk wv us (fun ks vs ρ2 => Kk (.dtt (ks.map tD) vs) ⟨ρ2.g, backL ρ1.sl ρ2.sl us⟩) (ds.drop i) (kvs.map (·.1)) vs ρ', ⟨ds.length, F1, ⟨ρ1.g, wipeL ρ1.sl us⟩, [], [], rfl, Nat.zero_le _, (S1.wiped us).protect hD, Same.refl _, fun a m => upd_ne fun z => nDO (by rw [← z]; exact m), upd_same, .nil, Nat.le_refl _, hk⟩, ?_⟩
  rintro i m H' ⟨F', ρ', kvs, vs, rfl, hi, S', fs', ko', hacc, rac, hla, hw⟩
  by_cases hlt : i < ds.length
  · obtain ⟨hgo, hy⟩ := wk'.go F' H' i fs' S'.sbt hlt
    refine .inr ⟨hgo, fun H2 => ∃ (F2 : Hp) (ρ2 : DS c.R) (kvs2 : List (TK × V)) (vs2 : List D), St c F2 (L :: O) (wipe σ us) ρ2 H2 ∧ Same F1 F2 ∧ (∀ a ∈ O, H2 a = H1 a) ∧ H2 L = some (.dT kvs2) ∧ Reps c.K F2 (kvs2.map (·.2)) vs2 ∧ kvs2.length ≤ i + 1 ∧
      dcGoT g wt wk wv us (fun ks vs ρ2 => Kk (.dtt (ks.map tD) vs) ⟨ρ2.g, backL ρ1.sl ρ2.sl us⟩) (ds.drop (i + 1)) (kvs2.map (·.1)) vs2 ρ2, fun H2 ⟨F2, ρ2, kvs2, vs2, q1, q2, q3, q4, q5, q6, q7⟩ => ⟨ds.length - (i + 1), by omega, F2, ρ2, kvs2, vs2, rfl, hlt, q1, q2, q3, q4, q5, q6, q7⟩, fun x H2 y => ?_⟩
    obtain ⟨d, F2, hd, al, rp⟩ := hy x H2 y
    rw [List.drop_eq_getElem_cons hlt] at hw
    have e : d = ds[i] := by
      rw [List.getElem?_eq_getElem hlt] at hd
      exact (Option.some.inj hd).symm
    subst e
    have S2 := S'.grow (al.grow S'.sub)
    have fs2 : Same F1 F2 := fs'.trans (al.fs S'.sub)
    have k2 : ∀ a ∈ L :: O, H2 a = H' a := ko_al S' al
    refine ⟨ρ', F2, L :: O, _, ds[i], S2, rp, hw, fun ρ3 σ3 hk3 S3 w3 => ⟨?_, ρ3, F2, L :: O, _, S3, hk3, fun b ρ4 F4 H4 hk4 S4 fs4 ko4 _ => ?_⟩⟩
    · rw [w3 us hv, wipe_twice fun _ m => m]
    have w3' : wipe σ3 us = wipe σ us := by rw [w3 us hv, wipe_twice fun _ m => m]
    have a4 : H4 L = some (.dT kvs) := by rw [ko4 L (by simp), k2 L (by simp), hacc]
    have o4 : ∀ a ∈ O, H4 a = H1 a := fun a m => by rw [ko4 a (by simp [m]), k2 a (by simp [m]), ko' a m]
    have r4 := (rac.same (al.fs S'.sub)).same fs4
    cases b with
    | false =>
      rw [if_neg (by decide)] at hk4
      refine itF ?_
      exact ⟨F4, _, kvs, vs, by rw [← w3']; exact S4.wiped us, fs2.trans fs4, o4, a4, r4, Nat.le_succ_of_le hla, hk4⟩
    | true =>
      rw [if_pos rfl] at hk4
      refine itT ?_
      refine ⟨ρ4, F4, L :: O, _, S4, hk4, fun y ρ5 u F5 H5 hk5 S5 fs5 ko5 _ r5 => ⟨ρ5, F5, L :: O, _, S5, hk5, fun z ρ6 v F6 H6 ⟨kk, ek, hk6⟩ S6 fs6 ko6 _ r6 => ?_⟩⟩
      subst ek
      have r6 : Rep c.K F6 v z := r6
      obtain ⟨b, eb, hb⟩ := (Rep.same fs6 r5).tk
      refine ⟨kvs, kk, b, eb, S6.sub _ _ hb, by rw [ko6 L (by simp), ko5 L (by simp), a4], by have := big_line; omega, F6, _, putK kvs kk v, putTV (kvs.map (·.1)) vs kk z, ?_, fs2.trans (fs4.trans (fs5.trans fs6)), fun a m => ?_, upd_same, putT_vals kk r6 ((r4.same fs5).same fs6), ?_, by rw [putT_keys]; exact hk6⟩
      · rw [← w3']; exact (S6.writeO (by simp)).wiped us
      · rw [upd_ne (fun z => nDO (by rw [← z]; exact m)), ko6 a (by simp [m]), ko5 a (by simp [m]), o4 a m]
      · have h1 := congrArg List.length (putT_keys kk v kvs)
        have h2 := putT_length (kvs.map (·.1)) kk
        rw [List.length_map] at h1 h2
        omega
  · have e : i = ds.length := by omega
    subst e
    rw [List.drop_length] at hw
    refine .inl ⟨wk'.stop F' H' fs' S'.sub, ?_⟩
    have S3 := S1.back no (S'.release nDO) fs'
    unfold dcGoT at hw
    have := k (.dtt ((kvs.map (fun x => x.1)).map tD) vs) ⟨ρ'.g, backL ρ1.sl ρ'.sl us⟩ L (.dT kvs) F' (gone H' L) hw S3 (fs1.trans fs') (fun a m => by rw [gone_ne (fun z => nDO (by rw [← z]; exact m)), ko' a m, ko1 a m]) (fun z => by cases z) gone_at ⟨by rw [List.map_map]; rfl, rac⟩
    rw [gone_upd hacc] at this
    exact this
theorem fe_dcT {scope : Scope} {own : List (Str × Nat)} (hr : Room j X.A) (hN : X.N.Nodup) (hi : DI X c tg iter wi) (ok : BlkOk X.N X.env.scope scope own)
    (hg : ∀ (s : Shared) (H : Hp) (C : Addr) (cl : List (Str × Addr)) (fp : List Addr), DG (X.blk s H scope (compEnvC scope cl C X.env) fp) c tg ts g) (ht : ∀ (s : Shared) (H : Hp) (C : Addr) (cl : List (Str × Addr)) (fp : List Addr), DTs (X.blk s H scope (compEnvC scope cl C X.env) fp) c ifs wt)
    (he : ∀ (s : Shared) (H : Hp) (C : Addr) (cl : List (Str × Addr)) (fp : List Addr), DE (X.blk s H scope (compEnvC scope cl C X.env) fp) c pa false kx wk) (he2 : ∀ (s : Shared) (H : Hp) (C : Addr) (cl : List (Str × Addr)) (fp : List Addr), DE (X.blk s H scope (compEnvC scope cl C X.env) fp) c pb false vx wv)
    (hv : ∀ i ∈ ts, i ∈ own.map (·.2) := by decide) (hk : X.K = c.K := by rfl) (hc : X.calm = true := by rfl)
    (hs : ∀ x, foldedSetIterable iter X.env x = pure x := by intro _; rfl) : FE X c false (.DictComp kx vx [⟨tg, iter, ifs, 0⟩] scope pos) (wDcT wi g wt wk wv (own.map (·.2))) :=
  ⟨(pe_dcT (hu_of hr) hc hN hi.pi ok (fun s H C cl fp => (hg s H C cl fp).pg) (fun s H C cl fp => (ht s H C cl fp).pts) (fun s H C cl fp => (he s H C cl fp).pe) (fun s H C cl fp => (he2 s H C cl fp).pe) hs).imp fun σ H Q h => dcT_ok h hv, hk⟩
/-- y = {k: v for ..} -/
theorem ps_setDcT {X : Cx} {i : Nat} {y : Str} {py : Pos} {kx vx tg iter : Expr} {ifs : List Expr} {scope : Scope} {own : List (Str × Nat)} {pos spos : Pos} {wi : TI} {g : TG} {tt : TT} {tk tv : TE} (hu : X.A.units + 1 < cLine) (hc : X.calm = true) (hN : X.N.Nodup) (hy : X.N[i]? = some y)
    (hyl : X.env.scope.names.lookup y = some .local) (hsw : swapsWith (.DictComp kx vx [⟨tg, iter, ifs, 0⟩] scope pos) (some (.Name y py)) spos.line X.env = pure true) (hi : PI X tg iter wi) (ok : BlkOk X.N X.env.scope scope own)
    (hg : ∀ (s : Shared) (H : Hp) (C : Addr) (cl : List (Str × Addr)) (fp : List Addr), PG (X.blk s H scope (compEnvC scope cl C X.env) fp) tg g)
    (ht : ∀ (s : Shared) (H : Hp) (C : Addr) (cl : List (Str × Addr)) (fp : List Addr), PTs (X.blk s H scope (compEnvC scope cl C X.env) fp) ifs tt)
    (hkx : ∀ (s : Shared) (H : Hp) (C : Addr) (cl : List (Str × Addr)) (fp : List Addr), PE (X.blk s H scope (compEnvC scope cl C X.env) fp) kx tk)
    (hvx : ∀ (s : Shared) (H : Hp) (C : Addr) (cl : List (Str × Addr)) (fp : List Addr), PE (X.blk s H scope (compEnvC scope cl C X.env) fp) vx tv) (hs : ∀ x, foldedSetIterable iter X.env x = pure x := by intro _; rfl) :
    PS X (.Assign [.Name y py] (.DictComp kx vx [⟨tg, iter, ifs, 0⟩] scope pos) spos) (tAsg (tDcT wi g tt tk tv (own.map (·.2))) (gName i)) := by
  constructor
  intro pins s σ H D I h
  rw [show _ = _ from exec_Assign_Name_used _ _ _ _ hsw]
  refine wpAny_bind <| wpAny_standAt <| wpAny_bind ?_
  show wpAny _ X.A (do let _ ← comprehension (.DictComp kx vx [⟨tg, iter, ifs, 0⟩] scope pos) scope X.env (firstIterPos [⟨tg, iter, ifs, 0⟩] pos) newDict false (eval iter X.env) (some (assign (.Name y py) X.env))) _ _ s
  have h2 : tDcT wi g tt tk tv (own.map (·.2)) σ H (fun x H1 => gName i x σ H1 D.nx) := h
  refine wpAny_bind (thn (dcT_core (Qf := fun _ s' => SP X pins D .next s') hu hc hN I hi ok hg ht hkx hvx hs h2 fun L C s' m H' I' q hn f => ?_) fun _ s' hq => wpAny_pure (wpAny_pure hq))
  show wpAny _ X.A (assign (.Name y py) X.env (.ref L)) _ X.xe _
  refine wpAny_assign_Name (store_ok2 (v := V.ref L) I' hN hy (.inl hyl) rfl (fun s2 I2 ⟨a, sb, ha⟩ => let ⟨f0, f1, f2, f3, f4, f5⟩ := f; ?_) (.inr hyl))
  have nC : C ≠ a := ha.elim (fun z => by rw [z]; exact f1) fun z e => f4 y a z e.symm
  exact ⟨m, hn.sameBut sb nC, fun h3 sb3 => ⟨_, H', I2.turned (t' := s2.toks) (fun b o hb e => (sb3.2 b hb).trans e) f0 f1 f3 f4 f5, q⟩⟩
theorem ps_dcT {scope : Scope} {own : List (Str × Nat)} {spos py : Pos} {i : Nat} {y : Str} (hr : Room j X.A) (hN : X.N.Nodup) (hi : DI X c tg iter wi) (ok : BlkOk X.N X.env.scope scope own)
    (hg : ∀ (s : Shared) (H : Hp) (C : Addr) (cl : List (Str × Addr)) (fp : List Addr), DG (X.blk s H scope (compEnvC scope cl C X.env) fp) c tg ts g) (ht : ∀ (s : Shared) (H : Hp) (C : Addr) (cl : List (Str × Addr)) (fp : List Addr), DTs (X.blk s H scope (compEnvC scope cl C X.env) fp) c ifs wt)
    (he : ∀ (s : Shared) (H : Hp) (C : Addr) (cl : List (Str × Addr)) (fp : List Addr), DE (X.blk s H scope (compEnvC scope cl C X.env) fp) c pa false kx wk) (he2 : ∀ (s : Shared) (H : Hp) (C : Addr) (cl : List (Str × Addr)) (fp : List Addr), DE (X.blk s H scope (compEnvC scope cl C X.env) fp) c pb false vx wv)
    (hsw : swapsWith (.DictComp kx vx [⟨tg, iter, ifs, 0⟩] scope pos) (some (.Name y py)) spos.line X.env = pure true)
    (hy : X.N[i]? = some y := by rfl) (hyl : X.env.scope.names.lookup y = some .local := by rfl) (hv : ∀ i ∈ ts, i ∈ own.map (·.2) := by decide) (hk : X.K = c.K := by rfl) (hc : X.calm = true := by rfl)
    (hs : ∀ x, foldedSetIterable iter X.env x = pure x := by intro _; rfl) : PS X (.Assign [.Name y py] (.DictComp kx vx [⟨tg, iter, ifs, 0⟩] scope pos) spos) (tAsg (liftF c false (wDcT wi g wt wk wv (own.map (·.2)))) (gName i)) :=
  (ps_setDcT (hu_of hr) hc hN hy hyl hsw hi.pi ok (fun s H C cl fp => (hg s H C cl fp).pg) (fun s H C cl fp => (ht s H C cl fp).pts) (fun s H C cl fp => (he s H C cl fp).pe) (fun s H C cl fp => (he2 s H C cl fp).pe) hs).imp fun E σ H h => dcT_ok h hv
end
end Q

set_option Elab.async false
set_option linter.all false
set_option maxRecDepth 100000
set_option maxHeartbeats 4000000
/-! own `in`; isinstance of own things; `in` a tuple of the module; dict(pairs); three names at once, two of them own -/
namespace Q
open PySem PySem.Spec PyProof.Rows L2
section
variable {X : Cx} {C g : Addr} {n : Nat} {sp : Sp}
/-- x in y, y of the class C that has a def of its own for it -/
def rOwnI (C : Addr) (neg : Bool) (sp : Sp) : R2 := fun x y H Q => ∃ a dx fs, y = .ref a ∧ H a = some (.ins C dx fs) ∧ sp [y, x] H (fun z H' => ∃ b, z = .bl b ∧ Q (.bl (xr neg b)) H') E0
theorem op_ownI (hs : PySem.W.findIn X.K (.ref C) "__contains__" = some (some (.ref g))) (hf : PySem.W.isFn X.K (.ref g) = true) (F : L2.FnR X.prog X.w X.K X.mg X.base CX0 n g sp) (hr : Room n X.A) : OpR X (compareOp .In) (rOwnI C false sp) := by
  intro pn s σ H x y v u Q I rX rY ⟨a, dx, fs, ey, ha, q⟩
  subst ey
  have rY' := rY
  cases (show u = .ref a from rY)
  obtain ⟨attrs, J1, _⟩ := ins_get I.hok ha
  obtain ⟨od, J1, _⟩ := J1.look
  obtain ⟨m, hF⟩ := I.fr
  refine PySem.W.in_K hF I.ok.mod.kin J1 hs hf ?_
  refine wpAny_mono (wpAny_call (run_fnR (us := [.ref a, v]) F hr pass0 I (.cons rY' (.cons rX .nil)) q)) (fun r t z => ?_) fun _ _ x => x
  obtain ⟨z', H', I', rZ, b, rfl, qz⟩ := z
  cases (show r = Value.bool b from rZ)
  exact wpAny_truthy_bool ⟨.bl b, H', I', rfl, qz⟩
end
structure OwnIn (X : Cx) (C : Addr) (n : Nat) (m : WM) : Prop where
  ex : ∃ g, PySem.W.findIn X.K (.ref C) "__contains__" = some (some (.ref g)) ∧ PySem.W.isFn X.K (.ref g) = true ∧ L2.FnR X.prog X.w X.K X.mg X.base CX0 n g (spD X.K m)
def wOwnI {R : Rgn} (C : Addr) (m : WM) (wa wb : WE R) : WE R := fun ρ K => wa ρ fun x ρ1 => wb ρ1 fun y ρ2 => (∃ ns xs, y = .ins C ns xs) ∧ m [y, x] fun d => ∃ b, d = .bl b ∧ K (.bl b) ρ2
section
variable {X : Cx} {c : Ctx} {fr : Bool} {a b d e : Expr} {es : List Expr} {pos p p2 : Pos} {pa pb pd ba bb : Bool} {wa wb wd we : WE c.R} {j n : Nat}
theorem ownI_ok {C : Addr} {m : WM} (ha : DE X c pa false a wa) (hb : DE X c pb false b wb) {σ : L2.St} {H : Hp} {Q : VK} (h : liftE c (pa && pb) false (wOwnI C m wa wb) σ H Q) :
    tOp (rOwnI C false (spD c.K m)) (liftE c pa false wa) (liftE c pb false wb) σ H Q := by
  obtain ⟨ρ, F, O, Kk, S, w, k⟩ := h
  refine ⟨ρ, F, O, _, S, w, fun x ρ1 v F1 H1 hk S1 fs1 ko1 g1 r1 => ⟨ρ1, F1, O, _, S1, hk, fun y ρ2 u F2 H2 ⟨⟨ns, xs, ey⟩, hm⟩ S2 fs2 ko2 g2 r2 => ?_⟩⟩
  subst ey
  have r1' : Rep c.K F2 v x := Rep.same fs2 r1
  have r2' : Rep c.K F2 u (.ins C ns xs) := r2
  obtain ⟨a, dx, fs, rfl, h1, _⟩ := (BV.rep r2' : BV c.K F2 H2 u _).ins S2.sub
  refine ⟨a, dx, fs, rfl, h1, _, F2, _, S2.sbt, .cons r2' (.cons r1' .nil), hm, fun z v' F' H' ⟨b, ed, hk⟩ gr rp => ?_⟩
  subst ed
  cases rp
  refine ⟨b, rfl, k _ ρ2 _ F' H' hk (S2.grow gr) (fs1.trans (fs2.trans gr.fs)) (fun q hq => by rw [gr.at (S2.out q hq).2.2, ko2 q hq, ko1 q hq]) (fun e => ?_) (.bl _)⟩
  rw [Bool.and_eq_true] at e
  obtain ⟨e1, q1⟩ := g1 e.1
  obtain ⟨e2, q2⟩ := g2 e.2
  exact ⟨e2.trans e1, q1.trans (q2.trans gr)⟩
theorem de_ownI {C : Addr} {m : WM} (O : OwnIn X C n m) (hr : Room j X.A) (ha : DE X c pa false a wa) (hb : DE X c pb false b wb) (hj : n ≤ j := by decide) (hm : behindInMarks .In b = false := by rfl) : DE X c (pa && pb) false (.Compare a [.In] [b] pos) (wOwnI C m wa wb) := by
  obtain ⟨g, h1, h2, F⟩ := O.ex
  exact ⟨(pe_cmpR (op_ownI h1 h2 F (hr.mono hj)) ha.pe hb.pe hm).imp fun σ H Q h => by rw [ha.kk]; exact ownI_ok ha hb h, ha.kk⟩
/-- isinstance with built-in types, of a thing that may be of the class C -/
structure IsO (K : PySem.W.Frag) (C : Addr) : Prop where
  c : IsC K C
  ti : ∀ t : Ty, PySem.W.kitOne K (.ref C) (.type t.nm) = some false
theorem IsO.any {K : PySem.W.Frag} {C : Addr} (I : IsO K C) : ∀ ns : List Ty, PySem.W.kitAny K (.ref C) (ns.map fun b : Ty => Value.type b.nm) = some false
  | [] => rfl
  | b :: bs => by
    rw [List.map_cons, PySem.W.kitAny, I.ti b]
    exact I.any bs
def isaO (C : Addr) (ns : List Ty) : D → Option D
  | .ins C' _ _ => if C' = C then some (.bl false) else none
  | x => isaD ns x
theorem de_isNO {C : Addr} {ns : List Ty} {kk} (I : IsO c.K C) (hm : X.mg "isinstance" = none) (ht : TyNs X es ns) (he : DE X c pa ba e we) (hl : ns.length ≤ 10 := by decide) (hg : Gl X "isinstance" := by rfl)
    (he1 : starEach [e, .Tuple es kk p2] X.env = (false, eval e X.env) :: starEach [.Tuple es kk p2] X.env := by rfl) (he2 : starEach [.Tuple es kk p2] X.env = (false, eval (.Tuple es kk p2) X.env) :: starEach [] X.env := by rfl)
    (hpl : (backTo pos (starEach [.Tuple es kk p2] X.env)).any (·.1) = false := by rfl) : DE X c pa false (.Call (.Name "isinstance" p) [e, .Tuple es kk p2] [] pos) (wUn (isaO C ns) we) :=
  ⟨(pe_callB (call_isiT (X := X)) hg hm (by decide +kernel) (pa_cons he.pe (pa_cons (pe_tup ht.pa) pa_nil he2) he1) (by decide) (by decide) he1 hpl).imp fun σ H Q ⟨ρ, F, O, Kk, S, w, k⟩ => ⟨ρ, F, O, _, S, w, fun x ρ1 v F1 H1 ⟨z, hz, hk⟩ S1 fs1 ko1 g1 r1 => by
    refine ⟨by rw [List.length_map]; exact Nat.le_trans hl (Nat.le_trans (by decide) big_line), fun q hq => ?_⟩
    have gr := (Al.one (F := F1) (o := .tup (ns.map fun t => V.ty t.nm)) hq).grow S1.sub
    have S2 := S1.grow gr
    have fin : ∀ bl, Kk (.bl bl) ρ1 → Q (.bl bl) (upd H1 q (.tup (ns.map fun t => V.ty t.nm))) := fun bl hk => k _ ρ1 _ _ _ hk S2 (fs1.trans gr.fs) (fun x hx => by rw [ko_upd S1 hq x hx]; exact ko1 x hx) (fun e => ⟨(g1 e).1, (g1 e).2.trans gr⟩) (.bl _)
    rw [he.kk]
    cases x
    case ins C' fs xs =>
      simp only [isaO] at hz
      split at hz
      · next e =>
        cases hz
        subst e
        exact ⟨v, q, _, _, _, _, rfl, upd_same, clsV_ns ns, tyC_of I.c S2.sub ((r1.grow gr.fs).bv S2), I.any ns, fin _ hk⟩
      · cases hz
    all_goals
      simp only [isaO, isaD, Option.map_eq_some_iff] at hz
      obtain ⟨u, h1, rfl⟩ := hz
      exact ⟨v, q, _, _, _, _, rfl, upd_same, clsV_ns ns, ty_of2 S2.sub ((r1.grow gr.fs).bv S2) h1, kit_ts u ns, fin _ hk⟩⟩, he.kk⟩
end
end Q

set_option Elab.async false
set_option linter.all false
set_option maxRecDepth 100000
set_option maxHeartbeats 4000000
namespace Q
open PySem PySem.Spec PyProof.Rows L2
/-! a tuple of the module -/
structure CsD (K : PySem.W.Frag) (mg : Str → Option Value) (x : Str) (ds : List D) : Prop where
  ex : ∃ a ps, mg x = some (.ref a) ∧ (∀ H, Dp K H (.ref a) (.tuple ps)) ∧ pyDs ds = some ps
section
variable {X : Cx} {c : Ctx} {fr : Bool} {a b d e : Expr} {es : List Expr} {pos p p2 : Pos} {pa pb pd ba bb : Bool} {wa wb wd we : WE c.R} {j n : Nat}
theorem inG_ok {neg : Bool} {ds : List D} {x : Str} {ad : Addr} {ps : List PyData} (hD : ∀ H, Dp X.K H (.ref ad) (.tuple ps)) (hp : pyDs ds = some ps) (ha : DE X c pa ba a wa) {σ : L2.St} {H : Hp} {Q : VK} (h : liftE c pa false (wUn (fun y => inSq neg y ds) wa) σ H Q) :
    tOp (rInA neg X.K) (liftE c pa ba wa) (tC (.ref ad)) σ H Q := by
  obtain ⟨ρ, F, O, Kk, S, w, k⟩ := h
  refine ⟨ρ, F, O, _, S, w, fun x ρ1 v F1 H1 ⟨z, hz, hk⟩ S1 fs1 ko1 g1 r1 => ?_⟩
  have hz : inSq neg x ds = some z := hz
  unfold inSq at hz
  split at hz
  · next hh =>
    obtain ⟨q, h1, h2⟩ := py_of hh.1
    obtain ⟨ps', h3, h4⟩ := py_ofs hh.2.1
    rw [hp] at h3
    cases h3
    cases hz
    refine .inl ⟨q, ps, by rw [ha.kk]; exact (r1.bv S1).dp S1.sub h1, .inr (hD H1), py_plain h1, py_plains hp, by rw [h2, h4]; exact hh.2.2, ?_⟩
    rw [any_deq h1 hp]
    exact k _ ρ1 _ F1 H1 hk S1 fs1 ko1 g1 (.bl _)
  · cases hz
theorem de_inG {x : Str} {ds : List D} (T : CsD X.K X.mg x ds) (hr : Room j X.A) (ha : DE X c pa ba a wa) (hg : Gl X x := by rfl) (hd : (x == ("__debug__" : Str)) = false := by decide) (hm : behindInMarks .In (.Name x p) = false := by rfl) :
    DE X c pa false (.Compare a [.In] [.Name x p] pos) (wUn (fun y => inSq false y ds) wa) := by
  obtain ⟨ad, ps, h1, h2, h3⟩ := T.ex
  exact ⟨(pe_cmpR (op_inA (by have := hr.units; omega)) ha.pe (pe_glob hg h1 (v := .ref ad) rfl hd) hm).imp fun σ H Q h => inG_ok (x := x) h2 h3 ha h, ha.kk⟩
theorem dt_inG {x : Str} {ds : List D} (T : CsD X.K X.mg x ds) (hr : Room j X.A) (ha : DE X c pa ba a wa) (hg : Gl X x := by rfl) (hd : (x == ("__debug__" : Str)) = false := by decide) (hm : behindInMarks .In (.Name x p) = false := by rfl) :
    DT X c pa (.Compare a [.In] [.Name x p] pos) (wTest (wUn (fun y => inSq false y ds) wa)) := by
  obtain ⟨ad, ps, h1, h2, h3⟩ := T.ex
  exact ⟨(pt_cmpR (op_inA (by have := hr.units; omega)) ha.pe (pe_glob hg h1 (v := .ref ad) rfl hd) hm).imp fun σ H Q h => inG_ok (x := x) h2 h3 ha (test_ok (ba := false) h)⟩
theorem dt_niG {x : Str} {ds : List D} (T : CsD X.K X.mg x ds) (hr : Room j X.A) (ha : DE X c pa ba a wa) (hg : Gl X x := by rfl) (hd : (x == ("__debug__" : Str)) = false := by decide) (hm : behindInMarks .NotIn (.Name x p) = false := by rfl) :
    DT X c pa (.Compare a [.NotIn] [.Name x p] pos) (wTest (wUn (fun y => inSq true y ds) wa)) := by
  obtain ⟨ad, ps, h1, h2, h3⟩ := T.ex
  exact ⟨(pt_cmpR (op_niA (by have := hr.units; omega)) ha.pe (pe_glob hg h1 (v := .ref ad) rfl hd) hm).imp fun σ H Q h => inG_ok (x := x) h2 h3 ha (test_ok (ba := false) h)⟩
end
/-! dict(pairs), the later ones win -/
def mrgD : List Key → List D → List Key → List D → List Key × List D
  | k :: ks, v :: vs, aks, avs => mrgD ks vs (putKs aks k) (putVs aks avs k v)
  | _, _, aks, avs => (aks, avs)
theorem mrg_of {K : PySem.W.Frag} {F : Hp} : ∀ {kvs acc : List (Key × V)} {vs avs : List D}, Reps K F (kvs.map (·.2)) vs → Reps K F (acc.map (·.2)) avs →
    (mergeK acc kvs).map (·.1) = (mrgD (kvs.map (·.1)) vs (acc.map (·.1)) avs).1 ∧ Reps K F ((mergeK acc kvs).map (·.2)) (mrgD (kvs.map (·.1)) vs (acc.map (·.1)) avs).2
  | [], acc, _, avs, h, ha => by
    cases h
    exact ⟨rfl, ha⟩
  | kv :: kvs, acc, _, avs, h, ha => by
    cases h with
    | cons r t =>
      have := mrg_of (acc := putK acc kv.1 kv.2) t (putK_vals kv.1 r ha)
      rw [putK_keys] at this
      exact this
section
variable {X : Cx} {c : Ctx} {fr : Bool} {a b d e : Expr} {es : List Expr} {pos p p2 : Pos} {pa pb pd ba bb : Bool} {wa wb wd we : WE c.R} {j n : Nat}
def wDictM {R : Rgn} (we : WE R) : WE R := fun ρ K => we ρ fun d ρ1 => ∃ (ks : List Key) (vs : List D), d = .lst (List.zipWith pairD ks vs) ∧ ks.length = vs.length ∧ K (.dct ((mrgD ks vs [] []).1.map kD) (mrgD ks vs [] []).2) ρ1
theorem fe_dictM (hm : X.mg "dict" = none) (ha : DE X c pa ba e we) (hc : X.calm = true := by rfl) (hg : Gl X "dict" := by rfl)
    (he : starEach [e] X.env = (false, eval e X.env) :: starEach [] X.env := by rfl) (hpl : (backTo pos (starEach [] X.env)).any (·.1) = false := by rfl) : FE X c pa (.Call (.Name "dict" p) [e] [] pos) (wDictM we) :=
  ⟨(pe_callTy (call_dictP (X := X) hc) hg hm (by decide +kernel) (pa_cons ha.pe pa_nil he) (by decide) (by decide) he hpl).imp fun σ H Q ⟨ρ, F, O, Kk, S, w, k⟩ => ⟨ρ, F, O, _, S, w, fun d ρ1 v F1 H1 ⟨ks, vs, ed, hl, hk⟩ S1 fs1 ko1 g1 r1 => by
    subst ed
    obtain ⟨a, us, rfl, h1, r⟩ := (r1.bv S1).lst S1.sub
    obtain ⟨ps, kvs, rfl, h2, h3, h4⟩ := pairs_of r hl
    rw [ha.kk]
    refine ⟨a, ps, kvs, rfl, SqL.of h1, Paired.impl (fun p kv q => SqT.same S1.sub q) h2, fun q hq => ?_⟩
    obtain ⟨m1, m2⟩ := mrg_of (K := c.K) (F := F1) (acc := []) (avs := []) h4 .nil
    rw [h3] at m1 m2
    exact k _ ρ1 q (.dK (mergeK [] kvs)) F1 H1 hk S1 fs1 ko1 g1 hq ⟨by rw [← List.map_nil (f := fun p : Key × V => p.1), ← m1, List.map_map]; rfl, m2⟩⟩, ha.kk⟩
/-! x, y, z = e, f, g; y and z of the def's own -/
def sPar3O {R : Rgn} (i k l : Nat) (wa wb wd : WE R) : WS R := fun Dk ρ => wa ρ fun x ρ1 => wb ρ1 fun y ρ2 => wd ρ2 fun z ρ3 => Dk.nx (((ρ3.put i (some (.fz x))).put k (some (.own y))).put l (some (.own z)))
theorem ds_par3O {i k l : Nat} {x y z : Str} {px py pz pt : Pos} {kt k2 pt2} (hN : X.N.Nodup) (hij : i ≠ k ∧ i ≠ l ∧ k ≠ l) (ha : DE X c pa false a wa) (hb : FE X c pb b wb) (hd : FE X c pd d wd) (hi : X.N[i]? = some x := by rfl) (hj : X.N[k]? = some y := by rfl) (hl : X.N[l]? = some z := by rfl)
    (hx : X.env.scope.names.lookup x = some .local := by rfl) (hy : X.env.scope.names.lookup y = some .local := by rfl) (hz : X.env.scope.names.lookup z = some .local := by rfl) (hc : X.calm = true := by rfl)
    (hw : swappedStores [.Tuple [.Name x px, .Name y py, .Name z pz] kt pt] (.Tuple [a, b, d] k2 pt2) X.env = pure (some [x, y, z]) := by rfl)
    (hs : swapsWithSole [.Tuple [.Name x px, .Name y py, .Name z pz] kt pt] (.Tuple [a, b, d] k2 pt2) pos.line X.env = pure false := by rfl)
    (h1 : starEach [a, b, d] X.env = (false, eval a X.env) :: starEach [b, d] X.env := by rfl) (h2 : starEach [b, d] X.env = (false, eval b X.env) :: starEach [d] X.env := by rfl) (h3 : starEach [d] X.env = (false, eval d X.env) :: starEach [] X.env := by rfl) :
    DS1 X c fr (.Assign [.Tuple [.Name x px, .Name y py, .Name z pz] kt pt] (.Tuple [a, b, d] k2 pt2) pos) (sPar3O i k l wa wb wd) :=
  ⟨(ps_par3 hc hN hi hj hl hij.1 hij.2.1 hij.2.2 hx hy hz (pa_cons ha.pe (pa_cons hb.pe (pa_cons hd.pe pa_nil h3) h2) h1) hw hs).imp fun E σ H ⟨ρ, F, Dk, S, w, k1, k2, k3, k4⟩ => ⟨ρ, F, [], _, S, w, fun dx ρ1 v F1 H1 w1 S1 fs1 _ _ r1 => ⟨ρ1, F1, [], _, S1, w1, fun dy ρ2 p o F2 H2 w2 S2 fs2 _ _ hp ob => by
    refine ⟨ρ2, F2, [p], _, S2.protect hp ob.noTup, w2, fun dz ρ3 q o' F3 H3 w3 S3 fs3 ko3 _ hq ob' => ?_⟩
    have at_ : H3 p = some o := by rw [ko3 p (by simp)]; exact upd_same
    have r1 : Rep c.K F1 v dx := r1
    have S4 := ((S3.release (by simp : p ∉ ([] : List Addr))).setF ((r1.same fs2).same fs3) i).setO (q := p) (o := o) gone_at (ob.same fs3) k
    rw [gone_upd at_] at S4
    exact ⟨_, _, _, rfl, k1 _ _ F3 _ w3 (S4.setO hq ob' l) (fs1.trans (fs2.trans fs3))⟩⟩⟩⟩
end
end Q

set_option Elab.async false
set_option linter.all false
set_option maxRecDepth 100000
set_option maxHeartbeats 4000000
/-! sorted(x), x a dict with tuples for keys -/
namespace Q
open PySem PySem.Spec PyProof.Rows L2 PySem.SeqAt PySem.W
def kPy : Key → PyData
  | .inl i => .int i
  | .inr z => .str z
def tPy (k : TK) : PyData := .tuple (k.map kPy)
theorem kPy_is (k : Key) : pyD (kD k) = some (kPy k) := by cases k <;> rfl
theorem kPys_is : ∀ k : TK, pyDs (k.map kD) = some (k.map kPy)
  | [] => rfl
  | k :: ks => by rw [List.map_cons, pyDs, kPy_is, kPys_is ks]; rfl
theorem tPy_is (k : TK) : pyD (tD k) = some (tPy k) := by
  show (pyDs (k.map kD)).map PyData.tuple = _
  rw [kPys_is]
  rfl
theorem reads_keys {h : Heap} : ∀ {k : TK} {us : List Value}, Vals (k.map kV) us → ReadsAll h us (k.map kPy) []
  | [], _, r => by cases r; exact .nil
  | k :: ks, _, r => by
    cases r with
    | @cons _ u _ us h1 t =>
      have h2 := reads_keys (h := h) t
      have : ReadsAll h (u :: us) (kPy k :: ks.map kPy) ([] ++ []) := by
        refine .cons ?_ h2
        cases k with
        | inl i => obtain ⟨tk, rfl⟩ := (show ∃ tk, u = Value.int i tk from h1); exact .int _ _
        | inr z => obtain ⟨tk, rfl⟩ := (show ∃ tk, u = Value.str z tk from h1); exact .str _ _
      exact this
theorem reads_tk {h : Heap} {b : Addr} {k : TK} {its : Array Value} (i : IsTup h b its) (r : Vals (k.map kV) its.toList) : Reads h (.ref b) (tPy k) [] := by
  obtain ⟨o, h1, h2, n, h3⟩ := i
  exact .tuple h1 h2 h3 (reads_keys r)
theorem depth_keys : ∀ k : TK, PyData.depthAll (k.map kPy) = 0
  | [] => by simp only [List.map_nil, PyData.depthAll]
  | k :: ks => by
    rw [List.map_cons, PyData.depthAll, depth_keys ks]
    cases k <;> simp [kPy, PyData.depth]
theorem depth_tk (k : TK) : (tPy k).depth = 1 := by simp [tPy, PyData.depth, depth_keys]
/-- the keys, and what they read as -/
def rSortDT : List V → Hp → VK → Prop := fun vs H Q => ∃ (d : Addr) (kvs : List (TK × V)), vs = [.ref d] ∧ Rd H d (.dT kvs) ∧ AllAlike (kvs.map fun p => tPy p.1) ∧ Sortable (kvs.map fun p => tPy p.1) ∧
  ∀ p as, H p = none → IsKeys H kvs as → Q (.ref p) (upd H p (.lst (((as.zip (kvs.map (·.1))).mergeSort (dataLe false fun z => tPy z.2)).map fun z => V.ref z.1)))
theorem cr_sortedDT {X : Cx} (hc : X.calm = true) (hu : X.A.units + 65 < cLine) : CallR X (.builtin "sorted") rSortDT := by
  intro pins s σ H vs us Q I r ⟨d, kvs, ev, hd, hal, hk, q⟩
  subst ev
  rw [Vals.ref1 r]
  obtain ⟨z, lo, ks, rel, o, es, ep, ho, hx, hdt, he, hn⟩ := (show ObjOk X.prog X.w H s.heap d (.dT kvs) from hd.ok I.hok)
  have m1 : es.size = ks.length := size_of_entries he
  have m2 : kvs.length = ks.length := Paired.length rel
  refine Calls.call_function_entry kind_sorted plain_sorted entry_sorted (args_sorted1 _) (?_ : wpAny _ _ _ _ _ _)
  unfold Builtin.«sorted»
  refine wpAny_bind (m := checkCount "sorted" 1 1 _) <| wpAny_pure ?_
  refine wpAny_bind (kdu_collect (A := X.A.in1) (kdl_raw lo hx hdt) (I.ok.hd hc) ho (by omega) fun h' tk acc kp it => ?_)
  obtain ⟨as, has⟩ : ∃ as : List Addr, as = ks.map fun x => x.2.1 := ⟨_, rfl⟩
  have ea : acc.toList = as.map Value.ref := by
    have hl : acc.toList.length = ks.length := by rw [Array.length_toList, it.1]; exact m1
    apply List.ext_getElem?
    intro j
    rw [has, List.getElem?_map, List.getElem?_map]
    cases hj : acc.toList[j]? with
    | none =>
      have no := List.getElem?_eq_none_iff.mp hj
      rw [List.getElem?_eq_none (i := j) (by omega)]
      rfl
    | some v =>
      obtain ⟨en, hen, hw⟩ := it.2 j v (by rw [← Array.getElem?_toList]; exact hj)
      have qe := entry_at he j
      rw [hen] at qe
      cases hb : ks[j]? with
      | none => rw [hb] at qe; cases qe
      | some b =>
        rw [hb] at qe
        cases qe
        rw [hw]
        rfl
  have la : as.length = kvs.length := by rw [has, List.length_map]; omega
  have keys : IsKeys H kvs as := by rw [has]; exact isKeys_of rel
  have len : (as.map Value.ref).length ≤ sizeLine := by rw [List.length_map, la]; exact z
  rw [ea]
  refine wpAny_bind (wpAny_newList ?_ len)
  have hoL : (h'.push (seqObj "list" (as.map Value.ref).toArray 0)).get? h'.objs.size = some (seqObj "list" (as.map Value.ref).toArray 0) := Heap.get?_push_size _ rfl
  let H1 : Heap := h'.push (seqObj "list" (as.map Value.ref).toArray 0)
  have kp1 : ∀ b u, s.heap.get? b = some u → H1.get? b = some u := fun b u e => Heap.get?_push_of_some _ (kp b u e)
  obtain ⟨bs, hbs⟩ : ∃ bs : List (Addr × TK), bs = as.zip (kvs.map (·.1)) := ⟨_, rfl⟩
  have lb : bs.length = kvs.length := by
    have h1 : (kvs.map (·.1)).length = kvs.length := List.length_map _
    rw [hbs, List.length_zip, h1]
    omega
  have b1 : bs.map (·.1) = as := by rw [hbs]; exact List.map_fst_zip (by rw [List.length_map, la]; exact Nat.le_refl _)
  have b2 : bs.map (·.2) = kvs.map (·.1) := by rw [hbs]; exact List.map_snd_zip (by rw [List.length_map, la]; exact Nat.le_refl _)
  have e2 : bs.map (fun z => tPy z.2) = kvs.map fun p => tPy p.1 := by
    have h1 := congrArg (List.map tPy) b2
    rw [List.map_map, List.map_map] at h1
    exact h1
  have at_ : ∀ b ∈ bs, H b.1 = some (.tup (b.2.map kV)) := fun b hb => by
    have gen : ∀ {ps : List (TK × V)} {xs : List Addr}, IsKeys H ps xs → ∀ b ∈ xs.zip (ps.map (·.1)), H b.1 = some (.tup (b.2.map kV)) := by
      intro ps xs r
      induction r with
      | nil => intro b hb; cases hb
      | cons h t ih =>
        intro b hb
        rcases List.mem_cons.mp hb with rfl | hb2
        · exact h
        · exact ih b hb2
    rw [hbs] at hb
    exact gen keys b hb
  have each : ∀ {l : List (Addr × TK)}, (∀ b ∈ l, b ∈ bs) → EachIs (fun v (b : Addr × TK) => RelV (V.ref b.1) v) (l.map fun b => Value.ref b.1) l := by
    intro l
    induction l with
    | nil => exact fun _ => .nil
    | cons b l ih => exact fun h => .cons rfl (ih fun c hc => h c (List.mem_cons_of_mem _ hc))
  have reads : ∀ {l : List (Addr × TK)}, (∀ b ∈ l, b ∈ bs) → EachIs (fun v (b : Addr × TK) => ∃ as, Reads H1 v (tPy b.2) as ∧ h'.objs.size ∉ as) (l.map fun b => Value.ref b.1) l := by
    intro l
    induction l with
    | nil => exact fun _ => .nil
    | cons b l ih =>
      intro h
      refine .cons ⟨[], ?_, by simp⟩ (ih fun c hc => h c (List.mem_cons_of_mem _ hc))
      obtain ⟨_, its, rv, i⟩ := (show ObjOk X.prog X.w H s.heap b.1 (.tup (b.2.map kV)) from I.hok b.1 _ (at_ b (h b List.mem_cons_self)))
      obtain ⟨oo, g1, g2, n, g3⟩ := i
      exact reads_tk (its := its.toArray) ⟨oo, kp1 _ _ g1, g2, n, g3⟩ (by simpa using rv)
  have eas : as.map Value.ref = bs.map fun b => Value.ref b.1 := by rw [← b1, List.map_map]; rfl
  have srt := list_sort_data (prog := X.prog) (w := X.w) (A := X.A.in1) (E := X.xe) (s := { s with heap := H1, toks := tk }) (vs := as.map Value.ref) (bs := bs) (enc := fun b : Addr × TK => tPy b.2) (R := fun v (b : Addr × TK) => RelV (V.ref b.1) v) (n := 0) (a := h'.objs.size)
    (Q := fun _ s' => EP X pins σ Q (.ref h'.objs.size) s') hoL (by rw [eas]; exact each fun _ h => h) (by rw [eas]; exact reads fun _ h => h) (by rw [e2]; exact hal) (by rw [e2]; exact hk) (by omega)
    (fun b _ => by rw [depth_tk]; show X.A.units + 1 + 1 + 1 < cLine; omega) fun out hout eo => ?_
  · exact wpAny_bind (wpAny_holding (wpAny_mono srt (fun _ s' x => wpAny_pure ⟨_, rfl, x⟩) fun _ _ e => e))
  · obtain ⟨c, hc2⟩ := sortedHeap_at (vs := as.map Value.ref) (out := List.toArray out) hoL
    have rv : Vals ((bs.mergeSort (dataLe false fun z => tPy z.2)).map fun z => V.ref z.1) out := by
      have gen : ∀ {l : List (Addr × TK)} {us : List Value}, EachIs (fun v (b : Addr × TK) => RelV (V.ref b.1) v) us l → Vals (l.map fun z => V.ref z.1) us := by
        intro l us h
        induction h with
        | nil => exact .nil
        | cons r _ ih => exact .cons r ih
      exact gen eo
    have old : ∀ b u, s.heap.get? b = some u → (sortedHeap H1 h'.objs.size (as.map Value.ref) out.toArray).get? b = some u := fun b u e => by
      have hb : b < h'.objs.size := Heap.lt_size (kp b u e)
      rw [sortedHeap_old (Nat.ne_of_lt hb) (by show b < (h'.push _).objs.size; rw [size_push']; exact Nat.lt_succ_of_lt hb)]
      exact kp1 b u e
    have gone : s.heap.get? h'.objs.size = none := by
      cases e : s.heap.get? h'.objs.size with
      | none => rfl
      | some u => exact absurd (Heap.lt_size (kp _ _ e)) (Nat.lt_irrefl _)
    have free : H h'.objs.size = none := by
      cases e : H h'.objs.size with
      | none => rfl
      | some u =>
        obtain ⟨oo, h1⟩ := objOk_get (I.hok _ _ e)
        rw [gone] at h1
        cases h1
    refine ⟨.ref h'.objs.size, _, I.laidN (t' := tk) (o := .lst ((bs.mergeSort (dataLe false fun z => tPy z.2)).map fun z => V.ref z.1)) old gone free ⟨by rw [List.length_map, List.length_mergeSort, lb]; exact z, out, c, rv, hc2⟩, rfl, by rw [hbs]; exact q _ as free keys⟩
section
variable {X : Cx} {c : Ctx} {e : Expr} {pos p : Pos} {pa ba : Bool} {we : WE c.R} {j : Nat}
/-- sorted(x), x a dict with tuples for keys -/
def wSortDT {R : Rgn} (we : WE R) : WE R := fun ρ K => we ρ fun x ρ1 => ∃ (ks : List TK) (vs : List D), x = .dtt (ks.map tD) vs ∧ AllAlike (ks.map tPy) ∧ Sortable (ks.map tPy) ∧ K (.lst ((ks.mergeSort (dataLe false tPy)).map tD)) ρ1
theorem zip_keys {K : PySem.W.Frag} {F H : Hp} (t : Tin F H) : ∀ {kvs : List (TK × V)} {as : List Addr}, IsKeys H kvs as → ∀ z ∈ as.zip (kvs.map (·.1)), Rep K F (.ref z.1) (tD z.2)
  | _, _, .nil, z, h => by cases h
  | _, _, .cons h r, z, hz => by
    rcases List.mem_cons.mp hz with rfl | hz2
    · exact rep_tk (t _ _ h)
    · exact zip_keys t r z hz2
theorem reps_zipped {K : PySem.W.Frag} {F : Hp} : ∀ {l : List (Addr × TK)}, (∀ z ∈ l, Rep K F (.ref z.1) (tD z.2)) → Reps K F (l.map fun z => V.ref z.1) ((l.map (·.2)).map tD)
  | [], _ => .nil
  | z :: l, h => .cons (h z List.mem_cons_self) (reps_zipped fun y hy => h y (List.mem_cons_of_mem _ hy))
theorem fe_sortDT (hm : X.mg "sorted" = none) (hr : Room j X.A) (he : DE X c pa ba e we) (hc : X.calm = true := by rfl) (hg : Gl X "sorted" := by rfl)
    (he1 : starEach [e] X.env = (false, eval e X.env) :: starEach [] X.env := by rfl) (hpl : (backTo pos (starEach [] X.env)).any (·.1) = false := by rfl) : FE X c pa (.Call (.Name "sorted" p) [e] [] pos) (wSortDT we) :=
  ⟨(pe_callB (cr_sortedDT (X := X) hc (by have := hr.un; omega)) hg hm (by decide +kernel) (pa_cons he.pe pa_nil he1) (by decide) (by decide) he1 hpl).imp fun σ H Q ⟨ρ, F, O, Kk, S, w, next⟩ => ⟨ρ, F, O, _, S, w, fun d ρ1 v F1 H1 ⟨ks, vs, ed, hal, hso, hK⟩ S1 fs1 ko1 g1 r1 => by
    subst ed
    obtain ⟨a, kvs, rfl, h1, hks, r⟩ := (r1.bv S1).dtt S1.sub
    have hks := tkeys_of hks
    subst hks
    have ek : kvs.map (fun p => tPy p.1) = (kvs.map (·.1)).map tPy := by rw [List.map_map]; rfl
    refine ⟨a, kvs, rfl, h1, by rw [ek]; exact hal, by rw [ek]; exact hso, fun q as hq keys => ?_⟩
    have la : as.length = kvs.length := (Paired.length keys).symm
    have es : ((as.zip (kvs.map (·.1))).mergeSort (dataLe false fun z => tPy z.2)).map (·.2) = (kvs.map (·.1)).mergeSort (dataLe false tPy) := by
      rw [sort_maps (r := dataLe false fun z : Addr × TK => tPy z.2) (s := dataLe false tPy) (fun z : Addr × TK => z.2) (l := as.zip (kvs.map (·.1))) (fun a _ b _ => rfl), List.map_snd_zip (by rw [List.length_map, la]; exact Nat.le_refl _)]
    refine next _ ρ1 q (.lst _) F1 H1 hK S1 fs1 ko1 g1 hq ?_
    rw [← es]
    exact reps_zipped fun z hz => zip_keys S1.tin keys z ((List.mergeSort_perm _ _).mem_iff.mp hz)⟩, he.kk⟩
end
end Q

set_option Elab.async false
set_option linter.all false
set_option maxRecDepth 100000
set_option maxHeartbeats 4000000
/-! one step of a reading at a time -/
namespace Q
open PySem PySem.Spec PyProof.Rows L2
section
variable {R : Rgn} {ρ : DS R} {K : D → DS R → Prop} {Ka : List D → DS R → Prop} {wa wb we : WE R} {ws : WA R}
theorem wCons_i (h : we ρ fun d ρ1 => ws ρ1 fun ds ρ2 => Ka (d :: ds) ρ2) : wCons we ws ρ Ka := h
theorem wNil_i (h : Ka [] ρ) : wNil ρ Ka := h
theorem wUn_i {g : D → Option D} (h : we ρ fun x ρ1 => ∃ z, g x = some z ∧ K z ρ1) : wUn g we ρ K := h
theorem wOp_i {g : D → D → Option D} (h : wa ρ fun x ρ1 => wb ρ1 fun y ρ2 => ∃ z, g x y = some z ∧ K z ρ2) : wOp g wa wb ρ K := h
theorem wCall_i {m : WM} (h : ws ρ fun ds ρ1 => m ds fun d => K d ρ1) : wCall m ws ρ K := h
theorem wTest_i {Kb : Bool → DS R → Prop} (h : we ρ fun x ρ1 => ∃ b, x = .bl b ∧ Kb b ρ1) : wTest we ρ Kb := h
end
end Q

set_option Elab.async false
set_option linter.all false
set_option maxRecDepth 100000
set_option maxHeartbeats 4000000
namespace K01
open PySem PySem.Spec PyProof.Rows L2 Q
def top (i : Nat) : Stmt := PySem.Challenge.pw_rulehouse_k01_words_told.main.body.getD i (.Pass ⟨0, 0, 0, 0⟩)
/-- the built-ins' names are no names of the module; its constants -/
structure Tx (K : PySem.W.Frag) (mg : Str → Option Value) : Prop where
  b_len : mg "len" = none
  b_isinstance : mg "isinstance" = none
  b_list : mg "list" = none
  b_tuple : mg "tuple" = none
  b_int : mg "int" = none
  b_str : mg "str" = none
  b_bool : mg "bool" = none
  b_dict : mg "dict" = none
  b_all : mg "all" = none
  b_any : mg "any" = none
  b_range : mg "range" = none
  b_enumerate : mg "enumerate" = none
  b_zip : mg "zip" = none
  b_sorted : mg "sorted" = none
  g_SMALL : GlD K mg "SMALL" (.str "abcdefghijklmnopqrstuvwxyz")
  g_CAPITALS : GlD K mg "CAPITALS" (.str "ABCDEFGHIJKLMNOPQRSTUVWXYZ")
  g_FIGURES : GlD K mg "FIGURES" (.str "0123456789")
  g_NAME_SIGNS : GlD K mg "NAME_SIGNS" (.str "abcdefghijklmnopqrstuvwxyz0123456789")
  t_BARRED_NAMES : CsD K mg "BARRED_NAMES" [.str "not", .str "unlike", .str "if"]
  g_LONGEST_NAME : GlD K mg "LONGEST_NAME" (.int 12)
  g_LONGEST_LETTER : GlD K mg "LONGEST_LETTER" (.int 4)
  g_MOST_TERMS : GlD K mg "MOST_TERMS" (.int 6)
section
variable {P : Program} {w : World} {K : PySem.W.Frag} {mg : Str → Option Value} {base : Heap} {f : Addr} {fd : FuncData}
def tame1 : List D → Prop := fun ds => ∃ x, ds = [x] ∧ tame x
@[simp] theorem tame1_one (x : D) : tame1 [x] = tame x := by
  apply propext
  constructor
  · rintro ⟨y, e, h⟩
    cases e
    exact h
  · exact fun h => ⟨x, rfl, h⟩
theorem tame1_len {ds : List D} (h : tame1 ds) : ∃ x, ds = [x] ∧ tame x := h
def isInt : D → Bool
  | .int _ => true
  | _ => false
-- is_integer: slots 0 thing
abbrev s_is_integer : Stmt := (top 12)
abbrev N_sc_is_integer : List Str := ["thing"]
theorem sc_is_integer : FnScope N_sc_is_integer ["thing"] (defScope s_is_integer) := ⟨rfl, rfl, rfl, by decide +kernel, rfl, by decide +kernel, by decide +kernel⟩
theorem ok_is_integer (F : FnP K "is_integer" "is_integer" s_is_integer f fd) (T : Tx K mg) : FnOk P w K mg base CX0 1 f fd ["thing"] (spD K (wF tame1 fun ds => .bl (isInt (ds.headD .non)))) :=
  FnD F sc_is_integer (fun ds Kk h => by obtain ⟨⟨x, rfl, _⟩, _⟩ := h; rfl) fun cdv A outer s H Fz E hr => ⟨_, 
(ds_one (ds_ret (de_and (de_is1 T.b_isinstance (TyN.mk (t := .int) (by rfl) T.b_int (by decide +kernel) (by decide) (by decide)) (de_v (i := 0))) (de_one (de_not (de_is1 T.b_isinstance (TyN.mk (t := .bool) (by rfl) T.b_bool (by decide +kernel) (by decide) (by decide)) (de_v (i := 0))))))))
  , fun ds Kk h => by
    obtain ⟨⟨x, rfl, hx⟩, k⟩ := h
    cases x <;> simp [sRet, wAndV, wOrV, wNotV, wUn, wOp, wV, wB, wO, wC, wIfE, wTest, wTruth, wBand, wBor, wBnot, wChain, wSl, wPart, wTup, wLst, wCons, wNil, wCall, sIf, sSeq, sSet, sNew, sNext, sPass, sApp, sExt, sDrop, sAsg, gNm, gTp, gCs, gNl, startD, DS.put, wF, isaD, eqD, inSq, isInt] at * <;> exact k⟩
def strNm (z : Str) : Bool := decide (1 ≤ z.length) && decide (z.length ≤ 12) && decide (z.cps.toList.headD 0 ∈ ("abcdefghijklmnopqrstuvwxyz" : Str).cps.toList) && !decide (z = "not" ∨ z = "unlike" ∨ z = "if") &&
  z.cps.toList.all fun c => decide (c ∈ ("abcdefghijklmnopqrstuvwxyz0123456789" : Str).cps.toList)
def isNm : D → Bool
  | .str z => strNm z
  | _ => false
-- is_name: slots 0 thing, 1 sign
abbrev s_is_name : Stmt := (top 13)
abbrev N_sc_is_name : List Str := ["thing", "sign"]
theorem sc_is_name : FnScope N_sc_is_name ["thing"] (defScope s_is_name) := ⟨rfl, rfl, rfl, by decide +kernel, rfl, by decide +kernel, by decide +kernel⟩
theorem ok_is_name (F : FnP K "is_name" "is_name" s_is_name f fd) (T : Tx K mg) : FnOk P w K mg base CX0 1 f fd ["thing"] (spD K (wF tame1 fun ds => .bl (isNm (ds.headD .non)))) :=
  FnD F sc_is_name (fun ds Kk h => by obtain ⟨⟨x, rfl, _⟩, _⟩ := h; rfl) fun cdv A outer s H Fz E hr => ⟨_, 
(ds_cons (ds_if (DW.dt (dw_or (dt_not (dt_truth (de_is1 T.b_isinstance (TyN.mk (t := .str) (by rfl) T.b_str (by decide +kernel) (by decide) (by decide)) (de_v (i := 0))))) (dw_or1 (dt_not (dt_chain c_le c_le de_int (de_len T.b_len (de_v (i := 0))) (de_g T.g_LONGEST_NAME)))))) (ds_one (ds_ret de_bl)) ds_nil)
 (ds_cons (ds_if (DW.dt (dw_or (dt_cm (c_ni hr) (de_ixA (de_v (i := 0)) de_int) (de_g T.g_SMALL)) (dw_or1 (dt_inG T.t_BARRED_NAMES hr (de_v (i := 0)))))) (ds_one (ds_ret de_bl)) ds_nil)
 (ds_one (ds_ret (de_all T.b_all (FE.de (fe_lc (own := [("sign", 1)]) sc_is_name.nd (di_seq (de_v (i := 0))) (blkOk_by (own := [("sign", 1)]) (N := N_sc_is_name) (sc := defScope s_is_name) (by decide +kernel)) (fun _ _ _ _ _ => (dg_name (i := 1) sc_is_name.nd)) (fun _ _ _ _ _ => dts_nil) (fun _ _ _ _ _ => (de_cm (c_in hr) (de_v (i := 1)) (de_g T.g_NAME_SIGNS))))))))))
  , fun ds Kk h => by
    obtain ⟨⟨x, rfl, hx⟩, k⟩ := h
    cases x
    case str z =>
      obtain ⟨⟨l⟩⟩ := z
      have hx : l.length ≤ 100000 := by simpa [tame, Str.length] using hx
      cases l with
      | nil => simp [sRet, wAndV, wOrV, wNotV, wUn, wOp, wV, wB, wO, wC, wIfE, wTest, wTruth, wBand, wBor, wBnot, wChain, wSl, wPart, wTup, wLst, wCons, wNil, wCall, sIf, sSeq, sSet, sNew, sNext, sPass, sApp, sExt, sDrop, sAsg, gNm, gTp, gCs, gNl, startD, DS.put, wF, isaD, eqD, inSq, isNm, strNm, Str.length] at *; exact k
      | cons a r =>
        have hx : r.length ≤ 99999 := by simpa using hx
        by_cases h1 : r.length ≤ 11
        · have hx2 : (r.length : Int) + 1 ≤ 12 := by omega
          have hx3 : (1 : Int) ≤ r.length + 1 := by omega
          by_cases h2 : a ∈ ("abcdefghijklmnopqrstuvwxyz" : Str).cps
          · by_cases h3 : (⟨⟨a :: r⟩⟩ : Str) = "not" ∨ (⟨⟨a :: r⟩⟩ : Str) = "unlike" ∨ (⟨⟨a :: r⟩⟩ : Str) = "if"
            · simp [sRet, wAndV, wOrV, wNotV, wUn, wOp, wV, wB, wO, wC, wIfE, wTest, wTruth, wBand, wBor, wBnot, wChain, wSl, wPart, wTup, wLst, wCons, wNil, wCall, sIf, sSeq, sSet, sNew, sNext, sPass, sApp, sExt, sDrop, sAsg, gNm, gTp, gCs, gNl, startD, DS.put, wF, isaD, eqD, inSq, isNm, strNm, Str.length, ixN, Q.signs, hx, hx2, hx3, h1, h2, h3] at k ⊢
              exact .inr ⟨by rcases h3 with h | h | h <;> simp [h], k⟩
            · simp [sRet, wAndV, wOrV, wNotV, wUn, wOp, wV, wB, wO, wC, wIfE, wTest, wTruth, wBand, wBor, wBnot, wChain, wSl, wPart, wTup, wLst, wCons, wNil, wCall, sIf, sSeq, sSet, sNew, sNext, sPass, sApp, sExt, sDrop, sAsg, gNm, gTp, gCs, gNl, startD, DS.put, wF, isaD, eqD, inSq, isNm, strNm, Str.length, ixN, Q.signs, hx, hx2, hx3, h1, h2] at k ⊢
              refine .inl ⟨⟨fun e => h3 (.inl e.symm), fun e => h3 (.inr (.inl e.symm)), fun e => h3 (.inr (.inr e.symm))⟩, ?_⟩
              refine wLc_m (α := Nat) (h := fun c => .str ⟨#[c]⟩) (xs := a :: r) (f := fun c => .bl (decide (c ∈ ("abcdefghijklmnopqrstuvwxyz0123456789" : Str).cps.toList))) (x := none) (fun K k => ⟨_, rfl, ⟨_, rfl, k⟩⟩) (by simp; omega) rfl (fun _ h => by cases h) (fun c _ K k => ⟨_, rfl, _, rfl, k⟩) _ ?_
              rw [all_map]
              refine ⟨_, rfl, ?_⟩
              rw [not_or, not_or] at h3
              simp [h3.1, h3.2.1, h3.2.2] at k ⊢
              exact k
          · simp [sRet, wAndV, wOrV, wNotV, wUn, wOp, wV, wB, wO, wC, wIfE, wTest, wTruth, wBand, wBor, wBnot, wChain, wSl, wPart, wTup, wLst, wCons, wNil, wCall, sIf, sSeq, sSet, sNew, sNext, sPass, sApp, sExt, sDrop, sAsg, gNm, gTp, gCs, gNl, startD, DS.put, wF, isaD, eqD, inSq, isNm, strNm, Str.length, ixN, Q.signs, hx, hx2, hx3, h1, h2] at k ⊢
            exact k
        · have hx2 : ¬ (r.length : Int) + 1 ≤ 12 := by omega
          have hx3 : (1 : Int) ≤ r.length + 1 := by omega
          simp [sRet, wAndV, wOrV, wNotV, wUn, wOp, wV, wB, wO, wC, wIfE, wTest, wTruth, wBand, wBor, wBnot, wChain, wSl, wPart, wTup, wLst, wCons, wNil, wCall, sIf, sSeq, sSet, sNew, sNext, sPass, sApp, sExt, sDrop, sAsg, gNm, gTp, gCs, gNl, startD, DS.put, wF, isaD, eqD, inSq, isNm, strNm, Str.length, hx, hx2, hx3, h1] at k ⊢
          exact k
    all_goals (simp [sRet, wAndV, wOrV, wNotV, wUn, wOp, wV, wB, wO, wC, wIfE, wTest, wTruth, wBand, wBor, wBnot, wChain, wSl, wPart, wTup, wLst, wCons, wNil, wCall, sIf, sSeq, sSet, sNew, sNext, sPass, sApp, sExt, sDrop, sAsg, gNm, gTp, gCs, gNl, startD, DS.put, wF, isaD, eqD, inSq, isNm] at * <;> exact k)⟩
end
end K01

set_option Elab.async false
set_option linter.all false
set_option maxRecDepth 100000
set_option maxHeartbeats 4000000
namespace K01
open PySem PySem.Spec PyProof.Rows L2 Q
section
variable {P : Program} {w : World} {K : PySem.W.Frag} {mg : Str → Option Value} {base : Heap} {f : Addr} {fd : FuncData}
def isTh (d : D) : Bool := isInt d || isNm d
-- is_thing: slots 0 thing
abbrev s_is_thing : Stmt := (top 14)
abbrev N_sc_is_thing : List Str := ["thing"]
theorem sc_is_thing : FnScope N_sc_is_thing ["thing"] (defScope s_is_thing) := ⟨rfl, rfl, rfl, by decide +kernel, rfl, by decide +kernel, by decide +kernel⟩
theorem ok_is_thing (F : FnP K "is_thing" "is_thing" s_is_thing f fd) (T : Tx K mg) (C_is_integer : Cal P w K mg base "is_integer" 1 ["thing"] (spD K (wF tame1 fun ds => .bl (isInt (ds.headD .non))))) (C_is_name : Cal P w K mg base "is_name" 1 ["thing"] (spD K (wF tame1 fun ds => .bl (isNm (ds.headD .non))))) :
    FnOk P w K mg base CX0 2 f fd ["thing"] (spD K (wF tame1 fun ds => .bl (isTh (ds.headD .non)))) :=
  FnD F sc_is_thing (fun ds Kk h => by obtain ⟨⟨x, rfl, _⟩, _⟩ := h; rfl) fun cdv A outer s H Fz E hr => ⟨_, 
(ds_one (ds_ret (de_or (de_call C_is_integer hr (da_cons (de_v (i := 0)) da_nil)) (de_one (de_call C_is_name hr (da_cons (de_v (i := 0)) da_nil))))))
  , fun ds Kk h => by
    obtain ⟨⟨x, rfl, hx⟩, k⟩ := h
    cases h1 : isInt x <;> simp [sRet, wAndV, wOrV, wNotV, wUn, wOp, wV, wB, wO, wC, wIfE, wTest, wTruth, wBand, wBor, wBnot, wChain, wSl, wPart, wTup, wLst, wCons, wNil, wCall, sIf, sSeq, sSet, sNew, sNext, sPass, sApp, sExt, sDrop, sAsg, gNm, gTp, gCs, gNl, startD, DS.put, wF, isaD, eqD, inSq, isTh, h1, hx] at k ⊢ <;> exact k⟩
def strLt (z : Str) : Bool := decide (1 ≤ z.length) && decide (z.length ≤ 4) && decide (z.cps.toList.headD 0 ∈ ("ABCDEFGHIJKLMNOPQRSTUVWXYZ" : Str).cps.toList) && !decide ((z.cps.toList.drop 1).take 1 = [48]) &&
  (z.cps.toList.drop 1).all fun c => decide (c ∈ ("0123456789" : Str).cps.toList)
def isLt : D → Bool
  | .str z => strLt z
  | _ => false
theorem cut_tail (a : Nat) (r : List Nat) : cutS ⟨⟨a :: r⟩⟩ (some 1) none = ⟨⟨r⟩⟩ := by
  simp [cutS, HT.sIx, Str.length]
theorem cut_one (a : Nat) (r : List Nat) : cutS ⟨⟨a :: r⟩⟩ (some 1) (some 2) = ⟨⟨r.take 1⟩⟩ := by
  cases r <;> simp [cutS, HT.sIx, Str.length]
-- is_letter: slots 0 thing, 1 sign
abbrev s_is_letter : Stmt := (top 15)
abbrev N_sc_is_letter : List Str := ["thing", "sign"]
theorem sc_is_letter : FnScope N_sc_is_letter ["thing"] (defScope s_is_letter) := ⟨rfl, rfl, rfl, by decide +kernel, rfl, by decide +kernel, by decide +kernel⟩
theorem ok_is_letter (F : FnP K "is_letter" "is_letter" s_is_letter f fd) (T : Tx K mg) : FnOk P w K mg base CX0 1 f fd ["thing"] (spD K (wF tame1 fun ds => .bl (isLt (ds.headD .non)))) :=
  FnD F sc_is_letter (fun ds Kk h => by obtain ⟨⟨x, rfl, _⟩, _⟩ := h; rfl) fun cdv A outer s H Fz E hr => ⟨_, 
(ds_cons (ds_if (DW.dt (dw_or (dt_not (dt_truth (de_is1 T.b_isinstance (TyN.mk (t := .str) (by rfl) T.b_str (by decide +kernel) (by decide) (by decide)) (de_v (i := 0))))) (dw_or1 (dt_not (dt_chain c_le c_le de_int (de_len T.b_len (de_v (i := 0))) (de_g T.g_LONGEST_LETTER)))))) (ds_one (ds_ret de_bl)) ds_nil)
 (ds_cons (ds_if (DW.dt (dw_or (dt_cm (c_ni hr) (de_ixA (de_v (i := 0)) de_int) (de_g T.g_CAPITALS)) (dw_or1 (dt_cm (c_eq hr) (de_sl (de_v (i := 0)) (dp_at de_int) (dp_at de_int)) de_str)))) (ds_one (ds_ret de_bl)) ds_nil)
 (ds_one (ds_ret (de_all T.b_all (FE.de (fe_lc (own := [("sign", 1)]) sc_is_letter.nd (di_seq (de_sl (de_v (i := 0)) (dp_at de_int) dp_no)) (blkOk_by (own := [("sign", 1)]) (N := N_sc_is_letter) (sc := defScope s_is_letter) (by decide +kernel)) (fun _ _ _ _ _ => (dg_name (i := 1) sc_is_letter.nd)) (fun _ _ _ _ _ => dts_nil) (fun _ _ _ _ _ => (de_cm (c_in hr) (de_v (i := 1)) (de_g T.g_FIGURES))))))))))
  , fun ds Kk h => by
    obtain ⟨⟨x, rfl, hx⟩, k⟩ := h
    cases x
    case str z =>
      obtain ⟨⟨l⟩⟩ := z
      have hx : l.length ≤ 100000 := by simpa [tame, Str.length] using hx
      cases l with
      | nil => simp [sRet, wAndV, wOrV, wNotV, wUn, wOp, wV, wB, wO, wC, wIfE, wTest, wTruth, wBand, wBor, wBnot, wChain, wSl, wPart, wTup, wLst, wCons, wNil, wCall, sIf, sSeq, sSet, sNew, sNext, sPass, sApp, sExt, sDrop, sAsg, gNm, gTp, gCs, gNl, startD, DS.put, wF, isaD, eqD, inSq, isLt, strLt, Str.length] at *; exact k
      | cons a r =>
        have hx : r.length ≤ 99999 := by simpa using hx
        by_cases h1 : r.length ≤ 3
        · have hx2 : (r.length : Int) + 1 ≤ 4 := by omega
          have hx3 : (1 : Int) ≤ r.length + 1 := by omega
          have hx4 : r.length + 1 ≤ 100000 := by omega
          by_cases h2 : a ∈ ("ABCDEFGHIJKLMNOPQRSTUVWXYZ" : Str).cps
          · have ez : ("0" : Str) = ⟨⟨[48]⟩⟩ := by decide +kernel
            have e0 : (⟨⟨r.take 1⟩⟩ : Str) = "0" ↔ r.take 1 = [48] := by rw [ez]; simp
            by_cases h3 : r.take 1 = [48]
            · have hb : isLt (.str ⟨⟨a :: r⟩⟩) = false := by simp [isLt, strLt, h3]
              have k : Kk (.bl (isLt (.str ⟨⟨a :: r⟩⟩))) := k
              rw [hb] at k
              simp [sRet, wAndV, wOrV, wNotV, wUn, wOp, wV, wB, wO, wC, wIfE, wTest, wTruth, wBand, wBor, wBnot, wChain, wSl, wPart, wTup, wLst, wCons, wNil, wCall, sIf, sSeq, sSet, sNew, sNext, sPass, sApp, sExt, sDrop, sAsg, gNm, gTp, gCs, gNl, startD, DS.put, wF, isaD, eqD, inSq, Str.length, ixN, Q.signs, hx, hx2, hx3, hx4, h1, h2, h3, cut_one, e0, xr]
              exact .inr ⟨ez.symm, k⟩
            · simp [sRet, wAndV, wOrV, wNotV, wUn, wOp, wV, wB, wO, wC, wIfE, wTest, wTruth, wBand, wBor, wBnot, wChain, wSl, wPart, wTup, wLst, wCons, wNil, wCall, sIf, sSeq, sSet, sNew, sNext, sPass, sApp, sExt, sDrop, sAsg, gNm, gTp, gCs, gNl, startD, DS.put, wF, isaD, eqD, inSq, isLt, strLt, Str.length, ixN, Q.signs, hx, hx2, hx3, hx4, h1, h2, h3, cut_one, e0, xr] at k ⊢
              refine wLc_m (α := Nat) (h := fun c => .str ⟨#[c]⟩) (xs := r) (f := fun c => .bl (decide (c ∈ ("0123456789" : Str).cps.toList))) (x := none) (fun K k => ?_) (by omega) rfl (fun _ h => by cases h) (fun c _ K k => ⟨_, rfl, _, rfl, k⟩) _ ?_
              · refine ⟨_, rfl, _, rfl, rfl, .str ⟨⟨r⟩⟩, ?_, Q.signs ⟨⟨r⟩⟩, rfl, k⟩
                rw [sl_txt, cut_tail]
                simp [Str.length, hx4]
              rw [all_map]
              refine ⟨_, rfl, ?_⟩
              simpa using k
          · simp [sRet, wAndV, wOrV, wNotV, wUn, wOp, wV, wB, wO, wC, wIfE, wTest, wTruth, wBand, wBor, wBnot, wChain, wSl, wPart, wTup, wLst, wCons, wNil, wCall, sIf, sSeq, sSet, sNew, sNext, sPass, sApp, sExt, sDrop, sAsg, gNm, gTp, gCs, gNl, startD, DS.put, wF, isaD, eqD, inSq, isLt, strLt, Str.length, ixN, Q.signs, hx, hx2, hx3, h1, h2] at k ⊢
            exact k
        · have hx2 : ¬ (r.length : Int) + 1 ≤ 4 := by omega
          have hx3 : (1 : Int) ≤ r.length + 1 := by omega
          simp [sRet, wAndV, wOrV, wNotV, wUn, wOp, wV, wB, wO, wC, wIfE, wTest, wTruth, wBand, wBor, wBnot, wChain, wSl, wPart, wTup, wLst, wCons, wNil, wCall, sIf, sSeq, sSet, sNew, sNext, sPass, sApp, sExt, sDrop, sAsg, gNm, gTp, gCs, gNl, startD, DS.put, wF, isaD, eqD, inSq, isLt, strLt, Str.length, hx, hx2, hx3, h1] at k ⊢
          exact k
    all_goals (simp [sRet, wAndV, wOrV, wNotV, wUn, wOp, wV, wB, wO, wC, wIfE, wTest, wTruth, wBand, wBor, wBnot, wChain, wSl, wPart, wTup, wLst, wCons, wNil, wCall, sIf, sSeq, sSet, sNew, sNext, sPass, sApp, sExt, sDrop, sAsg, gNm, gTp, gCs, gNl, startD, DS.put, wF, isaD, eqD, inSq, isLt] at * <;> exact k)⟩
end
end K01

set_option Elab.async false
set_option linter.all false
set_option maxRecDepth 100000
set_option maxHeartbeats 4000000
namespace K01
open PySem PySem.Spec PyProof.Rows L2 Q
mutual
/-- of moderate size throughout, no objects in it -/
def tmB : D → Bool
  | .str z => decide (z.length ≤ 100000)
  | .lst xs => decide (xs.length ≤ 100000) && tmBs xs
  | .tup xs => decide (xs.length ≤ 100000) && tmBs xs
  | .ins _ _ _ => false
  | .raw _ => false
  | .non => true
  | .bl _ => true
  | .int _ => true
  | .dct _ _ => true
  | .dtt _ _ => false
  | .dmx _ _ _ => false
def tmBs : List D → Bool
  | [] => true
  | x :: xs => tmB x && tmBs xs
end
@[simp] theorem tmBs_nil : tmBs [] = true := by simp only [tmBs]
@[simp] theorem tmBs_cons (x : D) (xs : List D) : tmBs (x :: xs) = (tmB x && tmBs xs) := by simp only [tmBs]
@[simp] theorem tmB_lst (xs : List D) : tmB (.lst xs) = (decide (xs.length ≤ 100000) && tmBs xs) := by simp only [tmB]
@[simp] theorem tmB_tup (xs : List D) : tmB (.tup xs) = (decide (xs.length ≤ 100000) && tmBs xs) := by simp only [tmB]
@[simp] theorem tmB_str (z : Str) : tmB (.str z) = decide (z.length ≤ 100000) := by simp only [tmB]
@[simp] theorem tmB_non : tmB .non = true := by simp only [tmB]
@[simp] theorem tmB_bl (b : Bool) : tmB (.bl b) = true := by simp only [tmB]
@[simp] theorem tmB_int (i : Int) : tmB (.int i) = true := by simp only [tmB]
@[simp] theorem tmB_dct (k v : List D) : tmB (.dct k v) = true := by simp only [tmB]
@[simp] theorem tmB_dtt (k v : List D) : tmB (.dtt k v) = false := by simp only [tmB]
@[simp] theorem tmB_dmx (w : World) (k v : List D) : tmB (.dmx w k v) = false := by simp only [tmB]
@[simp] theorem tmB_ins (a : Addr) (k : List Str) (v : List D) : tmB (.ins a k v) = false := by simp only [tmB]
@[simp] theorem tmB_raw (v : V) : tmB (.raw v) = false := by simp only [tmB]
theorem tmBs_iff : ∀ {xs : List D}, tmBs xs = true ↔ ∀ x ∈ xs, tmB x = true
  | [] => by simp
  | x :: xs => by simp [tmBs_iff (xs := xs)]
theorem tmB.tame {d : D} (h : tmB d = true) : tame d := by
  cases d <;> simp at h ⊢ <;> exact h
def tmd1 : List D → Prop := fun ds => ∃ x, ds = [x] ∧ tmB x = true
@[simp] theorem tmd1_one (x : D) : tmd1 [x] = (tmB x = true) := by
  apply propext
  constructor
  · rintro ⟨y, e, h⟩
    cases e
    exact h
  · exact fun h => ⟨x, rfl, h⟩
section
variable {P : Program} {w : World} {K : PySem.W.Frag} {mg : Str → Option Value} {base : Heap} {f : Addr} {fd : FuncData}
def isTm (d : D) : Bool := isTh d || isLt d
-- is_term: slots 0 thing
abbrev s_is_term : Stmt := (top 16)
abbrev N_sc_is_term : List Str := ["thing"]
theorem sc_is_term : FnScope N_sc_is_term ["thing"] (defScope s_is_term) := ⟨rfl, rfl, rfl, by decide +kernel, rfl, by decide +kernel, by decide +kernel⟩
theorem ok_is_term (F : FnP K "is_term" "is_term" s_is_term f fd) (T : Tx K mg) (C_is_thing : Cal P w K mg base "is_thing" 2 ["thing"] (spD K (wF tame1 fun ds => .bl (isTh (ds.headD .non))))) (C_is_letter : Cal P w K mg base "is_letter" 1 ["thing"] (spD K (wF tame1 fun ds => .bl (isLt (ds.headD .non))))) :
    FnOk P w K mg base CX0 3 f fd ["thing"] (spD K (wF tame1 fun ds => .bl (isTm (ds.headD .non)))) :=
  FnD F sc_is_term (fun ds Kk h => by obtain ⟨⟨x, rfl, _⟩, _⟩ := h; rfl) fun cdv A outer s H Fz E hr => ⟨_, 
(ds_one (ds_ret (de_or (de_call C_is_thing hr (da_cons (de_v (i := 0)) da_nil)) (de_one (de_call C_is_letter hr (da_cons (de_v (i := 0)) da_nil))))))
  , fun ds Kk h => by
    obtain ⟨⟨x, rfl, hx⟩, k⟩ := h
    cases h1 : isTh x <;> simp [sRet, wAndV, wOrV, wNotV, wUn, wOp, wV, wB, wO, wC, wIfE, wTest, wTruth, wBand, wBor, wBnot, wChain, wSl, wPart, wTup, wLst, wCons, wNil, wCall, sIf, sSeq, sSet, sNew, sNext, sPass, sApp, sExt, sDrop, sAsg, gNm, gTp, gCs, gNl, startD, DS.put, wF, isaD, eqD, inSq, isTm, h1, hx] at k ⊢ <;> exact k⟩
def rowB (xs : List D) : Bool := decide (1 ≤ xs.length) && decide (xs.length ≤ 7) && isNm (xs.headD .non)
def sqOf : D → Option (List D)
  | .lst xs => some xs
  | .tup xs => some xs
  | _ => none
@[simp] theorem sqOf_lst (xs : List D) : sqOf (.lst xs) = some xs := rfl
@[simp] theorem sqOf_tup (xs : List D) : sqOf (.tup xs) = some xs := rfl
@[simp] theorem sqOf_non : sqOf .non = none := rfl
@[simp] theorem sqOf_bl (b : Bool) : sqOf (.bl b) = none := rfl
@[simp] theorem sqOf_int (i : Int) : sqOf (.int i) = none := rfl
@[simp] theorem sqOf_str (z : Str) : sqOf (.str z) = none := rfl
@[simp] theorem sqOf_dct (k v : List D) : sqOf (.dct k v) = none := rfl
@[simp] theorem sqOf_dtt (k v : List D) : sqOf (.dtt k v) = none := rfl
@[simp] theorem sqOf_dmx (w : World) (k v : List D) : sqOf (.dmx w k v) = none := rfl
def isRow (d : D) : Bool := match sqOf d with
  | some xs => rowB xs
  | none => false
-- _is_row: slots 0 thing
abbrev s_is_row : Stmt := (top 19)
abbrev N_sc_is_row : List Str := ["thing"]
theorem sc_is_row : FnScope N_sc_is_row ["thing"] (defScope s_is_row) := ⟨rfl, rfl, rfl, by decide +kernel, rfl, by decide +kernel, by decide +kernel⟩
theorem ok_is_row (F : FnP K "_is_row" "_is_row" s_is_row f fd) (T : Tx K mg) (C_is_name : Cal P w K mg base "is_name" 1 ["thing"] (spD K (wF tame1 fun ds => .bl (isNm (ds.headD .non))))) :
    FnOk P w K mg base CX0 2 f fd ["thing"] (spD K (wF tmd1 fun ds => .bl (isRow (ds.headD .non)))) :=
  FnD F sc_is_row (fun ds Kk h => by obtain ⟨⟨x, rfl, _⟩, _⟩ := h; rfl) fun cdv A outer s H Fz E hr => ⟨_, 
(ds_cons (ds_if (DW.dt (dw_or (dt_not (dt_truth (de_isN T.b_isinstance (tns_cons (TyN.mk (t := .list) (by rfl) T.b_list (by decide +kernel) (by decide) (by decide)) (tns_cons (TyN.mk (t := .tuple) (by rfl) T.b_tuple (by decide +kernel) (by decide) (by decide)) tns_nil)) (de_v (i := 0))))) (dw_or1 (dt_not (dt_chain c_le c_le de_int (de_len T.b_len (de_v (i := 0))) (de_add (de_g T.g_MOST_TERMS) de_int)))))) (ds_one (ds_ret de_bl)) ds_nil)
 (ds_one (ds_ret (de_call C_is_name hr (da_cons (de_ixA (de_v (i := 0)) de_int) da_nil)))))
  , fun ds Kk h => by
    obtain ⟨⟨x, rfl, hx⟩, k⟩ := h
    cases x
    case' lst xs => have hx : tmBs xs = true := by simp at hx; exact hx.2
    case' tup xs => have hx : tmBs xs = true := by simp at hx; exact hx.2
    case lst | tup =>
      cases xs with
      | nil => simp [sRet, wAndV, wOrV, wNotV, wUn, wOp, wV, wB, wO, wC, wIfE, wTest, wTruth, wBand, wBor, wBnot, wChain, wSl, wPart, wTup, wLst, wCons, wNil, wCall, sIf, sSeq, sSet, sNew, sNext, sPass, sApp, sExt, sDrop, sAsg, gNm, gTp, gCs, gNl, startD, DS.put, wF, isaD, eqD, inSq, isRow, rowB] at *; exact k
      | cons a r =>
        have ha : tame a := by simp at hx; exact tmB.tame hx.1
        by_cases h1 : r.length ≤ 6
        · have h2 : (r.length : Int) + 1 ≤ 7 := by omega
          have h3 : (1 : Int) ≤ r.length + 1 := by omega
          simp [sRet, wAndV, wOrV, wNotV, wUn, wOp, wV, wB, wO, wC, wIfE, wTest, wTruth, wBand, wBor, wBnot, wChain, wSl, wPart, wTup, wLst, wCons, wNil, wCall, sIf, sSeq, sSet, sNew, sNext, sPass, sApp, sExt, sDrop, sAsg, gNm, gTp, gCs, gNl, startD, DS.put, wF, isaD, eqD, inSq, isRow, rowB, ixN, h1, h2, h3, ha] at k ⊢
          exact k
        · have h2 : ¬ (r.length : Int) + 1 ≤ 7 := by omega
          have h3 : (1 : Int) ≤ r.length + 1 := by omega
          simp [sRet, wAndV, wOrV, wNotV, wUn, wOp, wV, wB, wO, wC, wIfE, wTest, wTruth, wBand, wBor, wBnot, wChain, wSl, wPart, wTup, wLst, wCons, wNil, wCall, sIf, sSeq, sSet, sNew, sNext, sPass, sApp, sExt, sDrop, sAsg, gNm, gTp, gCs, gNl, startD, DS.put, wF, isaD, eqD, inSq, isRow, rowB, ixN, h1, h2, h3, ha] at k ⊢
          exact k
    all_goals (simp [sRet, wAndV, wOrV, wNotV, wUn, wOp, wV, wB, wO, wC, wIfE, wTest, wTruth, wBand, wBor, wBnot, wChain, wSl, wPart, wTup, wLst, wCons, wNil, wCall, sIf, sSeq, sSet, sNew, sNext, sPass, sApp, sExt, sDrop, sAsg, gNm, gTp, gCs, gNl, startD, DS.put, wF, isaD, eqD, inSq, isRow] at * <;> exact k)⟩
def asAtom (d : D) : D := match sqOf d with
  | some xs => if rowB xs && xs.tail.all isTm then .tup xs else .non
  | none => .non
theorem cut_tl (a : D) (r : List D) : Q.cutD (a :: r) (some 1) none = r := by simp [Q.cutD, HT.sIx]
theorem cut_nil : Q.cutD [] (some 1) none = [] := by simp [Q.cutD, HT.sIx]
-- as_atom: slots 0 thing, 1 term
abbrev s_as_atom : Stmt := (top 20)
abbrev N_sc_as_atom : List Str := ["thing", "term"]
theorem sc_as_atom : FnScope N_sc_as_atom ["thing"] (defScope s_as_atom) := ⟨rfl, rfl, rfl, by decide +kernel, rfl, by decide +kernel, by decide +kernel⟩
theorem ok_as_atom (F : FnP K "as_atom" "as_atom" s_as_atom f fd) (T : Tx K mg) (C__is_row : Cal P w K mg base "_is_row" 2 ["thing"] (spD K (wF tmd1 fun ds => .bl (isRow (ds.headD .non))))) (C_is_term : Cal P w K mg base "is_term" 3 ["thing"] (spD K (wF tame1 fun ds => .bl (isTm (ds.headD .non))))) :
    FnOk P w K mg base CX0 4 f fd ["thing"] (spD K (wF tmd1 fun ds => asAtom (ds.headD .non))) :=
  FnD F sc_as_atom (fun ds Kk h => by obtain ⟨⟨x, rfl, _⟩, _⟩ := h; rfl) fun cdv A outer s H Fz E hr => ⟨_, 
(ds_cons (ds_if (DW.dt (dw_or (dt_not (dt_truth (de_call C__is_row hr (da_cons (de_v (i := 0)) da_nil)))) (dw_or1 (dt_not (dt_truth (de_all T.b_all (FE.de (fe_lc (own := [("term", 1)]) sc_as_atom.nd (di_seq (de_sl (de_v (i := 0)) (dp_at de_int) dp_no)) (blkOk_by (own := [("term", 1)]) (N := N_sc_as_atom) (sc := defScope s_as_atom) (by decide +kernel)) (fun _ _ _ _ _ => (dg_name (i := 1) sc_as_atom.nd)) (fun _ _ _ _ _ => dts_nil) (fun _ _ _ _ _ => (de_call C_is_term hr (da_cons (de_v (i := 1)) da_nil))))))))))) (ds_one (ds_ret de_non)) ds_nil)
 (ds_one (ds_ret (de_tuple T.b_tuple (de_v (i := 0))))))
  , fun ds Kk h => by
    obtain ⟨⟨x, rfl, hx⟩, k⟩ := h
    have hx0 := hx
    cases x
    case' lst xs => have hx : tmBs xs = true := by simp at hx; exact hx.2
    case' tup xs => have hx : tmBs xs = true := by simp at hx; exact hx.2
    case lst | tup =>
      by_cases hb : rowB xs = true
      · have hl : xs ≠ [] := by
          rintro rfl
          simp [rowB] at hb
        obtain ⟨a, r, rfl⟩ := List.exists_cons_of_ne_nil hl
        have hr7 : r.length ≤ 6 := by simp [rowB] at hb; omega
        have hr' : ∀ t ∈ r, tame t := fun t ht => by simp at hx; exact tmB.tame (tmBs_iff.mp hx.2 t ht)
        simp [sRet, wAndV, wOrV, wNotV, wUn, wOp, wV, wB, wO, wC, wIfE, wTest, wTruth, wBand, wBor, wBnot, wChain, wSl, wPart, wTup, wLst, wCons, wNil, wCall, sIf, sSeq, sSet, sNew, sNext, sPass, sApp, sExt, sDrop, sAsg, gNm, gTp, gCs, gNl, startD, DS.put, wF, isaD, eqD, inSq, isRow, hb, hx0, -tmB_lst, -tmB_tup]
        refine wLc_m (α := D) (h := id) (xs := r) (f := fun t => .bl (isTm t)) (x := none) (fun K k => ⟨_, rfl, _, rfl, rfl, _, rfl, r, congrArg some (cut_tl a r), by simpa using k⟩) (by omega) rfl (fun _ h => by cases h) (fun t ht K k => ⟨_, rfl, (by simp; exact hr' t ht), k⟩) _ ?_
        rw [all_map]
        refine ⟨_, rfl, ?_⟩
        cases ht : r.all isTm with
        | true =>
          simp [asAtom, hb, ht] at k ⊢
          exact k
        | false =>
          simp [asAtom, hb, ht] at k ⊢
          exact k
      · simp at hb
        simp [sRet, wAndV, wOrV, wNotV, wUn, wOp, wV, wB, wO, wC, wIfE, wTest, wTruth, wBand, wBor, wBnot, wChain, wSl, wPart, wTup, wLst, wCons, wNil, wCall, sIf, sSeq, sSet, sNew, sNext, sPass, sApp, sExt, sDrop, sAsg, gNm, gTp, gCs, gNl, startD, DS.put, wF, isaD, eqD, inSq, isRow, asAtom, hb, hx0, -tmB_lst, -tmB_tup] at k ⊢
        exact k
    all_goals (simp [sRet, wAndV, wOrV, wNotV, wUn, wOp, wV, wB, wO, wC, wIfE, wTest, wTruth, wBand, wBor, wBnot, wChain, wSl, wPart, wTup, wLst, wCons, wNil, wCall, sIf, sSeq, sSet, sNew, sNext, sPass, sApp, sExt, sDrop, sAsg, gNm, gTp, gCs, gNl, startD, DS.put, wF, isaD, eqD, inSq, isRow, asAtom] at * <;> first | exact k | exact ⟨hx, k⟩)⟩
end
end K01

set_option Elab.async false
set_option linter.all false
set_option maxRecDepth 100000
set_option maxHeartbeats 4000000
namespace K01
open PySem PySem.Spec PyProof.Rows L2 Q
section
variable {P : Program} {w : World} {K : PySem.W.Frag} {mg : Str → Option Value} {base : Heap} {f : Addr} {fd : FuncData}
/-! parts -/
def asNot (xs : List D) : D := if xs.length = 2 then (match asAtom (xs.getD 1 .non) with | .non => .non | a => .tup [.str "not", a]) else .non
def tms2 : List D → Prop := fun ds => ∃ x xs, ds = [x] ∧ sqOf x = some xs ∧ tmB x = true
theorem tms2_one (x : D) {xs : List D} (h : sqOf x = some xs) (t : tmB x = true) : tms2 [x] := ⟨x, xs, rfl, h, t⟩
theorem sq_cases {x : D} {xs : List D} (h : sqOf x = some xs) : x = .lst xs ∨ x = .tup xs := by
  cases x <;> first | (cases h; exact .inl rfl) | (cases h; exact .inr rfl) | cases h
theorem sq_tms {x : D} {xs : List D} (h : sqOf x = some xs) (t : tmB x = true) : tmBs xs = true := by
  rcases sq_cases h with rfl | rfl
  · simp at t; exact t.2
  · simp at t; exact t.2
theorem asAtom_cases (d : D) : asAtom d = .non ∨ ∃ xs, sqOf d = some xs ∧ rowB xs = true ∧ xs.tail.all isTm = true ∧ asAtom d = .tup xs := by
  unfold asAtom
  cases h : sqOf d with
  | none => exact .inl rfl
  | some xs =>
    by_cases q : (rowB xs && xs.tail.all isTm) = true
    · right
      refine ⟨xs, rfl, ?_, ?_, by simp [q]⟩
      · simp at q; exact q.1
      · rw [Bool.and_eq_true] at q; exact q.2
    · left
      simp only [q]
      rfl
-- _as_not: slots 0 thing, 1 atom
abbrev s_as_not : Stmt := (top 22)
abbrev N_sc_as_not : List Str := ["thing", "atom"]
theorem sc_as_not : FnScope N_sc_as_not ["thing"] (defScope s_as_not) := ⟨rfl, rfl, rfl, by decide +kernel, rfl, by decide +kernel, by decide +kernel⟩
theorem ok_as_not (F : FnP K "_as_not" "_as_not" s_as_not f fd) (T : Tx K mg) (C_as_atom : Cal P w K mg base "as_atom" 4 ["thing"] (spD K (wF tmd1 fun ds => asAtom (ds.headD .non)))) :
    FnOk P w K mg base CX0 5 f fd ["thing"] (spD K (wF tms2 fun ds => asNot ((sqOf (ds.headD .non)).getD []))) :=
  FnD F sc_as_not (fun ds Kk h => by obtain ⟨⟨x, xs, rfl, _⟩, _⟩ := h; rfl) fun cdv A outer s H Fz E hr => ⟨_, 
(ds_cons (ds_if (dt_cm (c_ne hr) (de_len T.b_len (de_v (i := 0))) de_int) (ds_one (ds_ret de_non)) ds_nil)
 (ds_cons (ds_set (i := 1) sc_as_not.nd (de_call C_as_atom hr (da_cons (de_ixA (de_v (i := 0)) de_int) da_nil)))
 (ds_cons (ds_if (dt_cm c_is (de_v (i := 1)) de_non) (ds_one (ds_ret de_non)) ds_nil)
 (ds_one (ds_ret (de_tup (da_cons de_str (da_cons (de_v (i := 1)) da_nil))))))))
  , fun ds Kk h => by
    obtain ⟨⟨x, xs, rfl, hs, hx⟩, k⟩ := h
    have hx' : tmBs xs = true := sq_tms hs hx
    by_cases h2 : xs.length = 2
    · match xs, h2 with
      | [a, b], _ =>
        have hb : tmB b = true := by simp at hx'; exact hx'.2
        rcases sq_cases hs with rfl | rfl <;>
        · simp [sRet, wAndV, wOrV, wNotV, wUn, wOp, wV, wB, wO, wC, wIfE, wTest, wTruth, wBand, wBor, wBnot, wChain, wSl, wPart, wTup, wLst, wCons, wNil, wCall, sIf, sSeq, sSet, sNew, sNext, sPass, sApp, sExt, sDrop, sAsg, gNm, gTp, gCs, gNl, startD, DS.put, wF, isaD, eqD, inSq, ixN, hb, asNot] at k ⊢
          rcases asAtom_cases b with h | ⟨xs, _, _, _, h⟩
          · rw [h] at k ⊢
            simp [xr] at k ⊢
            exact k
          · rw [h] at k ⊢
            simp [xr] at k ⊢
            exact k
    · have h3 : ¬ (xs.length : Int) = 2 := by omega
      rcases sq_cases hs with rfl | rfl <;>
      · simp [sRet, wAndV, wOrV, wNotV, wUn, wOp, wV, wB, wO, wC, wIfE, wTest, wTruth, wBand, wBor, wBnot, wChain, wSl, wPart, wTup, wLst, wCons, wNil, wCall, sIf, sSeq, sSet, sNew, sNext, sPass, sApp, sExt, sDrop, sAsg, gNm, gTp, gCs, gNl, startD, DS.put, wF, isaD, eqD, inSq, h2, h3, asNot, xr] at k ⊢
        exact k⟩
def asUnl (xs : List D) : D := if xs.length = 3 ∧ isTm (xs.getD 1 .non) = true ∧ isTm (xs.getD 2 .non) = true then .tup xs else .non
-- _as_unlike: slots 0 thing
abbrev s_as_unlike : Stmt := (top 23)
abbrev N_sc_as_unlike : List Str := ["thing"]
theorem sc_as_unlike : FnScope N_sc_as_unlike ["thing"] (defScope s_as_unlike) := ⟨rfl, rfl, rfl, by decide +kernel, rfl, by decide +kernel, by decide +kernel⟩
theorem ok_as_unlike (F : FnP K "_as_unlike" "_as_unlike" s_as_unlike f fd) (T : Tx K mg) (C_is_term : Cal P w K mg base "is_term" 3 ["thing"] (spD K (wF tame1 fun ds => .bl (isTm (ds.headD .non))))) :
    FnOk P w K mg base CX0 4 f fd ["thing"] (spD K (wF tms2 fun ds => asUnl ((sqOf (ds.headD .non)).getD []))) :=
  FnD F sc_as_unlike (fun ds Kk h => by obtain ⟨⟨x, xs, rfl, _⟩, _⟩ := h; rfl) fun cdv A outer s H Fz E hr => ⟨_, 
(ds_cons (ds_if (DW.dt (dw_or (dt_cm (c_ne hr) (de_len T.b_len (de_v (i := 0))) de_int) (dw_or (dt_not (dt_truth (de_call C_is_term hr (da_cons (de_ixA (de_v (i := 0)) de_int) da_nil)))) (dw_or1 (dt_not (dt_truth (de_call C_is_term hr (da_cons (de_ixA (de_v (i := 0)) de_int) da_nil)))))))) (ds_one (ds_ret de_non)) ds_nil)
 (ds_one (ds_ret (de_tuple T.b_tuple (de_v (i := 0))))))
  , fun ds Kk h => by
    obtain ⟨⟨x, xs, rfl, hs, hx⟩, k⟩ := h
    have hx' : tmBs xs = true := sq_tms hs hx
    by_cases h2 : xs.length = 3
    · match xs, h2 with
      | [a, b, c], _ =>
        have hb : tame b := by simp at hx'; exact tmB.tame hx'.2.1
        have hc : tame c := by simp at hx'; exact tmB.tame hx'.2.2
        rcases sq_cases hs with rfl | rfl <;>
        · cases h1 : isTm b <;> cases h2 : isTm c <;>
          · simp [sRet, wAndV, wOrV, wNotV, wUn, wOp, wV, wB, wO, wC, wIfE, wTest, wTruth, wBand, wBor, wBnot, wChain, wSl, wPart, wTup, wLst, wCons, wNil, wCall, sIf, sSeq, sSet, sNew, sNext, sPass, sApp, sExt, sDrop, sAsg, gNm, gTp, gCs, gNl, startD, DS.put, wF, isaD, eqD, inSq, ixN, hb, hc, asUnl, h1, h2, xr] at k ⊢
            exact k
    · have h3 : ¬ (xs.length : Int) = 3 := by omega
      rcases sq_cases hs with rfl | rfl <;>
      · simp [sRet, wAndV, wOrV, wNotV, wUn, wOp, wV, wB, wO, wC, wIfE, wTest, wTruth, wBand, wBor, wBnot, wChain, wSl, wPart, wTup, wLst, wCons, wNil, wCall, sIf, sSeq, sSet, sNew, sNext, sPass, sApp, sExt, sDrop, sAsg, gNm, gTp, gCs, gNl, startD, DS.put, wF, isaD, eqD, inSq, h2, h3, asUnl, xr] at k ⊢
        exact k⟩
def asPart (d : D) : D := match sqOf d with
  | some (.str z :: r) => if z = "not" then asNot (.str z :: r) else if z = "unlike" then asUnl (.str z :: r) else asAtom d
  | _ => .non
-- as_part: slots 0 thing
abbrev s_as_part : Stmt := (top 24)
abbrev N_sc_as_part : List Str := ["thing"]
theorem sc_as_part : FnScope N_sc_as_part ["thing"] (defScope s_as_part) := ⟨rfl, rfl, rfl, by decide +kernel, rfl, by decide +kernel, by decide +kernel⟩
theorem ok_as_part (F : FnP K "as_part" "as_part" s_as_part f fd) (T : Tx K mg) (C_as_atom : Cal P w K mg base "as_atom" 4 ["thing"] (spD K (wF tmd1 fun ds => asAtom (ds.headD .non))))
    (C__as_not : Cal P w K mg base "_as_not" 5 ["thing"] (spD K (wF tms2 fun ds => asNot ((sqOf (ds.headD .non)).getD [])))) (C__as_unlike : Cal P w K mg base "_as_unlike" 4 ["thing"] (spD K (wF tms2 fun ds => asUnl ((sqOf (ds.headD .non)).getD [])))) :
    FnOk P w K mg base CX0 6 f fd ["thing"] (spD K (wF tmd1 fun ds => asPart (ds.headD .non))) :=
  FnD F sc_as_part (fun ds Kk h => by obtain ⟨⟨x, rfl, _⟩, _⟩ := h; rfl) fun cdv A outer s H Fz E hr => ⟨_, 
(ds_cons (ds_if (DW.dt (dw_or (dt_not (dt_truth (de_isN T.b_isinstance (tns_cons (TyN.mk (t := .list) (by rfl) T.b_list (by decide +kernel) (by decide) (by decide)) (tns_cons (TyN.mk (t := .tuple) (by rfl) T.b_tuple (by decide +kernel) (by decide) (by decide)) tns_nil)) (de_v (i := 0))))) (dw_or (dt_cm (c_eq hr) (de_len T.b_len (de_v (i := 0))) de_int) (dw_or1 (dt_not (dt_truth (de_is1 T.b_isinstance (TyN.mk (t := .str) (by rfl) T.b_str (by decide +kernel) (by decide) (by decide)) (de_ixA (de_v (i := 0)) de_int)))))))) (ds_one (ds_ret de_non)) ds_nil)
 (ds_cons (ds_if (dt_cm (c_eq hr) (de_ixA (de_v (i := 0)) de_int) de_str) (ds_one (ds_ret (de_call C__as_not hr (da_cons (de_v (i := 0)) da_nil)))) ds_nil)
 (ds_cons (ds_if (dt_cm (c_eq hr) (de_ixA (de_v (i := 0)) de_int) de_str) (ds_one (ds_ret (de_call C__as_unlike hr (da_cons (de_v (i := 0)) da_nil)))) ds_nil)
 (ds_one (ds_ret (de_call C_as_atom hr (da_cons (de_v (i := 0)) da_nil)))))))
  , fun ds Kk h => by
    obtain ⟨⟨x, rfl, hx⟩, k⟩ := h
    have hx0 := hx
    cases x
    case' lst xs => have hx : tmBs xs = true := by simp at hx; exact hx.2
    case' tup xs => have hx : tmBs xs = true := by simp at hx; exact hx.2
    case lst | tup =>
      cases xs with
      | nil => simp [sRet, wAndV, wOrV, wNotV, wUn, wOp, wV, wB, wO, wC, wIfE, wTest, wTruth, wBand, wBor, wBnot, wChain, wSl, wPart, wTup, wLst, wCons, wNil, wCall, sIf, sSeq, sSet, sNew, sNext, sPass, sApp, sExt, sDrop, sAsg, gNm, gTp, gCs, gNl, startD, DS.put, wF, isaD, eqD, inSq, asPart] at *; exact k
      | cons a r =>
        have hl : ¬ (r.length : Int) + 1 = 0 := by omega
        cases a with
        | str z =>
          have t2 := fun (y : D) (h : sqOf y = some (.str z :: r)) (t : tmB y = true) => tms2_one y h t
          by_cases h1 : z = "not"
          · subst h1
            simp [sRet, wAndV, wOrV, wNotV, wUn, wOp, wV, wB, wO, wC, wIfE, wTest, wTruth, wBand, wBor, wBnot, wChain, wSl, wPart, wTup, wLst, wCons, wNil, wCall, sIf, sSeq, sSet, sNew, sNext, sPass, sApp, sExt, sDrop, sAsg, gNm, gTp, gCs, gNl, startD, DS.put, wF, isaD, eqD, inSq, ixN, asPart, hl, -tmB_lst, -tmB_tup] at k ⊢
            exact ⟨t2 _ rfl hx0, k⟩
          · by_cases h2 : z = "unlike"
            · subst h2
              have hne : ("unlike" : Str) ≠ "not" := by decide +kernel
              simp [sRet, wAndV, wOrV, wNotV, wUn, wOp, wV, wB, wO, wC, wIfE, wTest, wTruth, wBand, wBor, wBnot, wChain, wSl, wPart, wTup, wLst, wCons, wNil, wCall, sIf, sSeq, sSet, sNew, sNext, sPass, sApp, sExt, sDrop, sAsg, gNm, gTp, gCs, gNl, startD, DS.put, wF, isaD, eqD, inSq, ixN, asPart, hl, hne, -tmB_lst, -tmB_tup] at k ⊢
              exact ⟨t2 _ rfl hx0, k⟩
            · simp [sRet, wAndV, wOrV, wNotV, wUn, wOp, wV, wB, wO, wC, wIfE, wTest, wTruth, wBand, wBor, wBnot, wChain, wSl, wPart, wTup, wLst, wCons, wNil, wCall, sIf, sSeq, sSet, sNew, sNext, sPass, sApp, sExt, sDrop, sAsg, gNm, gTp, gCs, gNl, startD, DS.put, wF, isaD, eqD, inSq, ixN, asPart, hl, h1, h2, hx0, -tmB_lst, -tmB_tup] at k ⊢
              exact k
        | _ => first | (exfalso; simp at hx; done) | (simp [sRet, wAndV, wOrV, wNotV, wUn, wOp, wV, wB, wO, wC, wIfE, wTest, wTruth, wBand, wBor, wBnot, wChain, wSl, wPart, wTup, wLst, wCons, wNil, wCall, sIf, sSeq, sSet, sNew, sNext, sPass, sApp, sExt, sDrop, sAsg, gNm, gTp, gCs, gNl, startD, DS.put, wF, isaD, eqD, inSq, ixN, asPart, hl] at k ⊢; exact k)
    all_goals (simp [sRet, wAndV, wOrV, wNotV, wUn, wOp, wV, wB, wO, wC, wIfE, wTest, wTruth, wBand, wBor, wBnot, wChain, wSl, wPart, wTup, wLst, wCons, wNil, wCall, sIf, sSeq, sSet, sNew, sNext, sPass, sApp, sExt, sDrop, sAsg, gNm, gTp, gCs, gNl, startD, DS.put, wF, isaD, eqD, inSq, asPart] at * <;> exact k)⟩
end
end K01

set_option Elab.async false
set_option linter.all false
set_option maxRecDepth 100000
set_option maxHeartbeats 4000000
namespace K01
open PySem PySem.Spec PyProof.Rows L2 Q
theorem isTm_dat {t : D} (h : isTm t = true) : isDat t = true ∧ dep t = 0 ∧ deq t .non = false := by
  cases t <;> simp [isTm, isTh, isInt, isNm, isLt] at h ⊢
theorem tms_dat : ∀ {ts : List D}, ts.all isTm = true → isDats ts = true ∧ deps ts = 0
  | [], _ => by simp
  | t :: ts, h => by
    rw [List.all_cons, Bool.and_eq_true] at h
    obtain ⟨h1, h2⟩ := h
    obtain ⟨i1, i2⟩ := tms_dat h2
    obtain ⟨j1, j2, _⟩ := isTm_dat h1
    simp [i1, i2, j1, j2]
theorem isTm_tmB {t : D} (h : isTm t = true) : tmB t = true := by
  cases t <;> simp [isTm, isTh, isInt, isNm, isLt, strNm, strLt] at h ⊢ <;> omega
theorem tms_tmB {ts : List D} (h : ts.all isTm = true) : tmBs ts = true := tmBs_iff.mpr fun x hx => isTm_tmB (List.all_eq_true.mp h x hx)
/-- a row that is an atom's -/
def okRow (xs : List D) : Prop := ∃ (z : Str) (ts : List D), xs = .str z :: ts ∧ strNm z = true ∧ ts.length ≤ 6 ∧ ts.all isTm = true
theorem okRow_of {xs : List D} (h1 : rowB xs = true) (h2 : xs.tail.all isTm = true) : okRow xs := by
  cases xs with
  | nil => simp [rowB] at h1
  | cons a r =>
    cases a <;> simp [rowB, isNm] at h1
    exact ⟨_, r, rfl, h1.2, h1.1, h2⟩
theorem okRow.row {xs : List D} (h : okRow xs) : rowB xs = true ∧ xs.tail.all isTm = true := by
  obtain ⟨z, ts, rfl, h1, h2, h3⟩ := h
  exact ⟨by simp [rowB, isNm, h1]; omega, h3⟩
theorem asAtom_ok {d : D} {xs : List D} (h : sqOf d = some xs) (o : okRow xs) : asAtom d = .tup xs := by
  obtain ⟨h1, h2⟩ := o.row
  simp only [asAtom, h, h1, h2]
  rfl
theorem nm_not {z : Str} (h : strNm z = true) : z ≠ "not" ∧ z ≠ "unlike" := by
  simp [strNm] at h
  exact ⟨h.1.2.1, h.1.2.2.1⟩
/-- a part, as it is told -/
def okPart (p : D) : Prop := (∃ xs, p = .tup xs ∧ okRow xs) ∨ (∃ xs, p = .tup [.str "not", .tup xs] ∧ okRow xs) ∨ ∃ a b, p = .tup [.str "unlike", a, b] ∧ isTm a = true ∧ isTm b = true
theorem asNot_cases (xs : List D) : asNot xs = .non ∨ ∃ ys, asNot xs = .tup [.str "not", .tup ys] ∧ okRow ys := by
  unfold asNot
  split
  · rcases asAtom_cases (xs.getD 1 .non) with h | ⟨ys, _, h1, h2, h⟩
    · rw [h]; exact .inl rfl
    · rw [h]; exact .inr ⟨ys, rfl, okRow_of h1 h2⟩
  · exact .inl rfl
theorem asPart_cases (d : D) : asPart d = .non ∨ okPart (asPart d) := by
  unfold asPart
  split
  · rename_i z r h
    split
    · rename_i e
      rcases asNot_cases (.str z :: r) with h | ⟨ys, h, o⟩
      · exact .inl h
      · exact .inr (.inr (.inl ⟨ys, h, o⟩))
    · split
      · rename_i e1 e2
        unfold asUnl
        split
        · rename_i q
          obtain ⟨q1, q2, q3⟩ := q
          subst e2
          match r, q1 with
          | [a, b], _ => exact .inr (.inr (.inr ⟨a, b, rfl, q2, q3⟩))
        · exact .inl rfl
      · rcases asAtom_cases d with h | ⟨ys, _, h1, h2, h⟩
        · exact .inl h
        · exact .inr (.inl ⟨ys, h, okRow_of h1 h2⟩)
  · exact .inl rfl
theorem okRow.dat {xs : List D} (h : okRow xs) : isDats xs = true ∧ deps xs = 0 := by
  obtain ⟨z, ts, rfl, h1, h2, h3⟩ := h
  obtain ⟨a, b⟩ := tms_dat h3
  simp [a, b]
theorem okPart.dat {p : D} (h : okPart p) : isDat p = true ∧ dep p ≤ 2 ∧ deq p .non = false := by
  rcases h with ⟨xs, rfl, o⟩ | ⟨xs, rfl, o⟩ | ⟨a, b, rfl, h1, h2⟩
  · obtain ⟨d1, d2⟩ := o.dat
    simp [d1, d2]
  · obtain ⟨d1, d2⟩ := o.dat
    simp [d1, d2]
  · obtain ⟨d1, d2, _⟩ := isTm_dat h1
    obtain ⟨e1, e2, _⟩ := isTm_dat h2
    simp [d1, d2, e1, e2]
theorem asPart_dat (d : D) : isDat (asPart d) = true := by
  rcases asPart_cases d with h | h
  · rw [h]; simp
  · exact h.dat.1
def isNon : D → Bool
  | .non => true
  | _ => false
theorem asPart_non (d : D) : deq (asPart d) .non = isNon (asPart d) := by
  rcases asPart_cases d with h | h
  · rw [h]; simp [isNon]
  · rw [h.dat.2.2]
    rcases h with ⟨xs, h, _⟩ | ⟨xs, h, _⟩ | ⟨a, b, h, _⟩ <;> rw [h] <;> rfl
def asBody (d : D) : D := match sqOf d with
  | some xs => if xs.any (fun x => isNon (asPart x)) then .non else .tup (xs.map asPart)
  | none => .non
theorem parts_dat : ∀ xs : List D, isDats (xs.map asPart) = true
  | [] => by simp
  | x :: xs => by simp [asPart_dat x, parts_dat xs]
theorem any_parts (xs : List D) : ((xs.map asPart).any fun p => deq p .non) = xs.any fun x => isNon (asPart x) := by
  rw [List.any_map]
  congr 1
  funext x
  exact asPart_non x
section
variable {P : Program} {w : World} {K : PySem.W.Frag} {mg : Str → Option Value} {base : Heap} {f : Addr} {fd : FuncData}
-- as_body: slots 0 thing, 1 parts, 2 part
abbrev s_as_body : Stmt := (top 26)
abbrev N_sc_as_body : List Str := ["thing", "parts", "part"]
theorem sc_as_body : FnScope N_sc_as_body ["thing"] (defScope s_as_body) := ⟨rfl, rfl, rfl, by decide +kernel, rfl, by decide +kernel, by decide +kernel⟩
theorem ok_as_body (F : FnP K "as_body" "as_body" s_as_body f fd) (T : Tx K mg) (C_as_part : Cal P w K mg base "as_part" 6 ["thing"] (spD K (wF tmd1 fun ds => asPart (ds.headD .non)))) :
    FnOk P w K mg base CX0 7 f fd ["thing"] (spD K (wF tmd1 fun ds => asBody (ds.headD .non))) :=
  FnD F sc_as_body (fun ds Kk h => by obtain ⟨⟨x, rfl, _⟩, _⟩ := h; rfl) fun cdv A outer s H Fz E hr => ⟨_, 
(ds_cons (ds_if (dt_not (dt_truth (de_isN T.b_isinstance (tns_cons (TyN.mk (t := .list) (by rfl) T.b_list (by decide +kernel) (by decide) (by decide)) (tns_cons (TyN.mk (t := .tuple) (by rfl) T.b_tuple (by decide +kernel) (by decide) (by decide)) tns_nil)) (de_v (i := 0))))) (ds_one (ds_ret de_non)) ds_nil)
 (ds_cons (ds_set (i := 1) sc_as_body.nd (de_tuple T.b_tuple (FE.de (fe_lc (own := [("part", 2)]) sc_as_body.nd (di_seq (de_v (i := 0))) (blkOk_by (own := [("part", 2)]) (N := N_sc_as_body) (sc := defScope s_as_body) (by decide +kernel)) (fun _ _ _ _ _ => (dg_name (i := 2) sc_as_body.nd)) (fun _ _ _ _ _ => dts_nil) (fun _ _ _ _ _ => (de_call C_as_part hr (da_cons (de_v (i := 2)) da_nil)))))))
 (ds_cons (ds_if (dt_cm (c_in hr) de_non (de_v (i := 1))) (ds_one (ds_ret de_non)) ds_nil)
 (ds_one (ds_ret (de_v (i := 1)))))))
  , fun ds Kk h => by
    obtain ⟨⟨x, rfl, hx⟩, k⟩ := h
    cases hs : sqOf x with
    | some xs =>
      have hz : xs.length ≤ 100000 := by rcases sq_cases hs with rfl | rfl <;> simp at hx <;> exact hx.1
      have hx' := tmBs_iff.mp (sq_tms hs hx)
      have hq : seqD x = some xs := by rcases sq_cases hs with rfl | rfl <;> rfl
      have hi : isaD [.list, .tuple] x = some (.bl true) := by rcases sq_cases hs with rfl | rfl <;> simp [isaD]
      have k : Kk (asBody x) := k
      refine ⟨_, rfl, _, hi, true, rfl, itF ?_⟩
      simp only [sNext, sSeq, sSet, wUn]
      refine wLc_m (α := D) (h := id) (xs := xs) (f := asPart) (x := none) (fun K k => ⟨_, rfl, xs, hq, by simpa using k⟩) hz rfl (fun _ h => by cases h) (fun t ht K k => ⟨_, rfl, (by simp; exact hx' t ht), k⟩) _ ?_
      refine ⟨_, rfl, ?_⟩
      have e : asBody x = if xs.any (fun x => isNon (asPart x)) then .non else .tup (xs.map asPart) := by simp only [asBody, hs]
      rw [e] at k
      have hin : inD false .non (.tup (xs.map asPart)) = some (.bl (xs.any fun x => isNon (asPart x))) := by
        rw [in_tup]
        unfold inSq
        rw [if_pos ⟨da_non, parts_dat xs, by rw [dp_non]; omega⟩, any_parts]
        rfl
      refine ⟨_, rfl, _, hin, _, rfl, ?_⟩
      cases hn : xs.any (fun x => isNon (asPart x)) with
      | true =>
        rw [hn] at k
        exact itT k
      | false =>
        rw [hn] at k
        exact itF ⟨_, rfl, k⟩
    | none =>
      cases x <;> simp at hs hx
      all_goals (simp [sRet, wAndV, wOrV, wNotV, wUn, wOp, wV, wB, wO, wC, wIfE, wTest, wTruth, wBand, wBor, wBnot, wChain, wSl, wPart, wTup, wLst, wCons, wNil, wCall, sIf, sSeq, sSet, sNew, sNext, sPass, sApp, sExt, sDrop, sAsg, gNm, gTp, gCs, gNl, startD, DS.put, wF, isaD, eqD, inSq, asBody] at k ⊢; exact k)⟩
end
end K01

set_option Elab.async false
set_option linter.all false
set_option maxRecDepth 100000
set_option maxHeartbeats 4000000
namespace K01
open PySem PySem.Spec PyProof.Rows L2 Q
def plainP : D → Bool
  | .tup (.str z :: _) => !(decide (z = "not") || decide (z = "unlike"))
  | _ => false
def termsP : D → List D
  | .tup (.str z :: r) => if z = "not" then (match r with | [.tup (_ :: ts)] => ts | _ => []) else r
  | _ => []
def okp1 : List D → Prop := fun ds => ∃ x, ds = [x] ∧ okPart x
@[simp] theorem okp1_one (x : D) : okp1 [x] = okPart x := by
  apply propext
  constructor
  · rintro ⟨y, e, h⟩
    cases e
    exact h
  · exact fun h => ⟨x, rfl, h⟩
theorem okPart.terms {p : D} (h : okPart p) : (termsP p).all isTm = true ∧ (termsP p).length ≤ 6 := by
  rcases h with ⟨xs, rfl, z, ts, rfl, h1, h2, h3⟩ | ⟨xs, rfl, z, ts, rfl, h1, h2, h3⟩ | ⟨a, b, rfl, h1, h2⟩
  · have := (nm_not h1).1
    simp only [termsP, this]
    exact ⟨h3, h2⟩
  · simp only [termsP]
    exact ⟨h3, h2⟩
  · have : (("unlike" : Str) = "not") = False := eq_false (by decide +kernel)
    simp [termsP, this, h1, h2]
/-- letters, each once, as they come -/
def addL (acc : List Str) (t : D) : List Str := match t with
  | .str z => if strLt z then (if z ∈ acc then acc else acc ++ [z]) else acc
  | _ => acc
def lettersP (ps : List D) : List Str := (ps.flatMap termsP).foldl addL []
theorem addL_len (acc : List Str) (t : D) : (addL acc t).length ≤ acc.length + 1 := by
  unfold addL
  split
  · split
    · split
      · omega
      · simp
    · omega
  · omega
section
variable {P : Program} {w : World} {K : PySem.W.Frag} {mg : Str → Option Value} {base : Heap} {f : Addr} {fd : FuncData}
-- terms_of: slots 0 part
abbrev s_terms_of : Stmt := (top 33)
abbrev N_sc_terms_of : List Str := ["part"]
theorem sc_terms_of : FnScope N_sc_terms_of ["part"] (defScope s_terms_of) := ⟨rfl, rfl, rfl, by decide +kernel, rfl, by decide +kernel, by decide +kernel⟩
theorem ok_terms_of (F : FnP K "terms_of" "terms_of" s_terms_of f fd) (T : Tx K mg) :
    FnOk P w K mg base CX0 1 f fd ["part"] (spD K (wF okp1 fun ds => .tup (termsP (ds.headD .non)))) :=
  FnD F sc_terms_of (fun ds Kk h => by obtain ⟨⟨x, rfl, _⟩, _⟩ := h; rfl) fun cdv A outer s H Fz E hr => ⟨_, 
(ds_cons (ds_if (dt_cm (c_eq hr) (de_ixA (de_v (i := 0)) de_int) de_str) (ds_one (ds_ret (de_sl (de_ixA (de_v (i := 0)) de_int) (dp_at de_int) dp_no))) ds_nil)
 (ds_one (ds_ret (de_sl (de_v (i := 0)) (dp_at de_int) dp_no))))
  , fun ds Kk h => by
    obtain ⟨⟨x, rfl, hx⟩, k⟩ := h
    rcases hx with ⟨xs, rfl, z, ts, rfl, h1, h2, h3⟩ | ⟨xs, rfl, z, ts, rfl, h1, h2, h3⟩ | ⟨a, b, rfl, h1, h2⟩
    · have := (nm_not h1).1
      simp [sRet, wAndV, wOrV, wNotV, wUn, wOp, wV, wB, wO, wC, wIfE, wTest, wTruth, wBand, wBor, wBnot, wChain, wSl, wPart, wTup, wLst, wCons, wNil, wCall, sIf, sSeq, sSet, sNew, sNext, sPass, sApp, sExt, sDrop, sAsg, gNm, gTp, gCs, gNl, startD, DS.put, wF, isaD, eqD, inSq, ixN, termsP, xr, this, cut_tl] at k ⊢
      exact k
    · simp [sRet, wAndV, wOrV, wNotV, wUn, wOp, wV, wB, wO, wC, wIfE, wTest, wTruth, wBand, wBor, wBnot, wChain, wSl, wPart, wTup, wLst, wCons, wNil, wCall, sIf, sSeq, sSet, sNew, sNext, sPass, sApp, sExt, sDrop, sAsg, gNm, gTp, gCs, gNl, startD, DS.put, wF, isaD, eqD, inSq, ixN, termsP, xr, cut_tl] at k ⊢
      exact k
    · have : (("unlike" : Str) = "not") = False := eq_false (by decide +kernel)
      simp [sRet, wAndV, wOrV, wNotV, wUn, wOp, wV, wB, wO, wC, wIfE, wTest, wTruth, wBand, wBor, wBnot, wChain, wSl, wPart, wTup, wLst, wCons, wNil, wCall, sIf, sSeq, sSet, sNew, sNext, sPass, sApp, sExt, sDrop, sAsg, gNm, gTp, gCs, gNl, startD, DS.put, wF, isaD, eqD, inSq, ixN, termsP, xr, cut_tl, this] at k ⊢
      exact k⟩
def oks : List D → Prop := fun ds => ∃ x ps, ds = [x] ∧ sqOf x = some ps ∧ ps.length ≤ 1000 ∧ ∀ p ∈ ps, okPart p
theorem sq_seq {x : D} {xs : List D} (h : sqOf x = some xs) : seqD x = some xs := by rcases sq_cases h with rfl | rfl <;> rfl
-- letters_in: slots 0 parts, 1 found, 2 part, 3 term
abbrev s_letters_in : Stmt := (top 34)
abbrev N_sc_letters_in : List Str := ["parts", "found", "part", "term"]
theorem sc_letters_in : FnScope N_sc_letters_in ["parts"] (defScope s_letters_in) := ⟨rfl, rfl, rfl, by decide +kernel, rfl, by decide +kernel, by decide +kernel⟩
theorem ok_letters_in (F : FnP K "letters_in" "letters_in" s_letters_in f fd) (T : Tx K mg) (C_terms_of : Cal P w K mg base "terms_of" 1 ["part"] (spD K (wF okp1 fun ds => .tup (termsP (ds.headD .non)))))
    (C_is_letter : Cal P w K mg base "is_letter" 1 ["thing"] (spD K (wF tame1 fun ds => .bl (isLt (ds.headD .non))))) :
    FnOk P w K mg base CX0 2 f fd ["parts"] (spF K (wF oks fun ds => .lst ((lettersP ((sqOf (ds.headD .non)).getD [])).map .str))) :=
  FnF F sc_letters_in (fun ds Kk h => by obtain ⟨⟨x, ps, rfl, _⟩, _⟩ := h; rfl) fun cdv A outer s H Fz E hr => ⟨_, 
(ds_cons (ds_new (i := 1) sc_letters_in.nd fe_d0)
 (ds_cons (ds_for (di_seq (de_v (i := 0))) (dg_name (i := 2) sc_letters_in.nd)
  (ds_one (ds_for (di_seq (de_call C_terms_of hr (da_cons (de_v (i := 2)) da_nil))) (dg_name (i := 3) sc_letters_in.nd)
  (ds_one (ds_if (dt_truth (de_call C_is_letter hr (da_cons (de_v (i := 3)) da_nil))) (ds_one (ds_dput hr (i := 1) de_bl (de_v (i := 3)))) ds_nil)))))
 (ds_one (ds_retF (fe_listK T.b_list (de_b (i := 1)))))))
  , fun ds Kk h => by
    obtain ⟨⟨x, ps, rfl, hs, hl, ho⟩, k⟩ := h
    have k : Kk (.lst ((lettersP ((sqOf x).getD [])).map .str)) := k
    rw [hs] at k
    have k : Kk (.lst ((lettersP ps).map .str)) := k
    simp only [sSeq, sNew, wC, sFor, wSq, wV, startD, DS.put]
    refine ⟨x, rfl, ps, sq_seq hs, ?_⟩
    let mk : List Str → List D → Option DV → Option DV → DS noR := fun acc vs x2 x3 => ⟨noG, [some (.fz x), some (.own (.dct ((acc.map Sum.inr : List Key).map kD) vs)), x2, x3]⟩
    refine forGo_ind (fun rest ρ => ∃ acc vs x2 x3, ρ = mk acc vs x2 x3 ∧ (rest.flatMap termsP).foldl addL acc = lettersP ps ∧ acc.length + 7 * rest.length ≤ 7000 ∧ ∀ p ∈ rest, okPart p) ?_ ?_ ps _ ⟨[], [], none, none, rfl, rfl, by simp; omega, ho⟩
    · rintro p rest N ρ hN ⟨acc, vs, x2, x3, rfl, hf, hlen, hok⟩
      have hp := hok p List.mem_cons_self
      obtain ⟨ht1, ht2⟩ := hp.terms
      rw [List.length_cons] at hlen
      refine ⟨p, rfl, ⟨p, rfl, hp⟩, termsP p, rfl, ?_⟩
      rw [List.flatMap_cons, List.foldl_append] at hf
      refine forGo_ind (fun tr ρ => ∃ acc' vs' x3', ρ = mk acc' vs' (some (.fz p)) x3' ∧ tr.foldl addL acc' = (termsP p).foldl addL acc ∧ acc'.length + tr.length ≤ acc.length + 6 ∧ ∀ t ∈ tr, isTm t = true) ?_ ?_ (termsP p) _ ⟨acc, vs, x3, rfl, rfl, by omega, List.all_eq_true.mp ht1⟩
      · rintro t tr N2 ρ hN2 ⟨acc', vs', x3', rfl, hf', hl', ht'⟩
        have htt := ht' t List.mem_cons_self
        rw [List.length_cons] at hl'
        refine ⟨t, rfl, ⟨t, rfl, tmB.tame (isTm_tmB htt)⟩, isLt t, rfl, ?_⟩
        cases hb : isLt t with
        | true =>
          refine itT ?_
          cases t with
          | str z =>
            refine ⟨⟨_, rfl⟩, .str z, rfl, .inr z, acc'.map Sum.inr, vs', rfl, rfl, by rw [List.length_map]; omega, hN2 _ ⟨if z ∈ acc' then acc' else acc' ++ [z], putVs (acc'.map Sum.inr) vs' (.inr z) (.bl true), some (.fz (.str z)), ?_, ?_, ?_, fun t h => ht' t (List.mem_cons_of_mem _ h)⟩⟩
            · rw [putKs_str]
              rfl
            · rw [List.foldl_cons] at hf'
              rw [← hf']
              have : addL acc' (.str z) = if z ∈ acc' then acc' else acc' ++ [z] := by
                have hb : strLt z = true := hb
                simp only [addL, hb]
                rfl
              rw [this]
            · split
              · omega
              · rw [List.length_append]; simp; omega
          | _ => cases hb
        | false =>
          refine itF (hN2 _ ⟨acc', vs', _, rfl, ?_, by omega, fun t h => ht' t (List.mem_cons_of_mem _ h)⟩)
          rw [List.foldl_cons] at hf'
          rw [← hf']
          have : addL acc' t = acc' := by
            cases t <;> simp only [addL]
            have hb : strLt _ = false := hb
            rw [hb]
            rfl
          rw [this]
      · rintro ρ ⟨acc', vs', x3', rfl, hf', hl', _⟩
        refine hN _ ⟨acc', vs', _, _, rfl, ?_, by simp at hl'; omega, fun q h => hok q (List.mem_cons_of_mem _ h)⟩
        have hf' : acc' = (termsP p).foldl addL acc := hf'
        rw [hf']
        exact hf
    · rintro ρ ⟨acc, vs, x2, x3, rfl, hf, hlen, hok⟩
      have hf : acc = lettersP ps := hf
      subst hf
      refine .inr ⟨_, rfl, _, rfl, ?_⟩
      have e : ((lettersP ps).map Sum.inr : List Key).map kD = (lettersP ps).map .str := by rw [List.map_map]; rfl
      rw [e]
      exact k⟩
end
end K01

set_option Elab.async false
set_option linter.all false
set_option maxRecDepth 100000
set_option maxHeartbeats 4000000
namespace K01
open PySem PySem.Spec PyProof.Rows L2 Q
def asRule (d : D) : D := match sqOf d with
  | some [h, b] => if isNon (asAtom h) || isNon (asBody b) then .non else .tup [asAtom h, asBody b]
  | _ => .non
theorem asBody_cases (d : D) : asBody d = .non ∨ ∃ xs, sqOf d = some xs ∧ (∀ x ∈ xs, okPart (asPart x)) ∧ asBody d = .tup (xs.map asPart) := by
  unfold asBody
  cases h : sqOf d with
  | none => exact .inl rfl
  | some xs =>
    by_cases q : xs.any (fun x => isNon (asPart x)) = true
    · exact .inl (if_pos q)
    · refine .inr ⟨xs, rfl, fun x hx => ?_, if_neg q⟩
      rcases asPart_cases x with h | h
      · exact absurd (List.any_eq_true.mpr ⟨x, hx, by rw [h]; rfl⟩) q
      · exact h
/-- a rule, as it is told -/
def okRule (d : D) : Prop := ∃ (hd body : List D), d = .tup [.tup hd, .tup body] ∧ okRow hd ∧ (∀ p ∈ body, okPart p) ∧ body.length ≤ 900
def smallR (d : D) : Prop := ∀ hd body, asRule d = .tup [hd, .tup body] → body.length ≤ 900
theorem asRule_cases (d : D) (s : smallR d) : asRule d = .non ∨ okRule (asRule d) := by
  by_cases hn : asRule d = .non
  · exact .inl hn
  · right
    have : ∃ hd body, asRule d = .tup [.tup hd, .tup body] ∧ okRow hd ∧ ∀ p ∈ body, okPart p := by
      unfold asRule at hn ⊢
      split
      · rename_i h b hs
        simp only [hs] at hn
        rcases asAtom_cases h with h1 | ⟨xs, _, r1, r2, h1⟩
        · rw [h1] at hn; exact absurd rfl hn
        · rcases asBody_cases b with h3 | ⟨zs, _, z2, h3⟩
          · rw [h1, h3] at hn; exact absurd rfl hn
          · rw [h1, h3]
            exact ⟨xs, _, rfl, okRow_of r1 r2, fun q hq => by
              obtain ⟨z, hz, rfl⟩ := List.mem_map.mp hq
              exact z2 z hz⟩
      · rename_i hs
        split at hn
        · rename_i hs2
          exact absurd hs2 (hs _ _)
        · exact absurd rfl hn
    obtain ⟨hd, body, e, h1, h2⟩ := this
    exact ⟨hd, body, e, h1, h2, s _ _ e⟩
def asFact (d : D) : D := match sqOf d with
  | some xs => if rowB xs && xs.tail.all isTh then .tup xs else .non
  | none => .non
theorem isn {d : D} (h : d = .non ∨ ∃ xs, d = .tup xs) : isD true d .non = some (.bl (!isNon d)) := by rcases h with rfl | ⟨xs, rfl⟩ <;> rfl
theorem asAtom_form (d : D) : asAtom d = .non ∨ ∃ xs, asAtom d = .tup xs := by
  rcases asAtom_cases d with h | ⟨xs, _, _, _, h⟩
  · exact .inl h
  · exact .inr ⟨_, h⟩
theorem asFact_form (d : D) : asFact d = .non ∨ ∃ xs, asFact d = .tup xs := by
  unfold asFact
  split
  · split
    · exact .inr ⟨_, rfl⟩
    · exact .inl rfl
  · exact .inl rfl
theorem asPart_form (d : D) : asPart d = .non ∨ ∃ xs, asPart d = .tup xs := by
  rcases asPart_cases d with h | ⟨xs, h, _⟩ | ⟨xs, h, _⟩ | ⟨a, b, h, _⟩
  · exact .inl h
  · exact .inr ⟨_, h⟩
  · exact .inr ⟨_, h⟩
  · exact .inr ⟨_, h⟩
theorem asBody_form (d : D) : asBody d = .non ∨ ∃ xs, asBody d = .tup xs := by
  rcases asBody_cases d with h | ⟨xs, _, _, h⟩
  · exact .inl h
  · exact .inr ⟨_, h⟩
theorem asRule_form (d : D) : asRule d = .non ∨ ∃ xs, asRule d = .tup xs := by
  unfold asRule
  split
  · split
    · exact .inl rfl
    · exact .inr ⟨_, rfl⟩
  · exact .inl rfl
section
variable {P : Program} {w : World} {K : PySem.W.Frag} {mg : Str → Option Value} {base : Heap} {f : Addr} {fd : FuncData}
-- as_fact: slots 0 thing, 1 term
abbrev s_as_fact : Stmt := (top 21)
abbrev N_sc_as_fact : List Str := ["thing", "term"]
theorem sc_as_fact : FnScope N_sc_as_fact ["thing"] (defScope s_as_fact) := ⟨rfl, rfl, rfl, by decide +kernel, rfl, by decide +kernel, by decide +kernel⟩
theorem ok_as_fact (F : FnP K "as_fact" "as_fact" s_as_fact f fd) (T : Tx K mg) (C__is_row : Cal P w K mg base "_is_row" 2 ["thing"] (spD K (wF tmd1 fun ds => .bl (isRow (ds.headD .non))))) (C_is_thing : Cal P w K mg base "is_thing" 2 ["thing"] (spD K (wF tame1 fun ds => .bl (isTh (ds.headD .non))))) :
    FnOk P w K mg base CX0 3 f fd ["thing"] (spD K (wF tmd1 fun ds => asFact (ds.headD .non))) :=
  FnD F sc_as_fact (fun ds Kk h => by obtain ⟨⟨x, rfl, _⟩, _⟩ := h; rfl) fun cdv A outer s H Fz E hr => ⟨_, 
(ds_cons (ds_if (DW.dt (dw_or (dt_not (dt_truth (de_call C__is_row hr (da_cons (de_v (i := 0)) da_nil)))) (dw_or1 (dt_not (dt_truth (de_all T.b_all (FE.de (fe_lc (own := [("term", 1)]) sc_as_fact.nd (di_seq (de_sl (de_v (i := 0)) (dp_at de_int) dp_no)) (blkOk_by (own := [("term", 1)]) (N := N_sc_as_fact) (sc := defScope s_as_fact) (by decide +kernel)) (fun _ _ _ _ _ => (dg_name (i := 1) sc_as_fact.nd)) (fun _ _ _ _ _ => dts_nil) (fun _ _ _ _ _ => (de_call C_is_thing hr (da_cons (de_v (i := 1)) da_nil))))))))))) (ds_one (ds_ret de_non)) ds_nil)
 (ds_one (ds_ret (de_tuple T.b_tuple (de_v (i := 0))))))
  , fun ds Kk h => by
    obtain ⟨⟨x, rfl, hx⟩, k⟩ := h
    have hx0 := hx
    cases x
    case' lst xs => have hx : tmBs xs = true := by simp at hx; exact hx.2
    case' tup xs => have hx : tmBs xs = true := by simp at hx; exact hx.2
    case lst | tup =>
      by_cases hb : rowB xs = true
      · have hl : xs ≠ [] := by
          rintro rfl
          simp [rowB] at hb
        obtain ⟨a, r, rfl⟩ := List.exists_cons_of_ne_nil hl
        have hr7 : r.length ≤ 6 := by simp [rowB] at hb; omega
        have hr' : ∀ t ∈ r, tame t := fun t ht => by simp at hx; exact tmB.tame (tmBs_iff.mp hx.2 t ht)
        simp [sRet, wAndV, wOrV, wNotV, wUn, wOp, wV, wB, wO, wC, wIfE, wTest, wTruth, wBand, wBor, wBnot, wChain, wSl, wPart, wTup, wLst, wCons, wNil, wCall, sIf, sSeq, sSet, sNew, sNext, sPass, sApp, sExt, sDrop, sAsg, gNm, gTp, gCs, gNl, startD, DS.put, wF, isaD, eqD, inSq, isRow, hb, hx0, -tmB_lst, -tmB_tup]
        refine wLc_m (α := D) (h := id) (xs := r) (f := fun t => .bl (isTh t)) (x := none) (fun K k => ⟨_, rfl, _, rfl, rfl, _, rfl, r, congrArg some (cut_tl a r), by simpa using k⟩) (by omega) rfl (fun _ h => by cases h) (fun t ht K k => ⟨_, rfl, (by simp; exact hr' t ht), k⟩) _ ?_
        rw [all_map]
        refine ⟨_, rfl, ?_⟩
        cases ht : r.all isTh with
        | true =>
          simp [asFact, hb, ht] at k ⊢
          exact k
        | false =>
          simp [asFact, hb, ht] at k ⊢
          exact k
      · simp at hb
        simp [sRet, wAndV, wOrV, wNotV, wUn, wOp, wV, wB, wO, wC, wIfE, wTest, wTruth, wBand, wBor, wBnot, wChain, wSl, wPart, wTup, wLst, wCons, wNil, wCall, sIf, sSeq, sSet, sNew, sNext, sPass, sApp, sExt, sDrop, sAsg, gNm, gTp, gCs, gNl, startD, DS.put, wF, isaD, eqD, inSq, isRow, asFact, hb, hx0, -tmB_lst, -tmB_tup] at k ⊢
        exact k
    all_goals (simp [sRet, wAndV, wOrV, wNotV, wUn, wOp, wV, wB, wO, wC, wIfE, wTest, wTruth, wBand, wBor, wBnot, wChain, wSl, wPart, wTup, wLst, wCons, wNil, wCall, sIf, sSeq, sSet, sNew, sNext, sPass, sApp, sExt, sDrop, sAsg, gNm, gTp, gCs, gNl, startD, DS.put, wF, isaD, eqD, inSq, isRow, asFact] at * <;> first | exact k | exact ⟨hx, k⟩)⟩
-- as_rule: slots 0 thing, 1 head, 2 body
abbrev s_as_rule : Stmt := (top 27)
abbrev N_sc_as_rule : List Str := ["thing", "head", "body"]
theorem sc_as_rule : FnScope N_sc_as_rule ["thing"] (defScope s_as_rule) := ⟨rfl, rfl, rfl, by decide +kernel, rfl, by decide +kernel, by decide +kernel⟩
theorem ok_as_rule (F : FnP K "as_rule" "as_rule" s_as_rule f fd) (T : Tx K mg) (C_as_atom : Cal P w K mg base "as_atom" 4 ["thing"] (spD K (wF tmd1 fun ds => asAtom (ds.headD .non))))
    (C_as_body : Cal P w K mg base "as_body" 7 ["thing"] (spD K (wF tmd1 fun ds => asBody (ds.headD .non)))) :
    FnOk P w K mg base CX0 8 f fd ["thing"] (spD K (wF tmd1 fun ds => asRule (ds.headD .non))) :=
  FnD F sc_as_rule (fun ds Kk h => by obtain ⟨⟨x, rfl, _⟩, _⟩ := h; rfl) fun cdv A outer s H Fz E hr => ⟨_, 
(ds_cons (ds_if (DW.dt (dw_or (dt_not (dt_truth (de_isN T.b_isinstance (tns_cons (TyN.mk (t := .list) (by rfl) T.b_list (by decide +kernel) (by decide) (by decide)) (tns_cons (TyN.mk (t := .tuple) (by rfl) T.b_tuple (by decide +kernel) (by decide) (by decide)) tns_nil)) (de_v (i := 0))))) (dw_or1 (dt_cm (c_ne hr) (de_len T.b_len (de_v (i := 0))) de_int)))) (ds_one (ds_ret de_non)) ds_nil)
 (ds_cons (ds_set (i := 1) sc_as_rule.nd (de_call C_as_atom hr (da_cons (de_ixA (de_v (i := 0)) de_int) da_nil)))
 (ds_cons (ds_set (i := 2) sc_as_rule.nd (de_call C_as_body hr (da_cons (de_ixA (de_v (i := 0)) de_int) da_nil)))
 (ds_cons (ds_if (DW.dt (dw_or (dt_cm c_is (de_v (i := 1)) de_non) (dw_or1 (dt_cm c_is (de_v (i := 2)) de_non)))) (ds_one (ds_ret de_non)) ds_nil)
 (ds_one (ds_ret (de_tup (da_cons (de_v (i := 1)) (da_cons (de_v (i := 2)) da_nil)))))))))
  , fun ds Kk h => by
    obtain ⟨⟨x, rfl, hx⟩, k⟩ := h
    cases hs : sqOf x with
    | none =>
      cases x <;> simp at hs hx
      all_goals (simp [sRet, wAndV, wOrV, wNotV, wUn, wOp, wV, wB, wO, wC, wIfE, wTest, wTruth, wBand, wBor, wBnot, wChain, wSl, wPart, wTup, wLst, wCons, wNil, wCall, sIf, sSeq, sSet, sNew, sNext, sPass, sApp, sExt, sDrop, sAsg, gNm, gTp, gCs, gNl, startD, DS.put, wF, isaD, eqD, inSq, asRule] at k ⊢; exact k)
    | some xs =>
      have hx' := sq_tms hs hx
      by_cases h4 : xs.length = 2
      · match xs, h4 with
        | [h, p], _ =>
          have hh : tmB h = true := by simp at hx'; exact hx'.1
          have hp : tmB p = true := by simp at hx'; exact hx'.2
          replace k : Kk (asRule x) := k
          have e : asRule x = if isNon (asAtom h) || isNon (asBody p) then .non else .tup [asAtom h, asBody p] := by simp only [asRule, hs]
          rw [e] at k
          rcases sq_cases hs with rfl | rfl <;>
          · simp [sRet, wAndV, wOrV, wNotV, wUn, wOp, wV, wB, wO, wC, wIfE, wTest, wTruth, wBand, wBor, wBnot, wChain, wSl, wPart, wTup, wLst, wCons, wNil, wCall, sIf, sSeq, sSet, sNew, sNext, sPass, sApp, sExt, sDrop, sAsg, gNm, gTp, gCs, gNl, startD, DS.put, wF, isaD, eqD, inSq, ixN, xr, hh, hp]
            rcases asAtom_cases h with h1 | ⟨xs, _, r1, r2, h1⟩ <;> rcases asBody_cases p with h3 | ⟨zs, _, _, h3⟩ <;>
            · rw [h1, h3] at k ⊢; simp [isNon] at k ⊢; exact k
      · have h5 : ¬ (xs.length : Int) = 2 := by omega
        have e : asRule x = .non := by
          unfold asRule
          rw [hs]
          split
          · rename_i e
            cases e
            exact absurd rfl h4
          · rfl
        replace k : Kk (asRule x) := k
        rw [e] at k
        rcases sq_cases hs with rfl | rfl <;>
        · simp [sRet, wAndV, wOrV, wNotV, wUn, wOp, wV, wB, wO, wC, wIfE, wTest, wTruth, wBand, wBor, wBnot, wChain, wSl, wPart, wTup, wLst, wCons, wNil, wCall, sIf, sSeq, sSet, sNew, sNext, sPass, sApp, sExt, sDrop, sAsg, gNm, gTp, gCs, gNl, startD, DS.put, wF, isaD, eqD, inSq, h4, h5, xr] at k ⊢
          exact k⟩
-- is_atom: slots 0 thing
abbrev s_is_atom : Stmt := (top 28)
abbrev N_sc_is_atom : List Str := ["thing"]
theorem sc_is_atom : FnScope N_sc_is_atom ["thing"] (defScope s_is_atom) := ⟨rfl, rfl, rfl, by decide +kernel, rfl, by decide +kernel, by decide +kernel⟩
theorem ok_is_atom (F : FnP K "is_atom" "is_atom" s_is_atom f fd) (T : Tx K mg) (C_as_atom : Cal P w K mg base "as_atom" 4 ["thing"] (spD K (wF tmd1 fun ds => asAtom (ds.headD .non)))) :
    FnOk P w K mg base CX0 5 f fd ["thing"] (spD K (wF tmd1 fun ds => .bl (!isNon (asAtom (ds.headD .non))))) :=
  FnD F sc_is_atom (fun ds Kk h => by obtain ⟨⟨x, rfl, _⟩, _⟩ := h; rfl) fun cdv A outer s H Fz E hr => ⟨_, 
(ds_one (ds_ret (de_cm c_isn (de_call C_as_atom hr (da_cons (de_v (i := 0)) da_nil)) de_non)))
  , fun ds Kk h => by
    obtain ⟨⟨x, rfl, hx⟩, k⟩ := h
    exact ⟨_, rfl, ⟨x, rfl, hx⟩, .bl (!isNon (asAtom x)), isn (asAtom_form x), k⟩⟩
-- is_fact: slots 0 thing
abbrev s_is_fact : Stmt := (top 29)
abbrev N_sc_is_fact : List Str := ["thing"]
theorem sc_is_fact : FnScope N_sc_is_fact ["thing"] (defScope s_is_fact) := ⟨rfl, rfl, rfl, by decide +kernel, rfl, by decide +kernel, by decide +kernel⟩
theorem ok_is_fact (F : FnP K "is_fact" "is_fact" s_is_fact f fd) (T : Tx K mg) (C_as_fact : Cal P w K mg base "as_fact" 3 ["thing"] (spD K (wF tmd1 fun ds => asFact (ds.headD .non)))) :
    FnOk P w K mg base CX0 4 f fd ["thing"] (spD K (wF tmd1 fun ds => .bl (!isNon (asFact (ds.headD .non))))) :=
  FnD F sc_is_fact (fun ds Kk h => by obtain ⟨⟨x, rfl, _⟩, _⟩ := h; rfl) fun cdv A outer s H Fz E hr => ⟨_, 
(ds_one (ds_ret (de_cm c_isn (de_call C_as_fact hr (da_cons (de_v (i := 0)) da_nil)) de_non)))
  , fun ds Kk h => by
    obtain ⟨⟨x, rfl, hx⟩, k⟩ := h
    exact ⟨_, rfl, ⟨x, rfl, hx⟩, .bl (!isNon (asFact x)), isn (asFact_form x), k⟩⟩
-- is_part: slots 0 thing
abbrev s_is_part : Stmt := (top 30)
abbrev N_sc_is_part : List Str := ["thing"]
theorem sc_is_part : FnScope N_sc_is_part ["thing"] (defScope s_is_part) := ⟨rfl, rfl, rfl, by decide +kernel, rfl, by decide +kernel, by decide +kernel⟩
theorem ok_is_part (F : FnP K "is_part" "is_part" s_is_part f fd) (T : Tx K mg) (C_as_part : Cal P w K mg base "as_part" 6 ["thing"] (spD K (wF tmd1 fun ds => asPart (ds.headD .non)))) :
    FnOk P w K mg base CX0 7 f fd ["thing"] (spD K (wF tmd1 fun ds => .bl (!isNon (asPart (ds.headD .non))))) :=
  FnD F sc_is_part (fun ds Kk h => by obtain ⟨⟨x, rfl, _⟩, _⟩ := h; rfl) fun cdv A outer s H Fz E hr => ⟨_, 
(ds_one (ds_ret (de_cm c_isn (de_call C_as_part hr (da_cons (de_v (i := 0)) da_nil)) de_non)))
  , fun ds Kk h => by
    obtain ⟨⟨x, rfl, hx⟩, k⟩ := h
    exact ⟨_, rfl, ⟨x, rfl, hx⟩, .bl (!isNon (asPart x)), isn (asPart_form x), k⟩⟩
-- is_body: slots 0 thing
abbrev s_is_body : Stmt := (top 31)
abbrev N_sc_is_body : List Str := ["thing"]
theorem sc_is_body : FnScope N_sc_is_body ["thing"] (defScope s_is_body) := ⟨rfl, rfl, rfl, by decide +kernel, rfl, by decide +kernel, by decide +kernel⟩
theorem ok_is_body (F : FnP K "is_body" "is_body" s_is_body f fd) (T : Tx K mg) (C_as_body : Cal P w K mg base "as_body" 7 ["thing"] (spD K (wF tmd1 fun ds => asBody (ds.headD .non)))) :
    FnOk P w K mg base CX0 8 f fd ["thing"] (spD K (wF tmd1 fun ds => .bl (!isNon (asBody (ds.headD .non))))) :=
  FnD F sc_is_body (fun ds Kk h => by obtain ⟨⟨x, rfl, _⟩, _⟩ := h; rfl) fun cdv A outer s H Fz E hr => ⟨_, 
(ds_one (ds_ret (de_cm c_isn (de_call C_as_body hr (da_cons (de_v (i := 0)) da_nil)) de_non)))
  , fun ds Kk h => by
    obtain ⟨⟨x, rfl, hx⟩, k⟩ := h
    exact ⟨_, rfl, ⟨x, rfl, hx⟩, .bl (!isNon (asBody x)), isn (asBody_form x), k⟩⟩
-- is_rule: slots 0 thing
abbrev s_is_rule : Stmt := (top 32)
abbrev N_sc_is_rule : List Str := ["thing"]
theorem sc_is_rule : FnScope N_sc_is_rule ["thing"] (defScope s_is_rule) := ⟨rfl, rfl, rfl, by decide +kernel, rfl, by decide +kernel, by decide +kernel⟩
theorem ok_is_rule (F : FnP K "is_rule" "is_rule" s_is_rule f fd) (T : Tx K mg) (C_as_rule : Cal P w K mg base "as_rule" 8 ["thing"] (spD K (wF tmd1 fun ds => asRule (ds.headD .non)))) :
    FnOk P w K mg base CX0 9 f fd ["thing"] (spD K (wF tmd1 fun ds => .bl (!isNon (asRule (ds.headD .non))))) :=
  FnD F sc_is_rule (fun ds Kk h => by obtain ⟨⟨x, rfl, _⟩, _⟩ := h; rfl) fun cdv A outer s H Fz E hr => ⟨_, 
(ds_one (ds_ret (de_cm c_isn (de_call C_as_rule hr (da_cons (de_v (i := 0)) da_nil)) de_non)))
  , fun ds Kk h => by
    obtain ⟨⟨x, rfl, hx⟩, k⟩ := h
    exact ⟨_, rfl, ⟨x, rfl, hx⟩, .bl (!isNon (asRule x)), isn (asRule_form x), k⟩⟩
end
end K01

set_option Elab.async false
set_option linter.all false
set_option maxRecDepth 100000
set_option maxHeartbeats 4000000
/-! an object while it is made: its fields so far -/
namespace Q
open PySem PySem.Spec PyProof.Rows L2
/-- the object at x, as it stood when the reading began, and what is data of it -/
structure Making (c : Ctx) (x C : Addr) (f : Str) (d : D) : Prop where
  cls : Cls c.K C
  no : NoAttr c.K C f
  nz : ¬ c.Z0 x
  at_ : ∃ dx fs v, c.H0 x = some (.ins C dx fs) ∧ fs.lookup f = some v ∧ Rep c.K c.F0 v d
section
variable {X : Cx} {c : Ctx} {e : Expr} {pos p : Pos} {pa ba : Bool} {we : WE c.R} {wi : WI c.R}
def wMak {R : Rgn} (x : Addr) (d : D) (we : WE R) : WE R := fun ρ K => we ρ fun z ρ1 => z = .raw (.ref x) ∧ K d ρ1
theorem de_mak {x C : Addr} {f : Str} {d : D} (M : Making c x C f d) (he : DE X c pa ba e we) (hb : attributeBase e f X.env (eval e X.env) = eval e X.env := by rfl) : DE X c pa false (.Attribute e f pos) (wMak x d we) :=
  ⟨(pe_fld he.pe hb).imp fun σ H Q ⟨ρ, F, O, Kk, S, w, k⟩ => ⟨ρ, F, O, _, S, w, fun z ρ1 v F1 H1 ⟨ez, hk⟩ S1 fs1 ko1 g1 r1 => by
    subst ez
    obtain ⟨dx, fs, v', h0, lk, r⟩ := M.at_
    have ev : v = .ref x := (r1.bv S1).raw
    subst ev
    rw [he.kk]
    exact ⟨x, C, dx, fs, v', rfl, S1.keep x _ h0 M.nz, M.cls, M.no, lk, k d ρ1 v' F1 H1 hk S1 fs1 ko1 g1 (r.same S1.old)⟩⟩, he.kk⟩
end
end Q

set_option Elab.async false
set_option linter.all false
set_option maxRecDepth 100000
set_option maxHeartbeats 4000000
/-! x.extend(e), e a list or a tuple, whichever -/
namespace Q
open PySem PySem.Spec PyProof.Rows L2
theorem mt_extS {X : Cx} : MtM X "list.extend" (fun x vs H Q => rExtend x vs H Q ∨ rExtT X.K x vs H Q) := by
  rintro pins s σ H x vs v us Q J rx rv (h | h)
  · exact mt_extend pins s σ H x vs v us Q J rx rv h
  · exact mt_extT pins s σ H x vs v us Q J rx rv h
section
variable {X : Cx} {c : Ctx} {fr : Bool} {e : Expr} {pos : Pos} {pa ba : Bool} {we : WE c.R}
def sExtS {R : Rgn} (i : Nat) (we : WE R) : WS R := fun D ρ => (∃ ds, ρ.sl[i]? = some (some (.own (.lst ds)))) ∧ we ρ fun d ρ1 => ∃ ds es, (d = .lst es ∨ d = .tup es) ∧ ρ1.sl[i]? = some (some (.own (.lst ds))) ∧ ds.length + es.length ≤ 100000 ∧ D.nx (ρ1.put i (some (.own (.lst (ds ++ es)))))
theorem ds_extS {i : Nat} {x : Str} {ep pp qp : Pos} (he : DE X c pa ba e we) (hk : X.K = c.K := by rfl) (hN : X.N[i]? = some x := by rfl) (hv : Vis X.env.scope x := by first | exact .inl rfl | exact .inr (.inl rfl) | exact .inr (.inr rfl))
    (hd : (x == ("__debug__" : Str)) = false := by decide) (hcd : (x == ("__classdict__" : Str)) = false := by decide)
    (hbase : attributeBase (.Name x pp) "extend" X.env (eval (.Name x pp) X.env) = eval (.Name x pp) X.env := by rfl)
    (hfew : ((backTo ep (starEach [e] X.env)).all (fun x => !x.1) && (backToKw ep (keywordEach [] X.env)).all (fun x => x.1.isSome) && decide (([e] : List Expr).length + ([] : List Keyword).length + (if ([] : List Keyword).isEmpty then 0 else 1) < 30)) = true := by rfl)
    (hline : (qp.endLine == ep.line) = true := by rfl) (hst : starEach [e] X.env = (false, eval e X.env) :: starEach [] X.env := by rfl) (hplain : (backTo ep (starEach [] X.env)).any (·.1) = false := by rfl)
    (hs : swapsWith (.Call (.Attribute (.Name x pp) "extend" qp) [e] [] ep) none pos.line X.env = pure false := by rfl) :
    DS1 X c fr (.Expr (.Call (.Attribute (.Name x pp) "extend" qp) [e] [] ep) pos) (sExtS i we) :=
  ⟨(ps_expr (pe_bm PySem.F.plainAttrs_list PySem.F.slot_list_extend PySem.F.type_list_extend mt_extS (pe_var hN hv hd hcd) (pa_cons he.pe pa_nil hst) hbase hfew hline hst hplain) hs).imp fun E σ H ⟨ρ, F, Dk, S, ⟨⟨ds0, h0⟩, w⟩, k1, k2, k3, k4⟩ => by
    obtain ⟨q, hq, vs0, hvs0, _⟩ := own_at S h0
    refine ⟨.ref q, hq, .inl ⟨rfl, vs0, SqL.of hvs0⟩, ρ, F, [], _, S, w, fun d ρ1 v F1 H1 ⟨ds, es, e1, h2, hz, hk2⟩ S1 fs1 ko1 g1 r1 => ?_⟩
    obtain ⟨q', hq', vs, hvs, rv⟩ := own_at S1 h2
    rw [hq] at hq'
    cases hq'
    rcases e1 with rfl | rfl
    · obtain ⟨b, us, rfl, hb, ru⟩ := (r1.bv S1).lst S1.sub
      exact .inl ⟨q, b, vs, us, rfl, rfl, hvs, hb, by rw [rv.length, ru.length]; exact Nat.le_trans hz big_line, k1 _ σ F1 _ hk2 (S1.write hq h2 (o := .lst (vs ++ us)) (rv.append ru)) fs1⟩
    · obtain ⟨b, us, rfl, hb, ru⟩ := (r1.bv S1).tup S1.sub
      exact .inr ⟨q, b, vs, us, rfl, rfl, hvs, by rw [hk]; exact hb, by rw [rv.length, ru.length]; exact Nat.le_trans hz big_line, k1 _ σ F1 _ hk2 (S1.write hq h2 (o := .lst (vs ++ us)) (rv.append ru)) fs1⟩⟩
end
end Q

set_option Elab.async false
set_option linter.all false
set_option maxRecDepth 100000
set_option maxHeartbeats 4000000
/-! dicts with keys of any kinds, over data -/
namespace Q
open PySem PySem.Spec PyProof.Rows L2
section
variable {K : PySem.W.Frag} {F H : Hp}
mutual
theorem rep_keyV : ∀ {k : NestedKey} {v : V}, Rep K F v (nD k) → KeyV F k v
  | .none, _, h => by simp only [nD] at h; cases h; exact .non
  | .num i, _, h => by simp only [nD] at h; cases h; exact .num i
  | .text x, _, h => by simp only [nD] at h; cases h; exact .text x
  | .tup ks, _, h => by
    simp only [nD] at h
    cases h with
    | tup e r => exact .tup e (reps_keysV r)
theorem reps_keysV : ∀ {ks : List NestedKey} {vs : List V}, Reps K F vs (nDs ks) → KeysV F ks vs
  | [], _, h => by simp only [nDs] at h; cases h; exact .nil
  | k :: ks, _, h => by
    simp only [nDs] at h
    cases h with
    | cons r t => exact .cons (rep_keyV r) (reps_keysV t)
end
theorem BV.nk {v : V} {k : NestedKey} (h : BV K F H v (nD k)) : Rep K F v (nD k) := by
  rcases h with r | ⟨_, o⟩
  · exact r
  · cases k <;> (simp only [nD] at o; exact o.elim)
theorem KeyV.sub (s : Same F H) {k : NestedKey} {v : V} (h : KeyV F k v) : KeyV H k v := h.same fun b xs e => s _ _ e
mutual
theorem nD_inj : ∀ {k j : NestedKey}, nD k = nD j → k = j
  | .none, .none, _ => rfl
  | .num i, .num j, h => by simp only [nD] at h; cases h; rfl
  | .text i, .text j, h => by simp only [nD] at h; cases h; rfl
  | .tup ks, .tup js, h => by simp only [nD, D.tup.injEq] at h; rw [nDs_inj h]
  | .none, .num _, h => by simp only [nD] at h; cases h
  | .none, .text _, h => by simp only [nD] at h; cases h
  | .none, .tup _, h => by simp only [nD] at h; cases h
  | .num _, .none, h => by simp only [nD] at h; cases h
  | .num _, .text _, h => by simp only [nD] at h; cases h
  | .num _, .tup _, h => by simp only [nD] at h; cases h
  | .text _, .none, h => by simp only [nD] at h; cases h
  | .text _, .num _, h => by simp only [nD] at h; cases h
  | .text _, .tup _, h => by simp only [nD] at h; cases h
  | .tup _, .none, h => by simp only [nD] at h; cases h
  | .tup _, .num _, h => by simp only [nD] at h; cases h
  | .tup _, .text _, h => by simp only [nD] at h; cases h
theorem nDs_inj : ∀ {ks js : List NestedKey}, nDs ks = nDs js → ks = js
  | [], [], _ => rfl
  | k :: ks, j :: js, h => by
    simp only [nDs, List.cons.injEq] at h
    rw [nD_inj h.1, nDs_inj h.2]
  | [], _ :: _, h => by simp only [nDs] at h; cases h
  | _ :: _, [], h => by simp only [nDs] at h; cases h
end
theorem nD_map : ∀ {ks js : List NestedKey}, ks.map nD = js.map nD → ks = js
  | [], [], _ => rfl
  | [], _ :: _, h => by cases h
  | _ :: _, [], h => by cases h
  | k :: ks, j :: js, h => by
    have h := List.cons.inj h
    rw [nD_inj h.1, nD_map h.2]
theorem nkeys_of {kvs : List VRow} {ks : List NestedKey} (h : ks.map nD = kvs.map fun p => nD p.1) : ks = kvs.map (·.1) := nD_map (by rw [h, List.map_map]; rfl)
theorem nkeys_ok {kvs : List VRow} (dp : ∀ p ∈ kvs, p.1.depth ≤ 8) (r : Reps K F (kvs.map (·.2.1)) (kvs.map fun p => nD p.1)) : ∀ p ∈ kvs, KeyV F p.1 p.2.1 ∧ p.1.depth ≤ 8 := fun p hp => by
  refine ⟨?_, dp p hp⟩
  obtain ⟨j, hj⟩ := List.mem_iff_getElem?.mp hp
  obtain ⟨d, h1, h2⟩ := r.get (i := j) (v := p.2.1) (by rw [List.getElem?_map, hj]; rfl)
  rw [List.getElem?_map, hj] at h1
  cases h1
  exact rep_keyV h2
end
def putN (ks : List NestedKey) (k : NestedKey) : List NestedKey := if k ∈ ks then ks else ks ++ [k]
def putNV (ks : List NestedKey) (vs : List D) (k : NestedKey) (v : D) : List D := if k ∈ ks then List.zipWith (fun j u => if j = k then v else u) ks vs else vs ++ [v]
def valN : List NestedKey → List D → NestedKey → Option D
  | j :: ks, v :: vs, k => if j = k then some v else valN ks vs k
  | _, _, _ => none
theorem putM_keys (kvs : List VRow) (k : NestedKey) (y v : V) : (putM kvs k y v).map (·.1) = putN (kvs.map (·.1)) k := by
  unfold putM putN
  by_cases m : k ∈ kvs.map (·.1)
  · rw [if_pos m, if_pos m, List.map_map]
    refine List.map_congr_left fun p _ => ?_
    show (putMR k v p).1 = p.1
    unfold putMR
    split <;> rfl
  · rw [if_neg m, if_neg m, List.map_append]
    rfl
section
variable {K : PySem.W.Frag} {F : Hp}
theorem putM_ks {kvs : List VRow} {k : NestedKey} {y v : V} (ry : Rep K F y (nD k)) (r : Reps K F (kvs.map (·.2.1)) (kvs.map fun p => nD p.1)) : Reps K F ((putM kvs k y v).map (·.2.1)) ((putM kvs k y v).map fun p => nD p.1) := by
  unfold putM
  by_cases m : k ∈ kvs.map (·.1)
  · rw [if_pos m, List.map_map, List.map_map]
    have e1 : kvs.map ((fun p : VRow => p.2.1) ∘ putMR k v) = kvs.map (·.2.1) := List.map_congr_left fun p _ => by
      show (putMR k v p).2.1 = p.2.1
      unfold putMR
      split <;> rfl
    have e2 : kvs.map ((fun p : VRow => nD p.1) ∘ putMR k v) = kvs.map fun p => nD p.1 := List.map_congr_left fun p _ => by
      show nD (putMR k v p).1 = nD p.1
      unfold putMR
      split <;> rfl
    rw [e1, e2]
    exact r
  · rw [if_neg m, List.map_append, List.map_append]
    exact r.snoc ry
theorem putM_vs (k : NestedKey) {y v : V} {d : D} (rv : Rep K F v d) {kvs : List VRow} {ds : List D} (r : Reps K F (kvs.map (·.2.2)) ds) : Reps K F ((putM kvs k y v).map (·.2.2)) (putNV (kvs.map (·.1)) ds k d) := by
  unfold putM putNV
  by_cases m : k ∈ kvs.map (·.1)
  · rw [if_pos m, if_pos m]
    clear m
    induction kvs generalizing ds with
    | nil => cases r; exact .nil
    | cons p kvs ih =>
      cases r with
      | cons h1 h2 =>
        rw [List.map_cons, List.map_cons, List.map_cons, List.zipWith_cons_cons]
        refine .cons ?_ (ih h2)
        unfold putMR
        by_cases e : p.1 = k
        · rw [if_pos e, if_pos e]; exact rv
        · rw [if_neg e, if_neg e]; exact h1
  · rw [if_neg m, if_neg m, List.map_append]
    exact r.snoc rv
theorem putM_dp {kvs : List VRow} {k : NestedKey} {y v : V} (dp : ∀ p ∈ kvs, p.1.depth ≤ 8) (dk : k.depth ≤ 8) : ∀ p ∈ putM kvs k y v, p.1.depth ≤ 8 := fun p hp => by
  have hm : p.1 ∈ (putM kvs k y v).map (·.1) := List.mem_map.mpr ⟨p, hp, rfl⟩
  rw [putM_keys] at hm
  unfold putN at hm
  have old : p.1 ∈ kvs.map (·.1) → p.1.depth ≤ 8 := fun h => by
    obtain ⟨q, hq, e⟩ := List.mem_map.mp h
    rw [← e]
    exact dp q hq
  split at hm
  · exact old hm
  · rcases List.mem_append.mp hm with h | h
    · exact old h
    · rw [List.mem_singleton.mp h]; exact dk
theorem valN_of (k : NestedKey) : ∀ {kvs : List VRow} {ds : List D}, Reps K F (kvs.map (·.2.2)) ds → ∀ d, valN (kvs.map (·.1)) ds k = some d → ∃ v, valM kvs k = some v ∧ Rep K F v d
  | [], _, _, d, h => by simp [valN] at h
  | p :: kvs, _, .cons r t, d, h => by
    rw [List.map_cons] at h
    unfold valN at h
    unfold valM
    rw [List.find?_cons]
    by_cases e : p.1 = k
    · rw [if_pos e] at h
      cases h
      rw [decide_eq_true e]
      exact ⟨_, rfl, r⟩
    · rw [if_neg e] at h
      rw [decide_eq_false e]
      exact valN_of k t d h
theorem valN_getD (k : NestedKey) {u : V} {z : D} (rz : Rep K F u z) : ∀ {kvs : List VRow} {ds : List D}, Reps K F (kvs.map (·.2.2)) ds → Rep K F ((valM kvs k).getD u) ((valN (kvs.map (·.1)) ds k).getD z)
  | [], _, _ => by simpa [valM, valN] using rz
  | p :: kvs, _, .cons r t => by
    unfold valM
    rw [List.map_cons, List.find?_cons]
    unfold valN
    by_cases e : p.1 = k
    · rw [decide_eq_true e, if_pos e]; exact r
    · rw [decide_eq_false e, if_neg e]; exact valN_getD k rz t
end
theorem Rd.up {H H' : Hp} {a : Addr} {u : HO} (r : Rd H a u) (s : Same H H') : Rd H' a u := r.imp (fun h => s _ _ h) fun ⟨o, h⟩ => ⟨o, s _ _ h⟩
section
variable {X : Cx} {c : Ctx} {fr : Bool} {tg e e2 o a b : Expr} {pos p p2 apos cpos : Pos} {pa pb ba bb : Bool} {we wb wk wd : WE c.R} {j : Nat} {w : World}
theorem mu_of {j : Nat} {A : Around} (hr : Room j A) : A.units + 9 < cLine := by have := hr.units; have := hr.un; omega
/-- {}, to have keys of any kinds -/
theorem fe_d0M (hw : X.w = w := by rfl) (hk : X.K = c.K := by rfl) : FE X c true (.Dict [] [] pos) (wC c.R (.dmx w [] [])) :=
  ⟨pe_mnew.imp fun σ H Q ⟨ρ, F, O, Kk, S, w', k⟩ q hq => by
    subst hw
    exact k _ ρ q (mixO X.w q []) F H w' S (Same.refl _) (fun _ _ => rfl) (fun _ => ⟨rfl, Grow.refl S.sub⟩) hq ⟨[], rfl, rfl, (fun p h => by cases h), .nil, .nil⟩, hk⟩
/-- x[k] = e -/
def sMput {R : Rgn} (w : World) (i : Nat) (we wk : WE R) : WS R := fun Dk ρ => we ρ fun d ρ1 => (∃ d0, ρ1.sl[i]? = some (some (.own d0))) ∧ wk ρ1 fun kd ρ2 => ∃ (k : NestedKey) (ks : List NestedKey) (vs : List D), kd = nD k ∧ k.depth ≤ 8 ∧ ρ2.sl[i]? = some (some (.own (.dmx w (ks.map nD) vs))) ∧ ks.length < 100000 ∧
  Dk.nx (ρ2.put i (some (.own (.dmx w ((putN ks k).map nD) (putNV ks vs k d)))))
theorem ds_mput {i : Nat} {x : Str} {k : Expr} {pp qp : Pos} (hr : Room j X.A) (he : DE X c pa false e we) (hx : DE X c pb bb k wk) (hw : X.w = w := by rfl) (hN : X.N[i]? = some x := by rfl) (hv : Vis X.env.scope x := by first | exact .inl rfl | exact .inr (.inl rfl) | exact .inr (.inr rfl))
    (hd : (x == ("__debug__" : Str)) = false := by decide) (hcd : (x == ("__classdict__" : Str)) = false := by decide) (hs : swapsWith e (some (.Subscript (.Name x pp) k qp)) pos.line X.env = pure false := by rfl) :
    DS1 X c fr (.Assign [.Subscript (.Name x pp) k qp] e pos) (sMput w i we wk) :=
  ⟨(ps_mput (mu_of hr) (pe_var hN hv hd hcd) hx.pe he.pe hs).imp fun E σ H ⟨ρ, F, Dk, S, w1, k1, k2, k3, k4⟩ => by
    subst hw
    refine ⟨ρ, F, [], _, S, w1, fun d ρ1 v F1 H1 ⟨⟨d0, h0⟩, hk⟩ S1 fs1 ko1 g1 r1 => ?_⟩
    obtain ⟨q, hq, _⟩ := own_at S1 h0
    refine ⟨.ref q, hq, ρ1, F1, [], _, S1, hk, fun kd ρ2 kv F2 H2 ⟨kk, ks, vs, ek, dk, h2, hl, hk2⟩ S2 fs2 ko2 g2 r2 => ?_⟩
    subst ek
    obtain ⟨q', hq', kvs, hvs, hks, dp, rk, rv⟩ := own_at S2 h2
    rw [hq] at hq'
    cases hq'
    rw [hks] at rk
    have hks := nkeys_of hks
    subst hks
    have ry := BV.nk (r2.bv S2)
    refine ⟨q, kvs, kk, rfl, hvs, fun p hp => ⟨(nkeys_ok dp rk p hp).1.sub S2.sub, dp p hp⟩, (rep_keyV ry).sub S2.sub, dk, by rw [List.length_map] at hl; exact Nat.lt_of_lt_of_le hl big_line, ?_⟩
    refine k1 _ σ F2 _ hk2 (S2.write hq h2 (o := mixO X.w q (putM kvs kk kv v)) ⟨putM kvs kk kv v, rfl, ?_, putM_dp dp dk, ?_, putM_vs kk (Rep.same fs2 r1) rv⟩) (fs1.trans fs2)
    · rw [← putM_keys kvs kk kv v, List.map_map]; rfl
    · rw [← putM_keys kvs kk kv v, List.map_map]; exact putM_ks ry rk⟩
/-- x[k] -/
def wMget {R : Rgn} (w : World) (we wk : WE R) : WE R := fun ρ K => we ρ fun d ρ1 => wk ρ1 fun kd ρ2 => ∃ (k : NestedKey) (ks : List NestedKey) (vs : List D) (z : D), kd = nD k ∧ k.depth ≤ 8 ∧ d = .dmx w (ks.map nD) vs ∧ valN ks vs k = some z ∧ K z ρ2
theorem de_mget (hr : Room j X.A) (ha : DE X c pa ba e we) (hb : DE X c pb bb e2 wk) (hw : X.w = w := by rfl) (hs : ba = false ∨ pb = true := by first | exact .inl rfl | exact .inr rfl) (hi : NoSl e2 := by exact fun _ _ => rfl) : DE X c (pa && pb) false (.Subscript e e2 pos) (wMget w we wk) :=
  ⟨(pe_mget (mu_of hr) ha.pe hb.pe hi).imp fun σ H Q ⟨ρ, F, O, Kk, S, w', k⟩ => ⟨ρ, F, O, _, S, w', fun x ρ1 v F1 H1 hk S1 fs1 ko1 g1 r1 => ⟨ρ1, F1, O, _, S1, hk, fun kd ρ2 u F2 H2 ⟨kk, ks, vs, z, ek, dk, ed, hz, kz⟩ S2 fs2 ko2 g2 r2 => by
    subst hw
    subst ek
    subst ed
    have c1 : VRep c.K F2 σ ρ2.sl v _ ba := r1.carry fs2 (hs.imp id fun e => by rw [(g2 e).1])
    obtain ⟨q, kvs, rfl, h1, hks, dp, rk, r⟩ := (c1.bv S2).dmx S2.sub
    rw [hks] at rk
    have hks := nkeys_of hks
    subst hks
    obtain ⟨y, hy, ry⟩ := valN_of kk r z hz
    refine ⟨q, kvs, kk, y, rfl, ⟨h1, fun p hp => ⟨(nkeys_ok dp rk p hp).1.sub S2.sub, dp p hp⟩⟩, (rep_keyV (BV.nk (r2.bv S2))).sub S2.sub, dk, hy, ?_⟩
    refine k z ρ2 y F2 H2 kz S2 (fs1.trans fs2) (fun q hq => by rw [ko2 q hq, ko1 q hq]) (fun e => ?_) ry
    rw [Bool.and_eq_true] at e
    obtain ⟨e1, q1⟩ := g1 e.1
    obtain ⟨e2, q2⟩ := g2 e.2
    exact ⟨e2.trans e1, q1.trans q2⟩⟩⟩, ha.kk⟩
/-- x.get(k, z) -/
def wMgetOr {R : Rgn} (w : World) (we wk wd : WE R) : WE R := fun ρ K => we ρ fun d ρ1 => ∃ (ks : List NestedKey) (vs : List D), d = .dmx w (ks.map nD) vs ∧ wk ρ1 fun kd ρ2 => wd ρ2 fun z ρ3 => ∃ k : NestedKey, kd = nD k ∧ k.depth ≤ 8 ∧ K ((valN ks vs k).getD z) ρ3
theorem de_mgetOr (hr : Room j X.A) (ho : DE X c true bb o we) (hk : DE X c pa false a wk) (hd : DE X c pb false b wd) (hw : X.w = w := by rfl) (hpa : pa = true := by rfl) (hpb : pb = true := by rfl)
    (m : M2 X o "get" apos a b pos := by exact ⟨rfl, rfl, rfl, rfl⟩) : DE X c true false (.Call (.Attribute o "get" apos) [a, b] [] pos) (wMgetOr w we wk wd) := by
  subst hpa hpb hw
  refine ⟨(pe_mget2 (mu_of hr) ho.pe hk.pe hd.pe m).imp fun σ H Q ⟨ρ, F, O, Kk, S, hw, next⟩ => ?_, ho.kk⟩
  refine ⟨ρ, F, O, _, S, hw, fun d ρ1 v F1 H1 ⟨ks, vs, ed, wk1⟩ S1 fs1 ko1 g1 r1 => ?_⟩
  subst ed
  obtain ⟨q, kvs, rfl, h1, hks, dp, rk, rv⟩ := (r1.bv S1).dmx S1.sub
  rw [hks] at rk
  have hks := nkeys_of hks
  subst hks
  have kv1 := nkeys_ok dp rk
  refine ⟨q, kvs, rfl, ⟨h1, fun p hp => ⟨(kv1 p hp).1.sub S1.sub, dp p hp⟩⟩, ρ1, F1, O, _, S1, wk1, fun kd ρ2 u F2 H2 wd1 S2 fs2 ko2 g2 r2 => ⟨ρ2, F2, O, _, S2, wd1, fun z ρ3 y F3 H3 ⟨kk, ek, dk, hK⟩ S3 fs3 ko3 g3 r3 => ?_⟩⟩
  obtain ⟨e2, q2⟩ := g2 rfl
  obtain ⟨e3, q3⟩ := g3 rfl
  have h3 := Rd.up (Rd.up h1 q2.hs) q3.hs
  subst ek
  refine ⟨kvs, kk, ⟨h3, fun p hp => ⟨((kv1 p hp).1.sub (fs2.trans fs3)).sub S3.sub, dp p hp⟩⟩, ((rep_keyV r2).sub fs3).sub S3.sub, dk, ?_⟩
  exact next _ ρ3 _ F3 H3 hK S3 ((fs1.trans fs2).trans fs3) (fun q hq => by rw [ko3 q hq, ko2 q hq, ko1 q hq]) (fun _ => ⟨e3.trans (e2.trans (g1 rfl).1), ((g1 rfl).2.trans q2).trans q3⟩) (valN_getD kk r3 (rv.same (fs2.trans fs3)))
/-- going through them -/
theorem walks_keysN {K : PySem.W.Frag} {F0 : Hp} {a : Addr} {o : Obj} {kvs : List VRow} {ks : List D} (h : F0 a = some (.frz o (mixO w a kvs))) (r : Reps K F0 (kvs.map (·.2.1)) ks) : Walks K F0 (ItkM w a o kvs) ks where
  go := fun F H i s1 st hi => by
    have at_ := st.s _ _ (s1 _ _ h)
    have len := r.length
    rw [List.length_map] at len
    refine ⟨⟨at_, by omega⟩, fun x H' ⟨e, p, e1, e2⟩ => ?_⟩
    obtain ⟨d, h1, h2⟩ := r.get (i := i) (v := p.2.1) (by rw [List.getElem?_map, e1]; rfl)
    exact ⟨d, F, h1, by rw [e]; exact .no, by rw [e2]; exact h2.same s1⟩
  stop := fun F H s1 s2 => ⟨s2 _ _ (s1 _ _ h), by
    have len := r.length
    rw [List.length_map] at len
    omega⟩
theorem walks_itemsN {K : PySem.W.Frag} {F0 : Hp} {a : Addr} {o : Obj} {kvs : List VRow} {ks ds : List D} (h : F0 a = some (.frz o (mixO w a kvs))) (rk : Reps K F0 (kvs.map (·.2.1)) ks) (r : Reps K F0 (kvs.map (·.2.2)) ds) : Walks K F0 (ItiM w a o kvs) (pairsD ks ds) where
  go := fun F H i s1 st hi => by
    have at_ := st.s _ _ (s1 _ _ h)
    have len := r.length
    have lenk := rk.length
    rw [List.length_map] at len lenk
    have hi' : i < kvs.length := by
      simp only [pairsD, List.length_zipWith] at hi
      omega
    refine ⟨⟨at_, hi'⟩, fun x H' ⟨T, p, e1, e2, e3, e4⟩ => ?_⟩
    obtain ⟨dk, k1, k2⟩ := rk.get (i := i) (v := p.2.1) (by rw [List.getElem?_map, e1]; rfl)
    obtain ⟨d, h1, h2⟩ := r.get (i := i) (v := p.2.2) (by rw [List.getElem?_map, e1]; rfl)
    obtain ⟨al, rp⟩ := al_tup (K := K) (us := [p.2.1, p.2.2]) (es := [dk, d]) st.s e3 (.cons (k2.same s1) (.cons (h2.same s1) .nil))
    refine ⟨_, _, ?_, by rw [e4]; exact al, by rw [e2]; exact rp⟩
    unfold pairsD
    rw [List.getElem?_zipWith, k1, h1]
  stop := fun F H s1 s2 => ⟨s2 _ _ (s1 _ _ h), by
    have len := r.length
    have lenk := rk.length
    rw [List.length_map] at len lenk
    simp only [pairsD, List.length_zipWith]
    omega⟩
/-- for k in x, x of that kind -/
def wKyM {R : Rgn} (w : World) (we : WE R) : WI R := fun ρ K => we ρ fun d ρ1 => ∃ ks vs, d = .dmx w ks vs ∧ K ks ρ1
theorem di_keysM (he : DE X c pa false e we) : DI X c tg e (wKyM w we) :=
  ⟨(pi_keysN he.pe).imp fun σ H R ⟨ρ, F, O, Kk, S, w', k⟩ => ⟨ρ, F, O, _, S, w', fun d ρ1 v F1 H1 ⟨ks, vs, hd, hk⟩ S1 fs1 ko1 g1 r1 => by
    subst hd
    cases r1 with
    | @dM a od _ kvs _ _ h n dp rk r =>
      exact ⟨a, od, kvs, rfl, S1.sub _ _ h, k _ ρ1 F1 H1 _ hk S1 fs1 ko1 (walks_keysN h rk)⟩⟩⟩
/-- for k, v in x.items(), x of that kind or with plain keys -/
def wItM {R : Rgn} (w : World) (we : WE R) : WI R := fun ρ K => we ρ fun d ρ1 => ∃ ks vs, d = .dmx w ks vs ∧ K (pairsD ks vs) ρ1
theorem di_itemsM {elts : List Expr} {kk : Nat} {tpos : Pos} (he : DE X c pa false e we) (hbase : attributeBase e "items" X.env (eval e X.env) = eval e X.env := by rfl) (hline : (apos.endLine == cpos.line) = true := by rfl) : DI X c (.Tuple elts kk tpos) (.Call (.Attribute e "items" apos) [] [] cpos) (wItM w we) :=
  ⟨(pi_itemsM he.pe hbase hline).imp fun σ H R ⟨ρ, F, O, Kk, S, w', k⟩ => ⟨ρ, F, O, _, S, w', fun d ρ1 v F1 H1 ⟨ks, vs, hd, hk⟩ S1 fs1 ko1 g1 r1 => by
    subst hd
    cases r1 with
    | @dM a od _ kvs _ _ h n dp rk r =>
      exact ⟨a, od, kvs, rfl, S1.sub _ _ h, k _ ρ1 F1 H1 _ hk S1 fs1 ko1 (walks_itemsN h rk r)⟩⟩⟩
/-- list(x.items()) -/
def wItemsM {R : Rgn} (w : World) (we : WE R) : WE R := fun ρ K => we ρ fun d ρ1 => ∃ ks vs, d = .dmx w ks vs ∧ K (.lst (pairsD ks vs)) ρ1
theorem rows_repsM {K : PySem.W.Frag} {F F' H' : Hp} (fs : Same F F') : ∀ {ts : List Addr} {kvs : List VRow} {ks ds : List D}, Paired (fun (t : Addr) (q : VRow) => H' t = some (.tup [q.2.1, q.2.2])) ts kvs → (∀ t ∈ ts, F' t = H' t) → Reps K F (kvs.map (·.2.1)) ks → Reps K F (kvs.map (·.2.2)) ds →
    Reps K F' (ts.map V.ref) (pairsD ks ds)
  | _, _, _, _, .nil, _, .nil, .nil => .nil
  | _, _, _, _, .cons (a := t) (b := q) h t', hin, .cons rk rks, .cons r rs =>
    .cons (.tup (by rw [hin _ List.mem_cons_self]; exact h) (.cons (rk.same fs) (.cons (r.same fs) .nil))) (rows_repsM fs t' (fun x hx => hin x (List.mem_cons_of_mem _ hx)) rks rs)
theorem fe_itemsM (hm : X.mg "list" = none) (he : DE X c pa ba e we) (hc : X.calm = true := by rfl) (hg : Gl X "list" := by rfl) (hbase : attributeBase e "items" X.env (eval e X.env) = eval e X.env := by rfl) (hline : (apos.endLine == cpos.line) = true := by rfl)
    (hs : starEach [.Call (.Attribute e "items" apos) [] [] cpos] X.env = (false, eval (.Call (.Attribute e "items" apos) [] [] cpos) X.env) :: starEach [] X.env := by rfl) :
    FE X c pa (.Call (.Name "list" p) [.Call (.Attribute e "items" apos) [] [] cpos] [] pos) (wItemsM w we) :=
  ⟨(pe_itemsM hc he.pe hg hm (by decide +kernel) hbase hline hs).imp fun σ H Q ⟨ρ, F, O, Kk, S, w', next⟩ => by
    refine ⟨ρ, F, O, _, S, w', fun d ρ1 v F1 H1 ⟨ks, vs, ed, hK⟩ S1 fs1 ko1 g1 r1 => ?_⟩
    subst ed
    obtain ⟨a, kvs, rfl, h1, hks, dp, rk, rv⟩ := (r1.bv S1).dmx S1.sub
    refine ⟨a, kvs, rfl, h1, fun H' q ts k1 k2 k3 k4 k5 k6 => ?_⟩
    let F' : Hp := fun b => if b ∈ ts then H' b else F1 b
    have fin : ∀ t ∈ ts, F' t = H' t := fun t ht => if_pos ht
    have fs : Same F1 F' := fun b o h => by
      show (if b ∈ ts then H' b else F1 b) = some o
      by_cases z : b ∈ ts
      · have := k3 b z
        rw [S1.sub _ _ h] at this
        cases this
      · rw [if_neg z]; exact h
    have qF : F' q = none := by
      show (if q ∈ ts then H' q else F1 q) = none
      rw [if_neg k4]
      cases h : F1 q with
      | none => rfl
      | some o => rw [S1.sub _ _ h] at k2; cases k2
    have sub : Same F' (gone H' q) := fun b o h => by
      have bq : b ≠ q := fun z => by rw [z, qF] at h; cases h
      rw [gone_ne bq]
      have h : (if b ∈ ts then H' b else F1 b) = some o := h
      by_cases z : b ∈ ts
      · rw [if_pos z] at h; exact h
      · rw [if_neg z] at h; exact k1 _ _ (S1.sub _ _ h)
    have gr : Grow F1 H1 (cpl F' (gone H' q)) (gone H' q) := by
      refine cpl_grow S1.tin fs sub (fun b o h => ?_) (fun b h => ?_)
      · have bq : b ≠ q := fun z => by rw [z, k2] at h; cases h
        rw [gone_ne bq]
        exact k1 _ _ h
      · have h : (if b ∈ ts then H' b else F1 b) ≠ none := h
        by_cases z : b ∈ ts
        · exact .inr (k3 b z)
        · rw [if_neg z] at h; exact .inl h
    have := next (.lst (pairsD ks vs)) ρ1 q (.lst (ts.map V.ref)) _ (gone H' q) hK (S1.grow gr) (fs1.trans gr.fs) (fun z hz => by rw [gr.at (S1.out z hz).2.2]; exact ko1 z hz) (fun z => ⟨(g1 z).1, (g1 z).2.trans gr⟩) gone_at ((rows_repsM fs k6 fin rk rv).same (cpl_same sub))
    rw [gone_upd k5] at this
    exact this, he.kk⟩
/-- isinstance(x, T), x of that kind or any other -/
def isaM (w : World) (t : Ty) : D → Option D
  | .dmx _ _ _ => some (.bl (isTy .dict t))
  | x => isaD [t] x
theorem call_isiM : CallR X (.builtin "isinstance") (fun xs H Q => ∃ (a : Addr) (kvs : List VRow) (w : World) (t : Ty), xs = [.ref a, .ty t.nm] ∧ Rd H a (mixO w a kvs) ∧ Q (.bl (isTy .dict t)) H) := by
  intro pins s σ H xs us Q I r ⟨a, kvs, w, t, e, rd, q⟩
  subst e
  obtain ⟨u1, u2, rfl, r1, r2⟩ := vals2 r
  cases r1
  have e2 := (ClsV.ty t.nm).eq r2
  subst e2
  obtain ⟨⟨_, _, xs, _, o, es, ep, ho, hc, _⟩, _⟩ := rd.ok I.hok
  exact PySem.W.kia_one PySem.W.kitx_dict I.kIn ⟨o, ho, hc.1⟩ (kit_tt .dict t) (fun z => nomatch z) fun tk => ⟨.bl _, H, I.tok tk, rfl, q⟩
theorem de_isM {x : Str} {t : Ty} (hm : X.mg "isinstance" = none) (ht : TyN X x t) (he : DE X c pa ba e we) (hg : Gl X "isinstance" := by rfl)
    (he1 : starEach [e, .Name x p2] X.env = (false, eval e X.env) :: starEach [.Name x p2] X.env := by rfl) (he2 : starEach [.Name x p2] X.env = (false, eval (.Name x p2) X.env) :: starEach [] X.env := by rfl)
    (hpl : (backTo pos (starEach [.Name x p2] X.env)).any (·.1) = false := by rfl) : DE X c pa false (.Call (.Name "isinstance" p) [e, .Name x p2] [] pos) (wUn (isaM w t) we) :=
  ⟨(pe_callB ((call_isi (X := X)).or call_isiM) hg hm (by decide +kernel) (pa_cons he.pe (pa_cons ht.pe pa_nil he2) he1) (by decide) (by decide) he1 hpl).imp fun σ H Q ⟨ρ, F, O, Kk, S, w', k⟩ => ⟨ρ, F, O, _, S, w', fun x ρ1 v F1 H1 ⟨z, hz, hk⟩ S1 fs1 ko1 g1 r1 => by
    by_cases hx : ∃ w' ks vs, x = .dmx w' ks vs
    · obtain ⟨w', ks, vs, rfl⟩ := hx
      cases hz
      obtain ⟨a, kvs, rfl, h1, _⟩ := (r1.bv S1).dmx S1.sub
      exact .inr ⟨a, kvs, w', t, rfl, h1, k _ ρ1 _ F1 H1 hk S1 fs1 ko1 g1 (.bl _)⟩
    · have hz' : isaD [t] x = some z := by
        cases x <;> first | exact hz | exact absurd ⟨_, _, _, rfl⟩ hx
      left
      rw [he.kk]
      exact isa_ok S1.sub (r1.bv S1) hz' fun rp => k z ρ1 _ F1 H1 hk S1 fs1 ko1 g1 rp⟩, he.kk⟩
/-- one of two readings -/
theorem DE.or {pu bo : Bool} {w1 w2 : WE c.R} (h1 : DE X c pu bo e w1) (h2 : DE X c pu bo e w2) : DE X c pu bo e (fun ρ K => w1 ρ K ∨ w2 ρ K) :=
  ⟨⟨fun pins s σ H Q I ⟨ρ, F, O, Kk, S, w, k⟩ => w.elim (fun w => h1.pe.run pins s σ H Q I ⟨ρ, F, O, Kk, S, w, k⟩) fun w => h2.pe.run pins s σ H Q I ⟨ρ, F, O, Kk, S, w, k⟩⟩, h1.kk⟩
theorem DI.or {w1 w2 : WI c.R} (h1 : DI X c tg e w1) (h2 : DI X c tg e w2) : DI X c tg e (fun ρ K => w1 ρ K ∨ w2 ρ K) :=
  ⟨⟨fun pins s σ H R I ⟨ρ, F, O, Kk, S, w, k⟩ => w.elim (fun w => h1.pi.run pins s σ H R I ⟨ρ, F, O, Kk, S, w, k⟩) fun w => h2.pi.run pins s σ H R I ⟨ρ, F, O, Kk, S, w, k⟩⟩⟩
end
end Q

set_option Elab.async false
set_option linter.all false
set_option maxRecDepth 100000
set_option maxHeartbeats 4000000
/-! z.join(e), e a list or a tuple of texts -/
namespace Q
open PySem PySem.Spec PyProof.Rows L2
theorem reps_strs2 {K : PySem.W.Frag} {F : Hp} : ∀ {vs : List V} {zs : List Str}, Reps K F vs (zs.map .str) → vs = zs.map V.str
  | _, [], h => by cases h; rfl
  | _, z :: zs, h => by
    cases h with
    | cons r t =>
      cases r
      rw [reps_strs2 t]
      rfl
section
variable {X : Cx} {c : Ctx} {e o : Expr} {pos apos : Pos} {pa pb ba : Bool} {we wo : WE c.R}
def wJoin {R : Rgn} (wo we : WE R) : WE R := fun ρ K => wo ρ fun d ρ1 => ∃ a, d = .str a ∧ we ρ1 fun y ρ2 => ∃ zs : List Str, (y = .lst (zs.map .str) ∨ y = .tup (zs.map .str)) ∧ (zs.map (·.length)).sum + zs.length * a.length ≤ 100000 ∧ K (.str (PySem.Txt.join a zs)) ρ2
theorem de_join (ho : DE X c pa false o wo) (he : DE X c pb ba e we) (hs : starEach [e] X.env = [(false, eval e X.env)] := by rfl) (hbase : attributeBase o "join" X.env (eval o X.env) = eval o X.env := by rfl) (hline : (apos.endLine == pos.line) = true := by rfl) :
    DE X c (pa && pb) false (.Call (.Attribute o "join" apos) [e] [] pos) (wJoin wo we) :=
  ⟨(L2.pe_join ho.pe he.pe hs hbase hline).imp fun σ H Q ⟨ρ, F, O, Kk, S, w, k⟩ => ⟨ρ, F, O, _, S, w, fun d ρ1 v F1 H1 ⟨a, ed, hk⟩ S1 fs1 ko1 g1 r1 => by
    subst ed
    have ea : v = .str a := by cases r1; rfl
    refine ⟨⟨a, ea⟩, ρ1, F1, O, _, S1, hk, fun y ρ2 u F2 H2 ⟨zs, ey, hz, hK⟩ S2 fs2 ko2 g2 r2 => ?_⟩
    have seq : ∃ p, u = .ref p ∧ (SqL X.K H2 p (zs.map V.str) ∨ SqT X.K H2 p (zs.map V.str)) := by
      rcases ey with rfl | rfl
      · obtain ⟨p, vs, rfl, h, r⟩ := (r2.bv S2).lst S2.sub
        rw [reps_strs2 r] at h
        exact ⟨p, rfl, .inl (SqL.of h)⟩
      · obtain ⟨p, vs, rfl, h, r⟩ := (r2.bv S2).tup S2.sub
        rw [reps_strs2 r] at h
        exact ⟨p, rfl, .inr (by rw [ho.kk]; exact h)⟩
    obtain ⟨p, rfl, h⟩ := seq
    refine ⟨a, p, zs, ea, rfl, h, by omega, ?_⟩
    refine k _ ρ2 _ F2 H2 hK S2 (fs1.trans fs2) (fun q hq => by rw [ko2 q hq, ko1 q hq]) (fun e => ?_) (.str _)
    rw [Bool.and_eq_true] at e
    obtain ⟨e1, q1⟩ := g1 e.1
    obtain ⟨e2, q2⟩ := g2 e.2
    exact ⟨e2.trans e1, q1.trans q2⟩⟩, ho.kk⟩
end
/-! powers of numbers -/
def powD : D → D → Option D
  | .int a, .int b => if 0 ≤ b ∧ b ≤ 100 ∧ a.natAbs ≤ 1000 then some (.int (a ^ b.toNat)) else none
  | _, _ => none
theorem pow_ok {K : PySem.W.Frag} : R2D K (rI CPow fun i j => .int (i ^ j.toNat)) powD := fun {F H v u x y z Q} s bx by' hz k => by
  cases x <;> cases y <;> simp only [powD, reduceCtorEq] at hz
  case int.int a b =>
    split at hz
    · next h => cases hz; exact ⟨a, b, bx.int, by'.int, ⟨h.1, by omega, Nat.lt_of_le_of_lt h.2.2 (by decide)⟩, k _ F H .no (.int _)⟩
    · cases hz
section
variable {X : Cx} {c : Ctx} {a b : Expr} {pos : Pos} {pa pb ba bb : Bool} {wa wb : WE c.R}
theorem de_pow (ha : DE X c pa ba a wa) (hb : DE X c pb bb b wb) (hs : ba = false ∨ pb = true := by first | exact .inl rfl | exact .inr rfl) : DE X c (pa && pb) false (.BinOp a .Pow b pos) (wOp powD wa wb) := de_op (op_pow (X := X)) pow_ok ha hb hs
end
end Q

set_option Elab.async false
set_option linter.all false
set_option maxRecDepth 100000
set_option maxHeartbeats 4000000
/-! anything == {} -/
namespace Q
open PySem PySem.Spec PyProof.Rows L2
open PySem.Sem (wp)
open AutoSeq1 (wpAny_loadPart')
open MeetsSeq SeqAt
section
variable {es : Array DictEntry} {ep : Nat} {l : Addr} {sl : Array (Option Value)}
abbrev dObj (es : Array DictEntry) (ep : Nat) (sl : Array (Option Value)) : Obj := { cls := .type "dict", dict := none, data := .dict es ep, slots := sl }
theorem int_dict_no (b : Int) (u : Tok) : Meets (Builtin.«int.__eq__» ⟨[.int b u, .ref l], []⟩) (fun _ R s => s.heap.get? l = some (dObj es ep sl) ∧ R (.ok (.ret .notImplemented)) s) :=
  .of_wp fun prog w A R s h => by obtain ⟨hp, g, d, tk, os⟩ := s; obtain ⟨hl, h⟩ := h; wp_walk using wpAny_loadPart' hl, wpAny_load hl; exact ⟨_, rfl, h⟩
theorem bool_dict_no (b : Bool) : Meets (Builtin.«int.__eq__» ⟨[.bool b, .ref l], []⟩) (fun _ R s => s.heap.get? l = some (dObj es ep sl) ∧ R (.ok (.ret .notImplemented)) s) :=
  .of_wp fun prog w A R s h => by obtain ⟨hp, g, d, tk, os⟩ := s; obtain ⟨hl, h⟩ := h; wp_walk using wpAny_loadPart' hl, wpAny_load hl; exact ⟨_, rfl, h⟩
theorem sub_dict_str' : isSubtype (.type "dict") (.type "str") = pure false := by rw [isSubtype_type]; kernel_rfl
theorem str_dict_no (b : Str) (u : Tok) : Meets (Builtin.«str.__eq__» ⟨[.str b u, .ref l], []⟩) (fun _ R s => s.heap.get? l = some (dObj es ep sl) ∧ R (.ok (.ret .notImplemented)) s) :=
  .of_wp fun prog w A R s h => by obtain ⟨hp, g, d, tk, os⟩ := s; obtain ⟨hl, h⟩ := h; have f1 := sub_dict_str'; wp_walk using wpAny_loadPart' hl; exact ⟨_, rfl, h⟩
end
section
variable {prog : Program} {w : World} {A : Around} {E : Value → Shared → Prop} {s : Shared}
theorem dict_no {l : Addr} {v : Value} {T : String} {Q : Value → Shared → Prop} (tl : s.TypeIs (.ref l) "dict") (hv : s.TypeIs v T) (sub : isSubtype (.type T) (.type "dict") = pure false) (q : Q .notImplemented s) :
    wpAny (model prog w) A (call (.builtin "dict.__eq__") [.ref l, v]) Q E s := by
  refine wpAny_call_entry PySem.F.slot_dict_eq_refl tl PySem.F.entry_dict_eq ?_ (PySem.F.args_dict_eq_2 _ _)
  show wpAny _ _ (Builtin.Dict.dictSlotArgs "__eq__" ⟨[.ref l, v], []⟩ >>= _) _ _ s
  refine wpAny_bind ?_
  unfold Builtin.Dict.dictSlotArgs
  refine wpAny_bind (wpAny_notOrdered_dict tl ?_)
  show wpAny _ _ (pure (Value.ref l, v)) _ _ s
  refine wpAny_pure (wpAny_bind (wpAny_isInstance hv sub ?_))
  simp only [Bool.not_false, if_true]
  exact wpAny_bind (wpAny_rule (wpAny_bind (wpAny_pure (wpAny_pure ⟨_, rfl, q⟩))))
end
section
variable {X : Cx}
/-- no dict at all, or an empty one that may have keys of any kinds -/
def rEqE : R2 := fun x y H Q => ∃ b, y = .ref b ∧ Rd H b (.dK []) ∧ (((x = .non ∨ (∃ k, x = .bl k) ∨ (∃ i, x = .int i) ∨ ∃ z, x = .str z) ∧ Q (.bl false) H) ∨ (∃ a w, x = .ref a ∧ Rd H a (mixO w a []) ∧ Q (.bl true) H))
theorem empty_at {pins : List (Addr × Obj)} {σ : L2.St} {H : Hp} {s : Shared} {b : Addr} (I : Inv X pins σ H s) (h : Rd H b (.dK [])) : (b == sysModules) = false ∧ ∃ (ep : Nat), s.heap.get? b = some (dObj #[] ep #[]) := by
  have go : ∀ (o : Obj) (es : Array DictEntry) (ep : Nat), o.ExactDict → o.data = .dict es ep → es.toList = [] → o = dObj #[] ep #[] := fun o es ep hc hd he => by
    obtain ⟨l⟩ := es
    have he : l = [] := he
    subst he
    obtain ⟨cls, dd, data, sl⟩ := o
    obtain ⟨h1, h2, h3⟩ := hc
    simp only at h1 h2 h3 hd
    subst h1 h2 h3 hd
    rfl
  obtain ⟨_, hs, vs, kv, o, es, ep, ho, hc, hd, hk, hr, _⟩ := h.ok I.hok
  have : vs = [] := by cases kv; rfl
  subst this
  have eo := go o es ep hc hd (by cases hq : es.toList with
    | nil => rfl
    | cons x xs => rw [hq] at hr; cases hr)
  subst eo
  exact ⟨hs, ep, ho⟩
theorem mix_empty {pins : List (Addr × Obj)} {σ : L2.St} {H : Hp} {s : Shared} {a : Addr} {w : World} (I : Inv X pins σ H s) (h : Rd H a (mixO w a [])) : (a == sysModules) = false ∧ ∃ (ep : Nat), s.heap.get? a = some (dObj #[] ep #[]) := by
  obtain ⟨⟨hs, _, xs, rel, o, es, ep, ho, hc, hd, he, _⟩, _⟩ := h.ok I.hok
  have : xs = [] := by cases rel; rfl
  subst this
  have he : es = #[] := by
    obtain ⟨l⟩ := es
    have he : l = [] := he
    rw [he]
  subst he
  obtain ⟨cls, dd, data, sl⟩ := o
  obtain ⟨h1, h2, h3⟩ := hc
  simp only at h1 h2 h3 hd
  subst h1 h2 h3 hd
  exact ⟨hs, ep, ho⟩
theorem dictOf_empty {P : Program} {w : World} {h : Heap} {a : Addr} {ep : Nat} {sl : Array (Option Value)} (e : h.get? a = some (dObj #[] ep sl)) (f : (dObj #[] ep sl).ExactDict) : h.DictOf (mixKind P w) a [] :=
  ⟨_, #[], ep, e, f, rfl, fun _ he => by simp at he, .nil, List.nodup_nil⟩
theorem op_eqE (hu : X.A.units + 1 < cLine) : OpR X (compareOp .Eq) rEqE := by
  intro pins s σ H x y v u Q I rx ry ⟨b, ey, hb, h⟩
  subst ey
  cases ry
  obtain ⟨hs, ep, ho⟩ := empty_at I hb
  have tb : s.TypeIs (.ref b) "dict" := ⟨_, ho, rfl⟩
  rcases h with ⟨hx, q⟩ | ⟨a, w, ex, ha, q⟩
  · have fin : EP X pins σ Q (.bool false) s := ⟨.bl false, H, I, rfl, q⟩
    show wpAny _ _ (richCompare .Eq v (.ref b)) _ _ s
    rcases hx with rfl | ⟨k, rfl⟩ | ⟨i, rfl⟩ | ⟨z, rfl⟩
    · cases rx
      exact rc_eq_decline_or (k := false) rfl tb (by decide) F.sub_dict_NoneType F.slot_NoneType_eq PySem.F.slot_dict_eq_refl
        (fun _ hq => call_gives F.slot_NoneType_eq rfl F.entry_NoneType_eq (F.args_NoneType_eq_2 _ _) (NoneType___eq___none_ref_0 b) hq)
        (fun _ hq => dict_no tb rfl F.sub_NoneType_dict hq)
        (fun _ hq => wpAny_of_eq (rfl : isSame .none (.ref b) = pure false) hq) (.inr (by omega)) fin
    · cases rx
      exact rc_eq_decline_or (k := false) rfl tb (by decide) F.sub_dict_bool F.slot_bool_eq PySem.F.slot_dict_eq_refl
        (fun _ hq => call_meets F.slot_bool_eq rfl F.entry_int_eq (F.args_int_eq_2 _ _) (bool_dict_no k) ⟨ho, hq⟩)
        (fun _ hq => dict_no tb rfl F.sub_bool_dict hq)
        (fun _ hq => wpAny_of_eq (rfl : isSame (.bool k) (.ref b) = pure false) hq) (.inr (by omega)) fin
    · obtain ⟨t, e⟩ := (show ∃ t, v = Value.int i t from rx)
      subst e
      exact rc_eq_decline_or (k := false) (typeIs_int s i t) tb (by decide) F.sub_dict_int F.slot_int_eq PySem.F.slot_dict_eq_refl
        (fun _ hq => call_meets F.slot_int_eq (typeIs_int s i t) F.entry_int_eq (F.args_int_eq_2 _ _) (int_dict_no i t) ⟨ho, hq⟩)
        (fun _ hq => dict_no tb (typeIs_int s i t) F.sub_int_dict hq)
        (fun _ hq => wpAny_of_eq (rfl : isSame (.int i t) (.ref b) = pure false) hq) (.inr (by omega)) fin
    · obtain ⟨t, e⟩ := (show ∃ t, v = Value.str z t from rx)
      subst e
      exact rc_eq_decline_or (k := false) (typeIs_str s z t) tb (by decide) F.sub_dict_str F.slot_str_eq PySem.F.slot_dict_eq_refl
        (fun _ hq => call_meets F.slot_str_eq (typeIs_str s z t) F.entry_str_eq (F.args_str_eq_2 _ _) (str_dict_no z t) ⟨ho, hq⟩)
        (fun _ hq => dict_no tb (typeIs_str s z t) F.sub_str_dict hq)
        (fun _ hq => wpAny_of_eq (rfl : isSame (.str z t) (.ref b) = pure false) hq) (.inr (by omega)) fin
  · subst ex
    cases rx
    obtain ⟨hs2, ep2, ho2⟩ := mix_empty I ha
    have fin : EP X pins σ Q (.bool true) s := ⟨.bl true, H, I, rfl, q⟩
    show wpAny _ _ (richCompare .Eq (.ref a) (.ref b)) _ _ s
    refine PySem.W.rcP_dicts (knd := mixKind X.prog X.w) (ka := []) (kb := []) (r := true) hs2 hs (dictOf_empty ho2 ⟨rfl, rfl, rfl⟩) (dictOf_empty ho ⟨rfl, rfl, rfl⟩) (by omega) (fun _ => .nil) _ _ fin
end
end Q

set_option Elab.async false
set_option linter.all false
set_option maxRecDepth 100000
set_option maxHeartbeats 4000000
/-! a list and a list, as a list of one's own; anything == {} -/
namespace Q
open PySem PySem.Spec PyProof.Rows L2
section
variable {X : Cx} {c : Ctx} {a b : Expr} {pos : Pos} {pa pb ba bb : Bool} {wa wb : WE c.R} {j : Nat}
def addLD : D → D → Option D
  | .lst a, .lst b => if a.length + b.length ≤ 100000 then some (.lst (a ++ b)) else none
  | _, _ => none
theorem fe_addL (ha : DE X c pa ba a wa) (hb : DE X c pb bb b wb) (hs : ba = false ∨ pb = true := by first | exact .inl rfl | exact .inr rfl) : FE X c (pa && pb) (.BinOp a .Add b pos) (wOp addLD wa wb) :=
  by
    refine ⟨(pe_op (op_cat (X := X)) ha.pe hb.pe).imp fun σ H Q ⟨ρ, F, O, Kk, S, w, k⟩ => ?_, ha.kk⟩
    refine ⟨ρ, F, O, _, S, w, fun x ρ1 v F1 H1 hk S1 fs1 ko1 g1 r1 => ⟨ρ1, F1, O, _, S1, hk, fun y ρ2 u F2 H2 ⟨z, hz, kz⟩ S2 fs2 ko2 g2 r2 => ?_⟩⟩
    have c1 : VRep c.K F2 σ ρ2.sl v x ba := r1.carry fs2 (hs.imp id fun e => by rw [(g2 e).1])
    cases x <;> cases y <;> simp only [addLD, reduceCtorEq] at hz
    case lst.lst xs ys =>
      split at hz
      · next h =>
        cases hz
        obtain ⟨p, vs, rfl, h1, q1⟩ := (c1.bv S2).lst S2.sub
        obtain ⟨q, us, rfl, h2, q2⟩ := (r2.bv S2).lst S2.sub
        refine ⟨p, q, vs, us, rfl, rfl, h1, h2, by rw [q1.length, q2.length]; exact Nat.le_trans h big_line, fun l hl => ?_⟩
        refine k _ ρ2 l (.lst (vs ++ us)) F2 H2 kz S2 (fs1.trans fs2) (fun q hq => by rw [ko2 q hq, ko1 q hq]) (fun e => ?_) hl (q1.append q2)
        rw [Bool.and_eq_true] at e
        obtain ⟨e1, z1⟩ := g1 e.1
        obtain ⟨e2, z2⟩ := g2 e.2
        exact ⟨e2.trans e1, z1.trans z2⟩
      · cases hz
/-- x == {}, x no dict, or an empty one -/
def eqE : D → D → Option D
  | .non, .dct [] [] => some (.bl false)
  | .bl _, .dct [] [] => some (.bl false)
  | .int _, .dct [] [] => some (.bl false)
  | .str _, .dct [] [] => some (.bl false)
  | .dmx _ [] [], .dct [] [] => some (.bl true)
  | _, _ => none
theorem eqE_dct {x y z : D} (h : eqE x y = some z) : y = .dct [] [] := by
  unfold eqE at h
  split at h <;> first | rfl | cases h
theorem c_eqE (hr : Room j X.A) (hk : X.K = c.K := by rfl) : CmpR X c .Eq eqE := ⟨rEqE, op_eqE (by have := hr.units; omega), fun {F H v u x y z Q} s bx by' hz k => by
  have ey := eqE_dct hz
  subst ey
  obtain ⟨b, kvs, rfl, hb, hks, rv⟩ := by'.dct s
  have : kvs = [] := by cases kvs with
    | nil => rfl
    | cons p q => cases hks
  subst this
  refine ⟨b, rfl, hb, ?_⟩
  cases x <;> simp only [eqE, reduceCtorEq] at hz
  case non => cases hz; exact .inl ⟨.inl bx.non, k _ F H .no (.bl _)⟩
  case bl b => cases hz; exact .inl ⟨.inr (.inl ⟨b, bx.bl⟩), k _ F H .no (.bl _)⟩
  case int i => cases hz; exact .inl ⟨.inr (.inr (.inl ⟨i, bx.int⟩)), k _ F H .no (.bl _)⟩
  case str z => cases hz; exact .inl ⟨.inr (.inr (.inr ⟨z, bx.str⟩)), k _ F H .no (.bl _)⟩
  case dmx w ks vs =>
    cases ks with
    | cons _ _ => cases hz
    | nil =>
      cases vs with
      | cons _ _ => cases hz
      | nil =>
        cases hz
        obtain ⟨a, rows, rfl, ha, hks, _⟩ := bx.dmx s
        have : rows = [] := by cases rows with
          | nil => rfl
          | cons p q => cases hks
        subst this
        exact .inr ⟨a, w, rfl, ha, k _ F H .no (.bl _)⟩⟩
/-- isinstance(x, (T, ..)), x of any kind -/
def isaMs (ns : List Ty) : D → Option D
  | .dmx _ _ _ => some (.bl (ns.any (isTy .dict)))
  | x => isaD ns x
theorem call_isiMT : CallR X (.builtin "isinstance") (fun xs H Q => ∃ (a : Addr) (kvs : List VRow) (w : World) (tp : Addr) (ns : List Ty), xs = [.ref a, .ref tp] ∧ H tp = some (.tup (ns.map fun t => V.ty t.nm)) ∧ Rd H a (mixO w a kvs) ∧ Q (.bl (ns.any (isTy .dict))) H) := by
  intro pins s σ H xs us Q I r ⟨a, kvs, w, tp, ns, e, hT, rd, q⟩
  subst e
  obtain ⟨u1, u2, rfl, r1, r2⟩ := vals2 r
  cases r1
  cases r2
  obtain ⟨⟨_, _, rows, _, ob, es, ep, ho, hcx, _⟩, _⟩ := rd.ok I.hok
  obtain ⟨_, its, rv, o, h1, h2, n, h3⟩ := (show ObjOk X.prog X.w H s.heap tp (.tup _) from I.hok tp _ hT)
  have e3 := ClsV.all (clsV_ns ns) rv
  subst e3
  obtain ⟨oc, od, dt, sl⟩ := o
  simp only at h2 h3
  subst h2 h3
  exact PySem.W.kia_tup PySem.W.kitx_dict I.kIn ⟨ob, ho, hcx.1⟩ h1 (kit_ts .dict ns) (fun z => nomatch z) fun tk => ⟨.bl _, H, I.tok tk, rfl, q⟩
theorem de_isNM {e : Expr} {es : List Expr} {p p2 : Pos} {we : WE c.R} {ns : List Ty} {kk} (hm : X.mg "isinstance" = none) (ht : TyNs X es ns) (he : DE X c pa ba e we) (hl : ns.length ≤ 10 := by decide) (hg : Gl X "isinstance" := by rfl)
    (he1 : starEach [e, .Tuple es kk p2] X.env = (false, eval e X.env) :: starEach [.Tuple es kk p2] X.env := by rfl) (he2 : starEach [.Tuple es kk p2] X.env = (false, eval (.Tuple es kk p2) X.env) :: starEach [] X.env := by rfl)
    (hpl : (backTo pos (starEach [.Tuple es kk p2] X.env)).any (·.1) = false := by rfl) : DE X c pa false (.Call (.Name "isinstance" p) [e, .Tuple es kk p2] [] pos) (wUn (isaMs ns) we) := by
  refine ⟨(pe_callB ((call_isiT (X := X)).or call_isiMT) hg hm (by decide +kernel) (pa_cons he.pe (pa_cons (pe_tup ht.pa) pa_nil he2) he1) (by decide) (by decide) he1 hpl).imp fun σ H Q ⟨ρ, F, O, Kk, S, w, k⟩ => ⟨ρ, F, O, _, S, w, fun x ρ1 v F1 H1 ⟨z, hz, hk⟩ S1 fs1 ko1 g1 r1 => ?_⟩, he.kk⟩
  refine ⟨by rw [List.length_map]; exact Nat.le_trans hl (Nat.le_trans (by decide) big_line), fun q hq => ?_⟩
  have al : Al F1 H1 (upd F1 q (.tup (ns.map fun t => V.ty t.nm))) (upd H1 q (.tup (ns.map fun t => V.ty t.nm))) := Al.one hq
  have gr := al.grow S1.sub
  have S2 := S1.grow gr
  have bv := (r1.grow gr.fs).bv S2
  by_cases hx : ∃ w' ks vs, x = .dmx w' ks vs
  · obtain ⟨w', ks, vs, rfl⟩ := hx
    cases hz
    obtain ⟨a, kvs, rfl, h1, _⟩ := bv.dmx S2.sub
    exact .inr ⟨a, kvs, w', q, ns, rfl, upd_same, h1, k _ ρ1 _ _ _ hk S2 (fs1.trans gr.fs) (fun x hx => by rw [ko_upd S1 hq x hx]; exact ko1 x hx) (fun e => ⟨(g1 e).1, (g1 e).2.trans gr⟩) (.bl _)⟩
  · have hz' : isaD ns x = some z := by
      cases x <;> first | exact hz | exact absurd ⟨_, _, _, rfl⟩ hx
    simp only [isaD, Option.map_eq_some_iff] at hz'
    obtain ⟨u, h1, rfl⟩ := hz'
    left
    rw [he.kk]
    exact ⟨v, q, _, _, _, _, rfl, upd_same, clsV_ns ns, ty_of2 S2.sub bv h1, kit_ts u ns, k _ ρ1 _ _ _ hk S2 (fs1.trans gr.fs) (fun x hx => by rw [ko_upd S1 hq x hx]; exact ko1 x hx) (fun e => ⟨(g1 e).1, (g1 e).2.trans gr⟩) (.bl _)⟩
end
end Q

set_option Elab.async false
set_option linter.all false
set_option maxRecDepth 100000
set_option maxHeartbeats 4000000
namespace K01
open PySem PySem.Spec PyProof.Rows L2 Q
/-! what a body told comes to -/
def bodyRes (CB : Addr) (x : D) (Kk : List D → Prop) (Xk : XW) : Prop := match sqOf x with
  | none => Xk CB ["index"] [.int 0]
  | some xs => match xs.findIdx? fun t => isNon (asPart t) with
    | some i => Xk CB ["index"] [.int (i : Nat)]
    | none => Kk (xs.map asPart)
def bodyIn (x : D) : Prop := (tmB x = true ∨ ∃ w ks vs, x = .dmx w ks vs) ∧ ∀ xs, sqOf x = some xs → xs.length ≤ 200
def mBody (CB : Addr) : WMX := fun ds Kk Xk => ∃ x, ds = [x] ∧ bodyIn x ∧ bodyRes CB x (fun ps => Kk (.tup ps)) Xk
def mLetters (CB : Addr) : WMX := fun ds Kk Xk => ∃ x, ds = [x] ∧ bodyIn x ∧ bodyRes CB x (fun ps => Kk (.lst ((lettersP ps).map .str))) Xk
theorem ix_last (ds : List D) (d : D) : ixD (.lst (ds ++ [d])) (.int (-1)) = some d := by
  have e : ixN (ds ++ [d]).length (-1) = some ds.length := by
    unfold ixN
    rw [List.length_append, List.length_singleton]
    split
    · omega
    · split
      · congr 1
        omega
      · omega
  show (ixN (ds ++ [d]).length (-1)).bind _ = _
  rw [e]
  simp
theorem bodyRes_imp {CB : Addr} {x : D} {Kk Kk' : List D → Prop} {Xk : XW} (h : bodyRes CB x Kk Xk) (hin : bodyIn x) (i : ∀ ps : List D, (∀ p ∈ ps, okPart p) → ps.length ≤ 200 → Kk ps → Kk' ps) : bodyRes CB x Kk' Xk := by
  unfold bodyRes at h ⊢
  cases hs : sqOf x with
  | none => rw [hs] at h; exact h
  | some xs =>
    simp only [hs] at h ⊢
    cases hf : xs.findIdx? fun t => isNon (asPart t) with
    | some j => simp only [hf] at h ⊢; exact h
    | none =>
      simp only [hf] at h ⊢
      refine i _ (fun p hp => ?_) (by rw [List.length_map]; exact hin.2 xs hs) h
      obtain ⟨t, ht, rfl⟩ := List.mem_map.mp hp
      rw [List.findIdx?_eq_none_iff] at hf
      rcases asPart_cases t with q | q
      · have := hf t ht
        rw [q] at this
        cases this
      · exact q
section
variable {P : Program} {w : World} {K : PySem.W.Frag} {mg : Str → Option Value} {base : Heap} {f : Addr} {fd : FuncData} {CB : Addr}
-- checked_body: slots 0 thing, 1 parts, 2 index, 3 part
abbrev s_checked_body : Stmt := (top 25)
abbrev N_sc_checked_body : List Str := ["thing", "parts", "index", "part"]
theorem sc_checked_body : FnScope N_sc_checked_body ["thing"] (defScope s_checked_body) := ⟨rfl, rfl, rfl, by decide +kernel, rfl, by decide +kernel, by decide +kernel⟩
theorem ok_checked_body (F : FnP K "checked_body" "checked_body" s_checked_body f fd) (T : Tx K mg) (C_as_part : Cal P w K mg base "as_part" 6 ["thing"] (spD K (wF tmd1 fun ds => asPart (ds.headD .non))))
    (T_BadBody : ExCl P w K mg base "BadBody" CB 1 ["index"]) :
    FnOk P w K mg base (L2.CX P w) 7 f fd ["thing"] (spX K (mBody CB)) :=
  FnX F sc_checked_body (fun ds Kk Xk h => by obtain ⟨x, rfl, _⟩ := h; rfl) fun cdv A outer s H Fz E Xk hr fit => ⟨_, 
(ds_cons (ds_if (dt_not (dt_truth (de_isNM T.b_isinstance (tns_cons (TyN.mk (t := .list) (by rfl) T.b_list (by decide +kernel) (by decide) (by decide)) (tns_cons (TyN.mk (t := .tuple) (by rfl) T.b_tuple (by decide +kernel) (by decide) (by decide)) tns_nil)) (de_v (i := 0))))) (ds_one (ds_raise T_BadBody takes_body fit (hr.mono (by decide)) (da_cons de_int da_nil))) ds_nil)
 (ds_cons (ds_new (i := 1) sc_checked_body.nd (fe_lst da_nil))
 (ds_cons (ds_for (hp := own_body) (di_enumA T.b_enumerate (de_v (i := 0))) (dg_tup (n := 2) (dgs_cons (dg_name (i := 2) sc_checked_body.nd) (dgs_cons (dg_name (i := 3) sc_checked_body.nd) dgs_nil)))
  (ds_cons (ds_app (i := 1) (de_call C_as_part hr (da_cons (de_v (i := 3)) da_nil)))
 (ds_one (ds_if (dt_cm c_is (de_ixA (de_b (i := 1)) (de_neg de_int)) de_non) (ds_one (ds_raise T_BadBody takes_body fit (hr.mono (by decide)) (da_cons (de_v (i := 2)) da_nil))) ds_nil))))
 (ds_one (ds_ret (de_tuple T.b_tuple (de_b (i := 1))))))))
  , fun ds Kk h => by
    obtain ⟨x, rfl, ⟨hx, hsm⟩, k⟩ := h
    unfold bodyRes at k
    cases hs : sqOf x with
    | none =>
      rw [hs] at k
      have hi : isaMs [.list, .tuple] x = some (.bl false) := by
        rcases hx with hx | ⟨w', ks, vs, rfl⟩
        · cases x <;> simp at hs hx <;> simp [isaMs, isaD]
        · rfl
      exact ⟨_, rfl, _, hi, false, rfl, itT ⟨rfl, k⟩⟩
    | some xs =>
      simp only [hs] at k
      have hz := hsm xs hs
      have hx : tmB x = true := hx.resolve_right fun ⟨w', ks, vs, e⟩ => by rw [e] at hs; cases hs
      have hx' := tmBs_iff.mp (sq_tms hs hx)
      have hi : isaMs [.list, .tuple] x = some (.bl true) := by rcases sq_cases hs with rfl | rfl <;> simp [isaMs, isaD]
      refine ⟨_, rfl, _, hi, true, rfl, itF ?_⟩
      refine ⟨by simp, ?_⟩
      let mk : List D → Option DV → Option DV → DS noR := fun ks x2 x3 => ⟨noG, [some (.fz x), some (.own (.lst ks)), x2, x3]⟩
      refine ⟨x, rfl, xs, by rcases sq_cases hs with h | h <;> simp [h], ?_⟩
      refine forGo_ind (fun rest ρ => ∃ j x2 x3, j ≤ xs.length ∧ rest = enumD j (xs.drop j) ∧ (∀ t ∈ xs.take j, isNon (asPart t) = false) ∧ ρ = mk ((xs.take j).map asPart) x2 x3) ?_ ?_ _ _ ⟨0, none, none, Nat.zero_le _, rfl, (fun t h => nomatch h), rfl⟩
      · rintro d rest N ρ hN ⟨j, x2, x3, hj, hr, hd, rfl⟩
        by_cases hlt : j < xs.length
        · rw [List.drop_eq_getElem_cons hlt] at hr
          obtain ⟨rfl, rfl⟩ : d = .tup [.int (j : Nat), xs[j]] ∧ rest = enumD (j + 1) (xs.drop (j + 1)) := by
            have h1 : d :: rest = .tup [.int (j : Nat), xs[j]] :: enumD (j + 1) (xs.drop (j + 1)) := hr
            exact ⟨(List.cons.inj h1).1, (List.cons.inj h1).2⟩
          have hm : xs[j] ∈ xs := List.getElem_mem hlt
          refine ⟨_, rfl, rfl, _, _, rfl, _, _, rfl, rfl, ?_⟩
          refine ⟨⟨_, rfl⟩, _, rfl, ⟨_, rfl, hx' _ hm⟩, ?_⟩
          refine ⟨_, rfl, by rw [List.length_map, List.length_take]; omega, ?_⟩
          have ix := ix_last ((xs.take j).map asPart) (asPart xs[j])
          rcases asPart_form xs[j] with h | ⟨zs, h2⟩
          · refine .inr ⟨_, rfl, .int (-1), rfl, asPart xs[j], ix, .bl true, by rw [h]; rfl, true, rfl, itT ⟨_, rfl, rfl, ?_⟩⟩
            have hf : (xs.findIdx? fun t => isNon (asPart t)) = some j := by
              rw [List.findIdx?_eq_some_iff_getElem]
              refine ⟨hlt, by rw [h]; rfl, fun i hi => ?_⟩
              have := hd xs[i] (by rw [List.mem_take_iff_getElem]; exact ⟨i, by omega, rfl⟩)
              rw [this]
              decide
            simp only [hf] at k
            exact k
          · refine .inr ⟨_, rfl, .int (-1), rfl, asPart xs[j], ix, .bl false, by rw [h2]; rfl, false, rfl, itF ?_⟩
            refine hN _ ⟨j + 1, some (.fz (.int (j : Nat))), some (.fz xs[j]), hlt, rfl, fun t ht => ?_, ?_⟩
            · rw [List.take_succ_eq_append_getElem hlt] at ht
              rcases List.mem_append.mp ht with q | q
              · exact hd t q
              · rw [List.mem_singleton.mp q, h2]
                rfl
            · rw [List.take_succ_eq_append_getElem hlt, List.map_append]
              rfl
        · rw [List.drop_eq_nil_of_le (by omega)] at hr
          cases hr
      · rintro ρ ⟨j, x2, x3, hj, hr, hd, rfl⟩
        have hj2 : ¬ j < xs.length := fun hlt => by
          rw [List.drop_eq_getElem_cons hlt] at hr
          cases hr
        have ej : xs.take j = xs := List.take_of_length_le (by omega)
        rw [ej] at hd ⊢
        have hf : (xs.findIdx? fun t => isNon (asPart t)) = none := by
          rw [List.findIdx?_eq_none_iff]
          exact hd
        simp only [hf] at k
        exact .inr ⟨_, rfl, _, rfl, k⟩⟩
-- letters_of: slots 0 body
abbrev s_letters_of : Stmt := (top 36)
abbrev N_sc_letters_of : List Str := ["body"]
theorem sc_letters_of : FnScope N_sc_letters_of ["body"] (defScope s_letters_of) := ⟨rfl, rfl, rfl, by decide +kernel, rfl, by decide +kernel, by decide +kernel⟩
theorem ok_letters_of (F : FnP K "letters_of" "letters_of" s_letters_of f fd) (T : Tx K mg) (C_checked_body : CalX P w K mg base "checked_body" 7 ["thing"] (spX K (mBody CB))) (C_letters_in : Cal P w K mg base "letters_in" 2 ["parts"] (spF K (wF oks fun ds => .lst ((lettersP ((sqOf (ds.headD .non)).getD [])).map .str)))) :
    FnOk P w K mg base (L2.CX P w) 8 f fd ["body"] (spX K (mLetters CB)) :=
  FnX F sc_letters_of (fun ds Kk Xk h => by obtain ⟨x, rfl, _⟩ := h; rfl) fun cdv A outer s H Fz E Xk hr fit => ⟨_, 
(ds_one (ds_ret (FE.de (fe_call C_letters_in hr (da_cons (de_callX C_checked_body pass_body fit hr (da_cons (de_v (i := 0)) da_nil)) da_nil)))))
  , fun ds Kk h => by
    obtain ⟨x, rfl, hin, k⟩ := h
    refine ⟨_, rfl, x, rfl, hin, bodyRes_imp k hin fun ps hp hl k => ?_⟩
    refine ⟨⟨.tup ps, ps, rfl, rfl, by omega, hp⟩, ?_⟩
    exact k⟩
end
end K01

set_option Elab.async false
set_option linter.all false
set_option maxRecDepth 100000
set_option maxHeartbeats 4000000
namespace K01
open PySem PySem.Spec PyProof.Rows L2 Q
theorem nn_upd {H H' : Hp} {p : Addr} {xs : List V} (n : NoNewT H H') : NoNewT H (upd H' p (.lst xs)) := fun b ys e => by
  by_cases z : b = p
  · rw [z, upd_same] at e; cases e
  · rw [upd_ne z] at e; exact n b ys e
/-! ### operators of either kind -/
section
variable {X : Cx}
theorem op_eqX (hu : X.A.units + 64 < cLine) : OpR X (compareOp .Eq) (fun x y H Q => rEq x y H Q ∨ rEqD X.K x y H Q) := op_eq.or (op_eqD hu)
theorem op_neX (hu : X.A.units + 64 < cLine) : OpR X (compareOp .NotEq) (fun x y H Q => rNe x y H Q ∨ rNeD X.K x y H Q) := op_ne.or (op_neD hu)
def rAddI : R2 := rI0 fun i j => .int (i + j)
def rAddX : R2 := fun x y H Q => rAddI x y H Q ∨ rCat x y H Q
theorem op_addX : OpR X (binaryOp .Add) rAddX := op_add.or op_cat
end
section
variable {P : Program} {w : World} {K : PySem.W.Frag} {mg : Str → Option Value} {base : Heap} {f : Addr} {fd : FuncData}
-- _law_start: slots 0 _law_script
abbrev s_L_start : Stmt := (top 39)
abbrev N_sc_L_start : List Str := ["_law_script"]
theorem sc_L_start : FnScope N_sc_L_start ["_law_script"] (defScope s_L_start) := ⟨rfl, rfl, rfl, by decide +kernel, rfl, by decide +kernel, by decide +kernel⟩
theorem ok_start (F : FnP K "_law_start" "_law_start" s_L_start f fd) (T : Tx K mg) : FnOk P w K mg base CX0 1 f fd ["_law_script"] (spStart K) := by
  refine F.ok sc_L_start (fun vs H Q E h => ?_) (fun cdv A outer s H vs Q E hr h => ?_)
  · obtain ⟨a, ns, rfl, _⟩ := h
    rfl
  · obtain ⟨a, ns, rfl, hS, hl, k⟩ := h
    refine ⟨_, PSs.nox (pss_one (ps_ret (pe_lst (pa_cons (pe_callTy call_list_of (by rfl) T.b_list (by decide +kernel) (pa_cons (pv 0) pa_nil)) (pa_cons pe_int (pa_cons pe_int (pa_cons pe_int pa_nil))))))), ?_⟩
    refine ⟨_, rfl, a, _, rfl, .inl hS, fun L hL => ?_⟩
    refine ⟨(by show 4 ≤ sizeLine; decide), fun st hst => ?_⟩
    have ne : st ≠ L := fun e => by rw [e, upd_same] at hst; cases hst
    have hst0 : H st = none := by rw [upd_ne ne] at hst; exact hst
    have hL0 : H L = none := hL
    refine k _ st L (fun b o e => ?_) (nn_upd (nn_upd (fun _ _ e => e))) ⟨ne, 0, 0, 11, ns, upd_same, ?_, hl, by decide, by decide, by decide, by decide, by decide⟩ hst0 hL0
    · have n1 := ne_of_none e hst0
      have n2 := ne_of_none e hL
      exact dat_of (by rw [upd_ne n1, upd_ne n2]; exact e) n1 n2
    · rw [upd_ne ne.symm, upd_same]
end
theorem ixL {K : PySem.W.Frag} {H : Hp} {p : Addr} {xs : List V} {i : Int} {v : V} {Q : VK} (h : SqL K H p xs) (ha : atI xs i = some v) (q : Q v H) : rIx K (.ref p) (.int i) H Q :=
  .inl ⟨p, xs, i, v, rfl, rfl, h, ha, q⟩
theorem ixLH {K : PySem.W.Frag} {H : Hp} {p : Addr} {xs : List V} {i : Int} {v : V} {Q : VK} (h : H p = some (.lst xs)) (ha : atI xs i = some v) (q : Q v H) : rIx K (.ref p) (.int i) H Q := ixL (SqL.of h) ha q
theorem addI {i j : Int} {H : Hp} {Q : VK} (q : Q (.int (i + j)) H) : rAddX (.int i) (.int j) H Q := .inl ⟨i, j, rfl, rfl, q⟩
theorem setLH {H : Hp} {p : Addr} {xs : List V} {k : Int} {j : Nat} {v : V} {Q : Hp → Prop} (ys : List V) (h : H p = some (.lst xs)) (hj : ixN xs.length k = some j) (hy : xs.set j v = ys) (q : Q (upd H p (.lst ys))) : rSetL (.ref p) (.int k) v H Q :=
  ⟨p, xs, k, j, rfl, rfl, h, hj, by rw [hy]; exact q⟩
theorem eqS {K : PySem.W.Frag} {x y : V} {H : Hp} {Q : VK} (h : scal x y = true) (q : Q (.bl (decide (x = y))) H) : rEq x y H Q ∨ rEqD K x y H Q := .inl ⟨h, q⟩
/-- all of the stream's heap but the stream -/
theorem dat_same {st L : Addr} {H H' : Hp} (h : ∀ b, b ≠ st → b ≠ L → H b ≠ none → H' b = H b) : Same (dat st L H) (dat st L H') := fun b o e => by
  obtain ⟨e1, n1, n2⟩ := dat_sub e
  exact dat_of (by rw [h b n1 n2 (by rw [e1]; exact fun z => by cases z)]; exact e1) n1 n2
theorem dat_upd_st {st L : Addr} {H : Hp} {o : HO} : Same (dat st L H) (dat st L (upd H st o)) := dat_same fun b n1 _ _ => upd_ne n1
theorem dat_upd_L {st L : Addr} {H : Hp} {o : HO} : Same (dat st L H) (dat st L (upd H L o)) := dat_same fun b _ n2 _ => upd_ne n2
theorem dat_upd_new {st L p : Addr} {H : Hp} {o : HO} (h : H p = none) : Same (dat st L H) (dat st L (upd H p o)) := dat_same fun b _ _ n => upd_ne fun e => n (by rw [e]; exact h)
structure DN (st L : Addr) (H H' : Hp) : Prop where
  d : Same (dat st L H) (dat st L H')
  n : NoNewT H H'
theorem DN.rfl' {st L : Addr} {H : Hp} : DN st L H H := ⟨fun _ _ e => e, fun _ _ e => e⟩
theorem DN.st {st L : Addr} {H H' : Hp} {xs : List V} (h : DN st L H H') : DN st L H (upd H' st (.lst xs)) := ⟨h.d.trans dat_upd_st, nn_upd h.n⟩
theorem DN.L {st L : Addr} {H H' : Hp} {xs : List V} (h : DN st L H H') : DN st L H (upd H' L (.lst xs)) := ⟨h.d.trans dat_upd_L, nn_upd h.n⟩
theorem DN.new {st L p : Addr} {H H' : Hp} {xs : List V} (h : DN st L H H') (hp : H' p = none) : DN st L H (upd H' p (.lst xs)) := ⟨h.d.trans (dat_upd_new hp), nn_upd h.n⟩
theorem dpAll_ints {K : PySem.W.Frag} {H : Hp} : ∀ cs : List Int, DpAll K H (cs.map V.int) (cs.map PyData.int)
  | [] => .nil
  | c :: cs => .cons (.int c) (dpAll_ints cs)
theorem canLay_ints : ∀ cs : List Int, PyData.canLayAll0 (cs.map PyData.int) = true
  | [] => rfl
  | c :: cs => by
    show (PyData.canLay0 (.int c) && PyData.canLayAll0 (cs.map PyData.int)) = true
    rw [canLay_ints cs]
    simp [PyData.canLay0]
theorem depth_ints : ∀ cs : List Int, PyData.depthAll (cs.map PyData.int) = 0
  | [] => rfl
  | c :: cs => by
    show max (PyData.depth (.int c)) (PyData.depthAll (cs.map PyData.int)) = 0
    rw [depth_ints cs]
    simp [PyData.depth]
theorem shaped_of {d : PyData} (h : d.canLay0 = true) (h2 : d.depth ≤ 64) : SeqAt.shaped d = true := by
  unfold SeqAt.shaped
  rw [h, decide_eq_true h2]
  rfl
theorem shaped_ints (cs : List Int) : SeqAt.shaped (.list (cs.map PyData.int)) = true :=
  shaped_of (by simp only [PyData.canLay0]; exact canLay_ints cs) (by simp only [PyData.depth]; rw [depth_ints]; decide)
theorem eqv_nil_ints (cs : List Int) : PyData.eqv (.list (cs.map PyData.int)) (.list []) = cs.isEmpty := by
  cases cs <;> rfl
/-- xs != [], ints -/
theorem neNil {K : PySem.W.Frag} {a b : Addr} {cs : List Int} {H : Hp} {Q : VK} (ha : SqL K H a (cs.map V.int)) (hb : SqL K H b []) (q : Q (.bl (!cs.isEmpty)) H) : rNe (.ref a) (.ref b) H Q ∨ rNeD K (.ref a) (.ref b) H Q :=
  .inr ⟨.list (cs.map PyData.int), .list [], .lst ha (dpAll_ints cs), .lst hb .nil, shaped_ints cs, rfl, by rw [eqv_nil_ints]; exact q⟩
section
variable {P : Program} {w : World} {K : PySem.W.Frag} {mg : Str → Option Value} {base : Heap} {f : Addr} {fd : FuncData}
-- _law_draw: slots 0 _law_stream, 1 _law_many, 2 _law_mixed, 3 _law_cell, 4 _law_digit
abbrev s_L_draw : Stmt := (top 40)
abbrev N_sc_L_draw : List Str := ["_law_stream", "_law_many", "_law_mixed", "_law_cell", "_law_digit"]
theorem sc_L_draw : FnScope N_sc_L_draw ["_law_stream", "_law_many"] (defScope s_L_draw) := ⟨rfl, rfl, rfl, by decide +kernel, rfl, by decide +kernel, by decide +kernel⟩
/-- the stream with its numbers told -/
structure Sm1 (st L : Addr) (cell n seed : Int) (cs : List Int) (H : Hp) : Prop where
  a : H st = some (.lst [.ref L, .int cell, .int n, .int seed])
  b : H L = some (.lst (cs.map V.int))
theorem Sm1.put {st L : Addr} {cell n seed cell' n' seed' : Int} {cs : List Int} {H : Hp} (h : Sm1 st L cell n seed cs H) (ne : st ≠ L) : Sm1 st L cell' n' seed' cs (upd H st (.lst [.ref L, .int cell', .int n', .int seed'])) :=
  ⟨upd_same, by rw [upd_ne ne.symm]; exact h.b⟩
theorem pw {x : Int} {j : Int} (hj : 0 ≤ j ∧ j ≤ 1000000) (h0 : 0 ≤ x) (h1 : x < 1000000000000000000) : CPow x j :=
  ⟨hj.1, hj.2, by
    have h2 : x.natAbs < 1000000000000000000 := by omega
    exact Nat.lt_trans h2 (by decide)⟩
theorem at4_0 {a b c d : V} : atI [a, b, c, d] 0 = some a := rfl
theorem at4_1 {a b c d : V} : atI [a, b, c, d] 1 = some b := rfl
theorem at4_2 {a b c d : V} : atI [a, b, c, d] 2 = some c := rfl
theorem at4_3 {a b c d : V} : atI [a, b, c, d] 3 = some d := rfl
theorem ok_draw (F : FnP K "_law_draw" "_law_draw" s_L_draw f fd) (T : Tx K mg) : FnOk P w K mg base CX0 1 f fd ["_law_stream", "_law_many"] spDraw := by
  refine F.ok sc_L_draw (fun vs H Q E h => ?_) (fun cdv A outer s H vs Q E hr h => ?_)
  · obtain ⟨st, L, c, m, rfl, _⟩ := h
    rfl
  · obtain ⟨st, L, c, m, rfl, ⟨ne, cell, n, seed, cs, hst, hL, h63, hc0, hn0, hnc, hs0, hs1⟩, hc, hm0, hm1, k⟩ := h
    refine ⟨_, PSs.nox (pss_cons (ps_asg (pe_op op_addX (pe_ix ix_seq (pv 0) pe_int (fun _ _ => rfl)) pe_int) (pg_sub (pv 0) pe_int set_list))
 (C8.pss_cut (ps_if (PW.pt (pw_and (pt_cmpR (op_eqX hr.units) (pe_ix ix_seq (pv 0) pe_int (fun _ _ => rfl)) pe_int (nomark _)) (pw_and1 (pt_cmpR (op_neX hr.units) (pe_ix ix_seq (pv 0) pe_int (fun _ _ => rfl)) (pe_lst pa_nil) (nomark _))))) (pss_cons (ps_set (i := 3) sc_L_draw.nd rfl (by first | exact Or.inl rfl | exact Or.inr rfl) (pe_bm PySem.F.plainAttrs_list PySem.F.slot_list_pop PySem.F.type_list_pop mt_popAt (pe_ix ix_seq (pv 0) pe_int (fun _ _ => rfl)) (pa_cons pe_int pa_nil)))
 (pss_cons (ps_asg (pe_op op_mod (pe_callTy call_int1 (by rfl) T.b_int (by decide +kernel) (pa_cons (pe_op op_addX (pe_op op_addX (pe_op op_mul (pe_ix ix_seq (pv 0) pe_int (fun _ _ => rfl)) pe_int) (pv 3)) pe_int) pa_nil)) pe_int) (pg_sub (pv 0) pe_int set_list))
 (pss_one (ps_asg (pe_ifExp (pt_cmpR op_ge (pv 3) (pe_op op_pow pe_int pe_int) (nomark _)) (pv 3) pe_int) (pg_sub (pv 0) pe_int set_list))))) pss_nil)
 (pss_cons (ps_if (pt_cmpR op_gt (pe_ix ix_seq (pv 0) pe_int (fun _ _ => rfl)) pe_int (nomark _)) (pss_cons (ps_set (i := 4) sc_L_draw.nd rfl (by first | exact Or.inl rfl | exact Or.inr rfl) (pe_op op_mod (pe_callTy call_int1 (by rfl) T.b_int (by decide +kernel) (pa_cons (pe_ix ix_seq (pv 0) pe_int (fun _ _ => rfl)) pa_nil)) (pv 1)))
 (pss_cons (ps_asg (pe_op op_fdiv (pe_ix ix_seq (pv 0) pe_int (fun _ _ => rfl)) (pv 1)) (pg_sub (pv 0) pe_int set_list))
 (pss_one (ps_ret (pv 4))))) pss_nil)
 (pss_cons (ps_set (i := 2) sc_L_draw.nd rfl (by first | exact Or.inl rfl | exact Or.inr rfl) (pe_op op_mod (pe_callTy call_int1 (by rfl) T.b_int (by decide +kernel) (pa_cons (pe_op op_pow (pe_op op_addX (pe_op op_addX (pe_ix ix_seq (pv 0) pe_int (fun _ _ => rfl)) (pe_op op_mul pe_int (pe_ix ix_seq (pv 0) pe_int (fun _ _ => rfl)))) pe_int) pe_int) pa_nil)) pe_int))
 (pss_one (ps_ret (pe_op op_mod (pe_op op_mod (pe_callTy call_int1 (by rfl) T.b_int (by decide +kernel) (pa_cons (pe_op op_pow (pe_op op_addX (pe_op op_addX (pe_op op_mul (pv 2) pe_int) (pe_op op_mul pe_int (pe_ix ix_seq (pv 0) pe_int (fun _ _ => rfl)))) pe_int) pe_int) pa_nil)) pe_int) (pv 1)))))))), ?_⟩
    refine ⟨_, rfl, ixLH hst at4_2 (addI ⟨_, rfl, setLH [.ref L, .int cell, .int (n + 1), .int seed] hst rfl rfl ?_⟩)⟩
    have s1 : Sm1 st L cell (n + 1) seed cs (upd H st (.lst [.ref L, .int cell, .int (n + 1), .int seed])) := Sm1.put ⟨hst, hL⟩ ne
    have d1 : DN st L H (upd H st (.lst [.ref L, .int cell, .int (n + 1), .int seed])) := DN.rfl'.st
    generalize upd H st (.lst [.ref L, .int cell, .int (n + 1), .int seed]) = H1 at s1 d1 ⊢
    refine ⟨fun σ' H' => ∃ (cell1 seed1 : Int) (cs1 : List Int) (x3 : Option V), σ' = [some (.ref st), some (.int m), none, x3, none] ∧ DN st L H H' ∧ Sm1 st L cell1 (n + 1) seed1 cs1 H' ∧ cs1.length ≤ 63 ∧ 0 ≤ cell1 ∧ 0 ≤ seed1 ∧ seed1 < 2147483647, ?_, ?_⟩
    · refine ⟨_, rfl, ixLH s1.a at4_1 (eqS rfl ⟨_, rfl, ?_⟩)⟩
      refine ite2 (fun c0 => ?_) (fun c0 => ?_)
      · refine ⟨_, rfl, ixLH s1.a at4_0 ⟨Nat.zero_le _, fun p hp => neNil (SqL.of (by rw [upd_ne (ne_of_none s1.b hp)]; exact s1.b)) (SqL.of upd_same) ⟨_, rfl, ?_⟩⟩⟩
        have np1 := ne_of_none s1.a hp
        have np2 := ne_of_none s1.b hp
        have s3 : Sm1 st L cell (n + 1) seed cs (upd H1 p (.lst [])) := ⟨by rw [upd_ne np1]; exact s1.a, by rw [upd_ne np2]; exact s1.b⟩
        have d3 : DN st L H (upd H1 p (.lst [])) := d1.new hp
        generalize upd H1 p (.lst []) = H3 at s3 d3 ⊢
        cases cs with
        | nil => exact ⟨cell, seed, [], _, rfl, d3, s3, h63, hc0, hs0, hs1⟩
        | cons z cs =>
          refine iteT ?_
          refine ⟨_, rfl, ixLH s3.a at4_0 ⟨.inl ⟨rfl, _, SqL.of s3.b⟩, L, _, 0, 0, .int z, rfl, rfl, s3.b, by decide, by decide, ?_, rfl, ?_⟩⟩
          · show seqIndex? 0 ((V.int z :: cs.map V.int).length) = some 0
            unfold seqIndex?
            simp
          have s4 : Sm1 st L cell (n + 1) seed cs (upd H3 L (.lst (cs.map V.int))) := ⟨by rw [upd_ne ne]; exact s3.a, upd_same⟩
          have d4 : DN st L H (upd H3 L (.lst (cs.map V.int))) := d3.L
          show tSeq _ _ _ _ (upd H3 L (.lst (cs.map V.int)))
          generalize upd H3 L (.lst (cs.map V.int)) = H4 at s4 d4 ⊢
          -- stream[3] = int(stream[3] * 8191 + cell + 3) % 2147483647
          refine ⟨_, rfl, ixLH s4.a at4_3 ⟨_, _, rfl, rfl, .inl ⟨by omega, by omega⟩, _, rfl, addI (addI (.inl ⟨_, rfl, _, _, rfl, rfl, (by show (0 : Int) < 2147483647; decide), _, rfl, setLH [.ref L, .int cell, .int (n + 1), .int ((seed * 8191 + z + 3) % 2147483647)] s4.a rfl rfl ?_⟩))⟩⟩
          have s5 : Sm1 st L cell (n + 1) ((seed * 8191 + z + 3) % 2147483647) cs (upd H4 st (.lst [.ref L, .int cell, .int (n + 1), .int ((seed * 8191 + z + 3) % 2147483647)])) := s4.put ne
          have d5 : DN st L H (upd H4 st (.lst [.ref L, .int cell, .int (n + 1), .int ((seed * 8191 + z + 3) % 2147483647)])) := d4.st
          generalize upd H4 st (.lst [.ref L, .int cell, .int (n + 1), .int ((seed * 8191 + z + 3) % 2147483647)]) = H5 at s5 d5 ⊢
          have hs2 : 0 ≤ (seed * 8191 + z + 3) % 2147483647 := Int.emod_nonneg _ (by decide)
          have hs3 : (seed * 8191 + z + 3) % 2147483647 < 2147483647 := Int.emod_lt_of_pos _ (by decide)
          generalize (seed * 8191 + z + 3) % 2147483647 = seed5 at s5 hs2 hs3 ⊢
          -- stream[1] = cell if cell >= 10 ** 18 else 0
          refine ⟨_, rfl, 10, 18, rfl, rfl, ⟨by decide, by decide, by decide⟩, _, _, rfl, rfl, _, rfl, ?_⟩
          refine ite2 (fun cz => ?_) (fun cz => ?_)
          · refine ⟨_, rfl, _, rfl, setLH [.ref L, .int z, .int (n + 1), .int seed5] s5.a rfl rfl ?_⟩
            have hz : (0 : Int) ≤ z := by
              have q := of_decide_eq_true cz
              have e : ((10 : Int) ^ ((18 : Int).toNat)) = 1000000000000000000 := by decide
              rw [e] at q
              omega
            exact ⟨z, seed5, cs, _, rfl, d5.st, s5.put ne, by simp at h63; omega, hz, hs2, hs3⟩
          · refine ⟨_, rfl, setLH [.ref L, .int 0, .int (n + 1), .int seed5] s5.a rfl rfl ?_⟩
            exact ⟨0, seed5, cs, _, rfl, d5.st, s5.put ne, by simp at h63; omega, by decide, hs2, hs3⟩
      · exact iteF ⟨cell, seed, cs, _, rfl, d1, s1, h63, hc0, hs0, hs1⟩
    · rintro σ' H' ⟨cell1, seed1, cs1, x3, rfl, d2, s2, hl, h0, h1, h2⟩
      have fin : Sm st L (c + 1) H' := ⟨ne, cell1, n + 1, seed1, cs1, s2.a, s2.b, hl, h0, by omega, by omega, h1, h2⟩
      refine ⟨_, rfl, ixLH s2.a at4_1 ⟨_, _, rfl, rfl, _, rfl, ?_⟩⟩
      refine ite2 (fun cz => ?_) (fun cz => ?_)
      · have cz := of_decide_eq_true cz
        refine ⟨_, rfl, ixLH s2.a at4_1 (.inl ⟨_, rfl, _, rfl, _, _, rfl, rfl, hm0, ?_⟩)⟩
        refine ⟨_, rfl, ixLH s2.a at4_1 ⟨_, rfl, _, _, rfl, rfl, ⟨hm0, by omega⟩, _, rfl, setLH [.ref L, .int (cell1 / m), .int (n + 1), .int seed1] s2.a rfl rfl ?_⟩⟩
        have s3 : Sm1 st L (cell1 / m) (n + 1) seed1 cs1 (upd H' st (.lst [.ref L, .int (cell1 / m), .int (n + 1), .int seed1])) := s2.put ne
        refine ⟨_, rfl, k _ _ d2.st.d d2.st.n ⟨ne, cell1 / m, n + 1, seed1, cs1, s3.a, s3.b, hl, Int.ediv_nonneg h0 (by omega), by omega, by omega, h1, h2⟩ (Int.emod_nonneg _ (by omega)) (Int.emod_lt_of_pos _ hm0)⟩
      · refine ⟨_, rfl, ixLH s2.a at4_3 ⟨_, rfl, ixLH s2.a at4_2 ⟨7919, _, rfl, rfl, .inl ⟨by decide, by decide⟩, addI (addI ⟨_, _, rfl, rfl, pw ⟨by decide, by decide⟩ (by omega) (by omega), .inl ⟨_, rfl, _, _, rfl, rfl, (by show (0 : Int) < 2147483629; decide), ?_⟩⟩)⟩⟩⟩
        have m0 : 0 ≤ ((seed1 + 7919 * (n + 1) + 104729) ^ (Int.toNat 5)) % 2147483629 := Int.emod_nonneg _ (by decide)
        have m1 : ((seed1 + 7919 * (n + 1) + 104729) ^ (Int.toNat 5)) % 2147483629 < 2147483629 := Int.emod_lt_of_pos _ (by decide)
        generalize ((seed1 + 7919 * (n + 1) + 104729) ^ (Int.toNat 5)) % 2147483629 = y at m0 m1 ⊢
        refine ⟨_, rfl, _, _, rfl, rfl, .inl ⟨by omega, by omega⟩, _, rfl, ixLH s2.a at4_2 ⟨30011, _, rfl, rfl, .inl ⟨by decide, by decide⟩, addI (addI ⟨_, _, rfl, rfl, pw ⟨by decide, by decide⟩ (by omega) (by omega), .inl ⟨_, rfl, _, _, rfl, rfl, (by show (0 : Int) < 1000000007; decide), _, rfl, _, _, rfl, rfl, hm0, ?_⟩⟩)⟩⟩
        exact k _ _ d2.d d2.n fin (Int.emod_nonneg _ (by omega)) (Int.emod_lt_of_pos _ hm0)
end
end K01

set_option Elab.async false
set_option linter.all false
set_option maxRecDepth 100000
set_option maxHeartbeats 4000000
namespace K01
open PySem PySem.Spec PyProof.Rows L2 Q
theorem perm_erase {α : Type} : ∀ {xs : List α} {i : Nat} (h : i < xs.length), (xs[i] :: xs.eraseIdx i).Perm xs
  | x :: xs, 0, _ => .refl _
  | x :: xs, i + 1, h => by
    have ih := perm_erase (xs := xs) (i := i) (by simpa using h)
    rw [List.eraseIdx_cons_succ, List.getElem_cons_succ]
    exact (List.Perm.swap _ _ _).trans (List.Perm.cons x ih)
abbrev TbL := List (Addr × Str)
/-- what is picked from: a list, a tuple, a text -/
def pkOf : D → Option (List D)
  | .lst xs => some xs
  | .tup xs => some xs
  | .str z => if z.length ≤ 100000 then some (Q.signs z) else none
  | _ => none
@[simp] theorem pkOf_lst (xs : List D) : pkOf (.lst xs) = some xs := rfl
@[simp] theorem pkOf_tup (xs : List D) : pkOf (.tup xs) = some xs := rfl
def mPick (TT : TbL) : WMR (Strm TT) := fun ds g Kk => ∃ d xs, ds = [.raw (.ref g.st), d] ∧ pkOf d = some xs ∧ 0 < xs.length ∧ xs.length ≤ 1000 ∧ g.c ≤ 1000000 ∧ ∀ y ∈ xs, Kk y (⟨g.st, g.L, g.c + 1⟩ : SG)
section
variable {P : Program} {w : World} {K : PySem.W.Frag} {mg : Str → Option Value} {base : Heap} {f : Addr} {fd : FuncData} {TT : TbL}
-- _law_pick: slots 0 _law_stream, 1 _law_some
abbrev s_L_pick : Stmt := (top 41)
abbrev N_sc_L_pick : List Str := ["_law_stream", "_law_some"]
theorem sc_L_pick : FnScope N_sc_L_pick ["_law_stream", "_law_some"] (defScope s_L_pick) := ⟨rfl, rfl, rfl, by decide +kernel, rfl, by decide +kernel, by decide +kernel⟩
theorem ok_L_pick (F : FnP K "_law_pick" "_law_pick" s_L_pick f fd) (T : Tx K mg) (C__law_draw : Cal P w K mg base "_law_draw" 1 ["_law_stream", "_law_many"] (spR (Strm TT) K (mDraw TT))) :
    FnOk P w K mg base CX0 2 f fd ["_law_stream", "_law_some"] (spR (Strm TT) K (mPick TT)) :=
  FnR F sc_L_pick (fun ds g Kk h => by obtain ⟨_, _, rfl, _⟩ := h; rfl) fun cdv A outer s H Fz Z E hr => ⟨_, 
(ds_one (ds_ret (de_ixA (de_v (i := 1)) (de_callR C__law_draw hr (da_cons (de_v (i := 0)) (da_cons (de_len T.b_len (de_v (i := 1))) da_nil))))))
  , fun ds g Kk h => by
    obtain ⟨d, xs, rfl, hd, h0, h1, hc, k⟩ := h
    have hl : lenD d = some (.int xs.length) ∧ ∀ i : Int, 0 ≤ i → i < xs.length → ixD d (.int i) = xs[i.toNat]? := by
      cases d <;> simp only [pkOf, reduceCtorEq] at hd
      case lst ys =>
        cases hd
        refine ⟨rfl, fun i i0 i1 => ?_⟩
        rw [Q.ix_lst]
        unfold ixN
        rw [if_pos i0, if_pos (by omega)]
        rfl
      case tup ys =>
        cases hd
        refine ⟨rfl, fun i i0 i1 => ?_⟩
        rw [Q.ix_tup]
        unfold ixN
        rw [if_pos i0, if_pos (by omega)]
        rfl
      case str z =>
        split at hd
        · next hz =>
          cases hd
          have e1 : (Q.signs z).length = z.length := by rw [Q.signs_length]; rfl
          refine ⟨by rw [e1]; simp [lenD, hz], fun i i0 i1 => ?_⟩
          have e2 : z.cps.toList.length = (Q.signs z).length := by simp [Q.signs]
          show (if z.length ≤ 100000 then (ixN z.cps.toList.length i).bind fun j => (Q.signs z)[j]? else none) = _
          rw [if_pos hz, e2]
          unfold ixN
          rw [if_pos i0, if_pos (by omega)]
          rfl
        · cases hd
    refine ⟨_, rfl, _, rfl, _, rfl, _, hl.1, _, rfl, hc, by omega, by omega, fun i i0 i1 => ?_⟩
    have hi : i.toNat < xs.length := by omega
    exact ⟨_, (hl.2 i i0 (by omega)).trans (List.getElem?_eq_getElem hi), k _ (List.getElem_mem hi)⟩⟩
end
end K01

set_option Elab.async false
set_option linter.all false
set_option maxRecDepth 100000
set_option maxHeartbeats 4000000
namespace K01
open PySem PySem.Spec PyProof.Rows L2 Q
/-! the law's own looks at words -/
def hasSg (d : D) (a b : Int) (s : Str) : Bool := match d with
  | .str z => decide (a ≤ (z.length : Int)) && decide ((z.length : Int) ≤ b) && z.cps.toList.all fun c => decide (c ∈ s.cps.toList)
  | _ => false
def mSigns : WM := fun ds Kk => ∃ d a b s, ds = [d, .int a, .int b, .str s] ∧ tame d ∧ s.length ≤ 100000 ∧ Kk (.bl (hasSg d a b s))
def isLs (d : D) : Bool := (sqOf d).isSome
theorem sf_split : ∀ c, c ∈ ("abcdefghijklmnopqrstuvwxyz0123456789" : Str).cps.toList → decide (c ∈ ("abcdefghijklmnopqrstuvwxyz" : Str).cps.toList) = !decide (c ∈ ("0123456789" : Str).cps.toList) := by decide +kernel
theorem cf_split : ∀ c, c ∈ ("ABCDEFGHIJKLMNOPQRSTUVWXYZ0123456789" : Str).cps.toList → decide (c ∈ ("ABCDEFGHIJKLMNOPQRSTUVWXYZ" : Str).cps.toList) = !decide (c ∈ ("0123456789" : Str).cps.toList) := by decide +kernel
theorem cf_cap : ∀ c, c ∈ ("ABCDEFGHIJKLMNOPQRSTUVWXYZ" : Str).cps.toList → c ∈ ("ABCDEFGHIJKLMNOPQRSTUVWXYZ0123456789" : Str).cps.toList := by decide +kernel
theorem cf_fig : ∀ c, c ∈ ("0123456789" : Str).cps.toList → c ∈ ("ABCDEFGHIJKLMNOPQRSTUVWXYZ0123456789" : Str).cps.toList := by decide +kernel
theorem in_barred (z : Str) : inD false (.str z) (.tup [.str "not", .str "unlike", .str "if"]) = some (.bl (decide (z = "not" ∨ z = "unlike" ∨ z = "if"))) := by
  by_cases h1 : z = "not"
  · subst h1; rfl
  · by_cases h2 : z = "unlike"
    · subst h2; rfl
    · by_cases h3 : z = "if"
      · subst h3; rfl
      · have a1 : ¬ ("not" : Str) = z := fun e => h1 e.symm
        have a2 : ¬ ("unlike" : Str) = z := fun e => h2 e.symm
        have a3 : ¬ ("if" : Str) = z := fun e => h3 e.symm
        simp [inD, inSq, isDat, isDats, dep, deps, xr, h1, h2, h3, a1, a2, a3]
section
variable {P : Program} {w : World} {K : PySem.W.Frag} {mg : Str → Option Value} {base : Heap} {f : Addr} {fd : FuncData}
-- _law_is_list: slots 0 _law_thing
abbrev s_L_is_list : Stmt := (top 47)
abbrev N_sc_L_is_list : List Str := ["_law_thing"]
theorem sc_L_is_list : FnScope N_sc_L_is_list ["_law_thing"] (defScope s_L_is_list) := ⟨rfl, rfl, rfl, by decide +kernel, rfl, by decide +kernel, by decide +kernel⟩
theorem ok_L_is_list (F : FnP K "_law_is_list" "_law_is_list" s_L_is_list f fd) (T : Tx K mg) : FnOk P w K mg base CX0 1 f fd ["_law_thing"] (spD K (wF tmd1 fun ds => .bl (isLs (ds.headD .non)))) :=
  FnD F sc_L_is_list (fun ds Kk h => by obtain ⟨⟨_, rfl, _⟩, _⟩ := h; rfl) fun cdv A outer s H Fz E hr => ⟨_, 
(ds_one (ds_ret (de_isN T.b_isinstance (tns_cons (TyN.mk (t := .list) (by rfl) T.b_list (by decide +kernel) (by decide) (by decide)) (tns_cons (TyN.mk (t := .tuple) (by rfl) T.b_tuple (by decide +kernel) (by decide) (by decide)) tns_nil)) (de_v (i := 0)))))
  , fun ds Kk h => by
    obtain ⟨⟨x, rfl, hx⟩, k⟩ := h
    have e : isaD [.list, .tuple] x = some (.bl (isLs x)) := by cases x <;> simp at hx <;> rfl
    exact ⟨_, rfl, _, e, k⟩⟩
-- _law_has_signs: slots 0 _law_thing, 1 _law_least, 2 _law_most, 3 _law_signs, 4 _law_sign
abbrev s_L_has_signs : Stmt := (top 48)
abbrev N_sc_L_has_signs : List Str := ["_law_thing", "_law_least", "_law_most", "_law_signs", "_law_sign"]
theorem sc_L_has_signs : FnScope N_sc_L_has_signs ["_law_thing", "_law_least", "_law_most", "_law_signs"] (defScope s_L_has_signs) := ⟨rfl, rfl, rfl, by decide +kernel, rfl, by decide +kernel, by decide +kernel⟩
theorem ok_L_has_signs (F : FnP K "_law_has_signs" "_law_has_signs" s_L_has_signs f fd) (T : Tx K mg) : FnOk P w K mg base CX0 1 f fd ["_law_thing", "_law_least", "_law_most", "_law_signs"] (spD K mSigns) :=
  FnD F sc_L_has_signs (fun ds Kk h => by obtain ⟨_, _, _, _, rfl, _⟩ := h; rfl) fun cdv A outer s H Fz E hr => ⟨_, 
(ds_one (ds_ret (de_and (de_is1 T.b_isinstance (TyN.mk (t := .str) (by rfl) T.b_str (by decide +kernel) (by decide) (by decide)) (de_v (i := 0))) (de_and (de_chain c_le c_le (de_v (i := 1)) (de_len T.b_len (de_v (i := 0))) (de_v (i := 2))) (de_one (de_all T.b_all (FE.de (fe_lc (own := [("_law_sign", 4)]) sc_L_has_signs.nd (di_seq (de_v (i := 0))) (blkOk_by (own := [("_law_sign", 4)]) (N := N_sc_L_has_signs) (sc := defScope s_L_has_signs) (by decide +kernel)) (fun _ _ _ _ _ => (dg_name (i := 4) sc_L_has_signs.nd)) (fun _ _ _ _ _ => dts_nil) (fun _ _ _ _ _ => (de_cm (c_in hr) (de_v (i := 4)) (de_v (i := 3))))))))))))
  , fun ds Kk h => by
    obtain ⟨d, a, b, s, rfl, hd, hs, k⟩ := h
    cases d with
    | str z =>
      have hd : z.length ≤ 100000 := hd
      have hl : lenD (.str z) = some (.int (z.length : Nat)) := by simp [lenD, hd]
      have k : Kk (.bl (decide (a ≤ (z.length : Int)) && decide ((z.length : Int) ≤ b) && z.cps.toList.all fun c => decide (c ∈ s.cps.toList))) := k
      refine ⟨_, rfl, .bl true, rfl, true, rfl, itT ?_⟩
      refine ⟨_, rfl, _, rfl, _, hl, decide (a ≤ (z.length : Int)), rfl, ?_⟩
      cases h1 : decide (a ≤ (z.length : Int)) with
      | false => rw [h1] at k; exact itF ⟨false, rfl, itF k⟩
      | true =>
        refine itT ⟨_, rfl, .bl (decide ((z.length : Int) ≤ b)), rfl, decide ((z.length : Int) ≤ b), rfl, ?_⟩
        cases h2 : decide ((z.length : Int) ≤ b) with
        | false => rw [h1, h2] at k; exact itF k
        | true =>
          rw [h1, h2, Bool.and_self, Bool.true_and] at k
          refine itT (wUn_i ?_)
          have hzl : z.cps.toList.length ≤ 100000 := by
            have : z.length = z.cps.toList.length := by simp [Str.length]
            omega
          let mk : DS noR := ⟨noG, [some (.fz (.str z)), some (.fz (.int a)), some (.fz (.int b)), some (.fz (.str s)), none]⟩
          refine wLc_m (ρ := mk) (α := Nat) (h := fun c => .str ⟨#[c]⟩) (xs := z.cps.toList) (f := fun c => .bl (decide (c ∈ s.cps.toList))) (x := none) (fun K k => ⟨_, rfl, _, rfl, k⟩) hzl rfl (fun _ h => by cases h) (fun c _ K k => ⟨_, rfl, _, rfl, .bl (xr false (decide (c ∈ s.cps.toList))), rfl, ?_⟩) _ ?_
          · exact ⟨_, all_map _ _, k⟩
          · have e : xr false (decide (c ∈ s.cps.toList)) = decide (c ∈ s.cps.toList) := by cases decide (c ∈ s.cps.toList) <;> rfl
            rw [e]
            exact k
    | ins _ _ _ => exact hd.elim
    | raw _ => exact hd.elim
    | dtt _ _ => exact hd.elim
    | dmx _ _ _ => exact hd.elim
    | _ => exact ⟨_, rfl, .bl false, rfl, false, rfl, itF k⟩⟩
-- _law_is_name: slots 0 _law_thing
abbrev s_L_is_name : Stmt := (top 49)
abbrev N_sc_L_is_name : List Str := ["_law_thing"]
theorem sc_L_is_name : FnScope N_sc_L_is_name ["_law_thing"] (defScope s_L_is_name) := ⟨rfl, rfl, rfl, by decide +kernel, rfl, by decide +kernel, by decide +kernel⟩
theorem ok_L_is_name (F : FnP K "_law_is_name" "_law_is_name" s_L_is_name f fd) (T : Tx K mg) (C__law_has_signs : Cal P w K mg base "_law_has_signs" 1 ["_law_thing", "_law_least", "_law_most", "_law_signs"] (spD K mSigns)) :
    FnOk P w K mg base CX0 2 f fd ["_law_thing"] (spD K (wF tame1 fun ds => .bl (isNm (ds.headD .non)))) :=
  FnD F sc_L_is_name (fun ds Kk h => by obtain ⟨⟨_, rfl, _⟩, _⟩ := h; rfl) fun cdv A outer s H Fz E hr => ⟨_, 
(ds_cons (ds_if (DW.dt (dw_or (dt_not (dt_truth (de_call C__law_has_signs hr (da_cons (de_v (i := 0)) (da_cons de_int (da_cons de_int (da_cons de_str da_nil))))))) (dw_or1 (dt_cm (c_in hr) (de_v (i := 0)) (de_tup (da_cons de_str (da_cons de_str (da_cons de_str da_nil)))))))) (ds_one (ds_ret de_bl)) ds_nil)
 (ds_one (ds_ret (de_cm (c_ni hr) (de_ixA (de_v (i := 0)) de_int) de_str))))
  , fun ds Kk h => by
    obtain ⟨⟨x, rfl, hx⟩, k⟩ := h
    replace k : Kk (.bl (isNm x)) := k
    refine ⟨x, rfl, _, _, _, _, rfl, hx, by decide, ?_⟩
    cases hs : hasSg x 1 12 "abcdefghijklmnopqrstuvwxyz0123456789" with
    | false =>
      have e : isNm x = false := by
        cases x <;> try rfl
        rename_i z
        cases hn : strNm z with
        | false => exact hn
        | true =>
          simp only [strNm, Bool.and_eq_true] at hn
          simp only [hasSg] at hs
          rw [hn.2] at hs
          have h1 : (1 : Int) ≤ (z.length : Int) := by have := of_decide_eq_true hn.1.1.1.1; omega
          have h2 : (z.length : Int) ≤ 12 := by have := of_decide_eq_true hn.1.1.1.2; omega
          rw [decide_eq_true h1, decide_eq_true h2] at hs
          cases hs
      rw [e] at k
      exact ⟨false, rfl, itT (itT k)⟩
    | true =>
      refine ⟨true, rfl, itF ?_⟩
      cases x with
      | str z =>
        obtain ⟨⟨l⟩⟩ := z
        have hs0 := hs
        simp only [hasSg, Bool.and_eq_true, decide_eq_true_eq] at hs
        cases l with
        | nil => exact absurd hs.1.1 (by simp [Str.length])
        | cons a r =>
          have hb := in_barred ⟨⟨a :: r⟩⟩
          have ha := sf_split a (by simpa using (List.all_eq_true.mp hs.2 a (by simp)))
          have en : strNm ⟨⟨a :: r⟩⟩ = (decide (a ∈ ("abcdefghijklmnopqrstuvwxyz" : Str).cps.toList) && !decide ((⟨⟨a :: r⟩⟩ : Str) = "not" ∨ (⟨⟨a :: r⟩⟩ : Str) = "unlike" ∨ (⟨⟨a :: r⟩⟩ : Str) = "if")) := by
            have l1 : 1 ≤ (⟨⟨a :: r⟩⟩ : Str).length := by have := hs.1.1; omega
            have l2 : (⟨⟨a :: r⟩⟩ : Str).length ≤ 12 := by have := hs.1.2; omega
            unfold strNm
            rw [decide_eq_true l1, decide_eq_true l2, hs.2]
            simp
          have k : Kk (.bl (strNm ⟨⟨a :: r⟩⟩)) := k
          rw [en, ha] at k
          refine ⟨_, rfl, by simp, _, hb, _, rfl, ?_⟩
          cases hq : decide ((⟨⟨a :: r⟩⟩ : Str) = "not" ∨ (⟨⟨a :: r⟩⟩ : Str) = "unlike" ∨ (⟨⟨a :: r⟩⟩ : Str) = "if") with
          | true =>
            rw [hq, Bool.not_true, Bool.and_false] at k
            exact itT k
          | false =>
            rw [hq] at k
            have hx : r.length + 1 ≤ 100000 := by have : (⟨⟨a :: r⟩⟩ : Str).length ≤ 100000 := hx; simpa [Str.length] using this
            refine itF ⟨_, rfl, .str ⟨#[a]⟩, by simp [ixN, Q.signs, Str.length, hx], .bl (xr true (decide (a ∈ ("0123456789" : Str).cps.toList))), rfl, ?_⟩
            have e : xr true (decide (a ∈ ("0123456789" : Str).cps.toList)) = (!decide (a ∈ ("0123456789" : Str).cps.toList) && !false) := by cases decide (a ∈ ("0123456789" : Str).cps.toList) <;> rfl
            rw [e]
            exact k
      | _ => cases hs⟩
-- _law_is_thing: slots 0 _law_thing
abbrev s_L_is_thing : Stmt := (top 50)
abbrev N_sc_L_is_thing : List Str := ["_law_thing"]
theorem sc_L_is_thing : FnScope N_sc_L_is_thing ["_law_thing"] (defScope s_L_is_thing) := ⟨rfl, rfl, rfl, by decide +kernel, rfl, by decide +kernel, by decide +kernel⟩
theorem ok_L_is_thing (F : FnP K "_law_is_thing" "_law_is_thing" s_L_is_thing f fd) (T : Tx K mg) (C__law_is_name : Cal P w K mg base "_law_is_name" 2 ["_law_thing"] (spD K (wF tame1 fun ds => .bl (isNm (ds.headD .non))))) :
    FnOk P w K mg base CX0 3 f fd ["_law_thing"] (spD K (wF tame1 fun ds => .bl (isTh (ds.headD .non)))) :=
  FnD F sc_L_is_thing (fun ds Kk h => by obtain ⟨⟨_, rfl, _⟩, _⟩ := h; rfl) fun cdv A outer s H Fz E hr => ⟨_, 
(ds_one (ds_ret (de_or (de_and (de_is1 T.b_isinstance (TyN.mk (t := .int) (by rfl) T.b_int (by decide +kernel) (by decide) (by decide)) (de_v (i := 0))) (de_one (de_not (de_is1 T.b_isinstance (TyN.mk (t := .bool) (by rfl) T.b_bool (by decide +kernel) (by decide) (by decide)) (de_v (i := 0)))))) (de_one (de_call C__law_is_name hr (da_cons (de_v (i := 0)) da_nil))))))
  , fun ds Kk h => by
    obtain ⟨⟨x, rfl, hx⟩, k⟩ := h
    cases x with
    | int i => exact ⟨_, rfl, .bl true, rfl, true, rfl, itT ⟨_, rfl, .bl false, rfl, false, rfl, true, rfl, itT k⟩⟩
    | bl b => exact ⟨_, rfl, .bl true, rfl, true, rfl, itT ⟨_, rfl, .bl true, rfl, true, rfl, false, rfl, itF ⟨_, rfl, ⟨_, rfl, hx⟩, k⟩⟩⟩
    | str z => exact ⟨_, rfl, .bl false, rfl, false, rfl, itF ⟨false, rfl, itF ⟨_, rfl, ⟨_, rfl, hx⟩, by simpa [isTh, isInt] using k⟩⟩⟩
    | ins _ _ _ => exact hx.elim
    | raw _ => exact hx.elim
    | dtt _ _ => exact hx.elim
    | dmx _ _ _ => exact hx.elim
    | _ => exact ⟨_, rfl, .bl false, rfl, false, rfl, itF ⟨false, rfl, itF ⟨_, rfl, ⟨_, rfl, hx⟩, k⟩⟩⟩⟩
-- _law_is_a_letter: slots 0 _law_thing, 1 _law_sign
abbrev s_L_is_a_letter : Stmt := (top 51)
abbrev N_sc_L_is_a_letter : List Str := ["_law_thing", "_law_sign"]
theorem sc_L_is_a_letter : FnScope N_sc_L_is_a_letter ["_law_thing"] (defScope s_L_is_a_letter) := ⟨rfl, rfl, rfl, by decide +kernel, rfl, by decide +kernel, by decide +kernel⟩
theorem ok_L_is_a_letter (F : FnP K "_law_is_a_letter" "_law_is_a_letter" s_L_is_a_letter f fd) (T : Tx K mg) (C__law_has_signs : Cal P w K mg base "_law_has_signs" 1 ["_law_thing", "_law_least", "_law_most", "_law_signs"] (spD K mSigns)) :
    FnOk P w K mg base CX0 2 f fd ["_law_thing"] (spD K (wF tame1 fun ds => .bl (isLt (ds.headD .non)))) :=
  FnD F sc_L_is_a_letter (fun ds Kk h => by obtain ⟨⟨_, rfl, _⟩, _⟩ := h; rfl) fun cdv A outer s H Fz E hr => ⟨_, 
(ds_cons (ds_if (dt_not (dt_truth (de_call C__law_has_signs hr (da_cons (de_v (i := 0)) (da_cons de_int (da_cons de_int (da_cons de_str da_nil))))))) (ds_one (ds_ret de_bl)) ds_nil)
 (ds_one (ds_ret (de_and (de_cm (c_ni hr) (de_ixA (de_v (i := 0)) de_int) de_str) (de_and (de_cm (c_ne hr) (de_sl (de_v (i := 0)) (dp_at de_int) (dp_at de_int)) de_str) (de_one (de_all T.b_all (FE.de (fe_lc (own := [("_law_sign", 1)]) sc_L_is_a_letter.nd (di_seq (de_sl (de_v (i := 0)) (dp_at de_int) dp_no)) (blkOk_by (own := [("_law_sign", 1)]) (N := N_sc_L_is_a_letter) (sc := defScope s_L_is_a_letter) (by decide +kernel)) (fun _ _ _ _ _ => (dg_name (i := 1) sc_L_is_a_letter.nd)) (fun _ _ _ _ _ => dts_nil) (fun _ _ _ _ _ => (de_cm (c_in hr) (de_v (i := 1)) de_str)))))))))))
  , fun ds Kk h => by
    obtain ⟨⟨x, rfl, hx⟩, k⟩ := h
    replace k : Kk (.bl (isLt x)) := k
    refine ⟨x, rfl, _, _, _, _, rfl, hx, by decide, ?_⟩
    cases hs : hasSg x 1 4 "ABCDEFGHIJKLMNOPQRSTUVWXYZ0123456789" with
    | false =>
      have e : isLt x = false := by
        cases x <;> try rfl
        rename_i z
        cases hn : strLt z with
        | false => exact hn
        | true =>
          obtain ⟨⟨l⟩⟩ := z
          simp only [strLt, Bool.and_eq_true] at hn
          obtain ⟨⟨⟨⟨n1, n2⟩, n3⟩, _⟩, n5⟩ := hn
          cases l with
          | nil => simp [Str.length] at n1
          | cons a r =>
            have h1 : (1 : Int) ≤ ((⟨⟨a :: r⟩⟩ : Str).length : Int) := by have := of_decide_eq_true n1; omega
            have h2 : ((⟨⟨a :: r⟩⟩ : Str).length : Int) ≤ 4 := by have := of_decide_eq_true n2; omega
            have h3 : (a :: r).all (fun c => decide (c ∈ ("ABCDEFGHIJKLMNOPQRSTUVWXYZ0123456789" : Str).cps.toList)) = true := by
              rw [List.all_eq_true]
              intro c hc
              rcases List.mem_cons.mp hc with h | hc
              · rw [h]
                exact decide_eq_true (cf_cap a (of_decide_eq_true n3))
              · exact decide_eq_true (cf_fig c (of_decide_eq_true (List.all_eq_true.mp n5 c hc)))
            have h4 : hasSg (.str ⟨⟨a :: r⟩⟩) 1 4 "ABCDEFGHIJKLMNOPQRSTUVWXYZ0123456789" = true := by
              show (decide _ && decide _ && (a :: r).all _) = true
              rw [decide_eq_true h1, decide_eq_true h2, h3]
              rfl
            rw [h4] at hs
            cases hs
      rw [e] at k
      exact ⟨false, rfl, itT k⟩
    | true =>
      refine ⟨true, rfl, itF ?_⟩
      cases x with
      | str z =>
        obtain ⟨⟨l⟩⟩ := z
        simp only [hasSg, Bool.and_eq_true, decide_eq_true_eq] at hs
        cases l with
        | nil => exact absurd hs.1.1 (by simp [Str.length])
        | cons a r =>
          have ha := cf_split a (by simpa using (List.all_eq_true.mp hs.2 a (by simp)))
          have l1 : 1 ≤ (⟨⟨a :: r⟩⟩ : Str).length := by have := hs.1.1; omega
          have l2 : (⟨⟨a :: r⟩⟩ : Str).length ≤ 4 := by have := hs.1.2; omega
          have hx : r.length + 1 ≤ 100000 := by have : (⟨⟨a :: r⟩⟩ : Str).length ≤ 100000 := hx; simpa [Str.length] using this
          have en : strLt ⟨⟨a :: r⟩⟩ = (decide (a ∈ ("ABCDEFGHIJKLMNOPQRSTUVWXYZ" : Str).cps.toList) && (!decide (r.take 1 = [48]) && r.all fun c => decide (c ∈ ("0123456789" : Str).cps.toList))) := by
            unfold strLt
            rw [decide_eq_true l1, decide_eq_true l2]
            simp [Bool.and_assoc]
          have k : Kk (.bl (strLt ⟨⟨a :: r⟩⟩)) := k
          rw [en, ha] at k
          have ez : ("0" : Str) = ⟨⟨[48]⟩⟩ := by decide +kernel
          have eq1 : eqD true (.str ⟨⟨r.take 1⟩⟩) (.str "0") = some (.bl (!decide (r.take 1 = [48]))) := by
            rw [ez]
            by_cases h : r.take 1 = [48] <;> simp [eqD, xr, h]
          refine ⟨_, rfl, .str ⟨#[a]⟩, by simp [ixN, Q.signs, Str.length, hx], .bl (xr true (decide (a ∈ ("0123456789" : Str).cps.toList))), rfl, _, rfl, ?_⟩
          cases hq : decide (a ∈ ("0123456789" : Str).cps.toList) with
          | true =>
            rw [hq] at k
            exact itF k
          | false =>
            rw [hq, Bool.not_false, Bool.true_and] at k
            have c1 : slD (some 1) (some 2) (.str ⟨⟨a :: r⟩⟩) = some (.str ⟨⟨r.take 1⟩⟩) := by
              rw [sl_txt, cut_one]
              simp [Str.length, hx]
            have c2 : slD (some 1) none (.str ⟨⟨a :: r⟩⟩) = some (.str ⟨⟨r⟩⟩) := by
              rw [sl_txt, cut_tail]
              simp [Str.length, hx]
            refine itT ⟨_, rfl, _, rfl, rfl, _, rfl, rfl, _, c1, _, eq1, _, rfl, ?_⟩
            cases hh : decide (r.take 1 = [48]) with
            | true =>
              rw [hh] at k
              exact itF k
            | false =>
              rw [hh, Bool.not_false, Bool.true_and] at k
              refine itT (wUn_i ?_)
              let mk : DS noR := ⟨noG, [some (.fz (.str ⟨⟨a :: r⟩⟩)), none]⟩
              refine wLc_m (ρ := mk) (α := Nat) (h := fun c => .str ⟨#[c]⟩) (xs := r) (f := fun c => .bl (decide (c ∈ ("0123456789" : Str).cps.toList))) (x := none) (fun K k => ⟨_, rfl, _, rfl, rfl, .str ⟨⟨r⟩⟩, c2, _, rfl, k⟩) (by omega) rfl (fun _ h => by cases h) (fun c _ K k => ⟨_, rfl, .bl (xr false (decide (c ∈ ("0123456789" : Str).cps.toList))), rfl, ?_⟩) _ ?_
              · exact ⟨_, all_map _ _, k⟩
              · have e : xr false (decide (c ∈ ("0123456789" : Str).cps.toList)) = decide (c ∈ ("0123456789" : Str).cps.toList) := by cases decide (c ∈ ("0123456789" : Str).cps.toList) <;> rfl
                rw [e]
                exact k
      | _ => cases hs⟩
end
end K01

set_option Elab.async false
set_option linter.all false
set_option maxRecDepth 100000
set_option maxHeartbeats 4000000
namespace K01
open PySem PySem.Spec PyProof.Rows L2 Q
/-! the law's own looks at atoms, parts, rules -/
theorem sRet_i {R : Rgn} {we : WE R} {D : DEnds R} {ρ : DS R} (h : we ρ fun d ρ1 => D.rt d ρ1.g) : sRet we D ρ := h
section
variable {P : Program} {w : World} {K : PySem.W.Frag} {mg : Str → Option Value} {base : Heap} {f : Addr} {fd : FuncData}
-- _law_is_term: slots 0 _law_thing
abbrev s_L_is_term : Stmt := (top 52)
abbrev N_sc_L_is_term : List Str := ["_law_thing"]
theorem sc_L_is_term : FnScope N_sc_L_is_term ["_law_thing"] (defScope s_L_is_term) := ⟨rfl, rfl, rfl, by decide +kernel, rfl, by decide +kernel, by decide +kernel⟩
theorem ok_L_is_term (F : FnP K "_law_is_term" "_law_is_term" s_L_is_term f fd) (T : Tx K mg) (C__law_is_thing : Cal P w K mg base "_law_is_thing" 3 ["_law_thing"] (spD K (wF tame1 fun ds => .bl (isTh (ds.headD .non))))) (C__law_is_a_letter : Cal P w K mg base "_law_is_a_letter" 2 ["_law_thing"] (spD K (wF tame1 fun ds => .bl (isLt (ds.headD .non))))) :
    FnOk P w K mg base CX0 4 f fd ["_law_thing"] (spD K (wF tame1 fun ds => .bl (isTm (ds.headD .non)))) :=
  FnD F sc_L_is_term (fun ds Kk h => by obtain ⟨⟨_, rfl, _⟩, _⟩ := h; rfl) fun cdv A outer s H Fz E hr => ⟨_, 
(ds_one (ds_ret (de_or (de_call C__law_is_thing hr (da_cons (de_v (i := 0)) da_nil)) (de_one (de_call C__law_is_a_letter hr (da_cons (de_v (i := 0)) da_nil))))))
  , fun ds Kk h => by
    obtain ⟨⟨x, rfl, hx⟩, k⟩ := h
    replace k : Kk (.bl (isTh x || isLt x)) := k
    refine ⟨_, rfl, ⟨_, rfl, hx⟩, isTh x, rfl, ?_⟩
    cases h1 : isTh x with
    | true => rw [h1] at k; exact itT k
    | false => rw [h1, Bool.false_or] at k; exact itF ⟨_, rfl, ⟨_, rfl, hx⟩, k⟩⟩
-- _law_is_atom: slots 0 _law_thing, 1 _law_term_here
abbrev s_L_is_atom : Stmt := (top 53)
abbrev N_sc_L_is_atom : List Str := ["_law_thing", "_law_term_here"]
theorem sc_L_is_atom : FnScope N_sc_L_is_atom ["_law_thing"] (defScope s_L_is_atom) := ⟨rfl, rfl, rfl, by decide +kernel, rfl, by decide +kernel, by decide +kernel⟩
theorem ok_L_is_atom (F : FnP K "_law_is_atom" "_law_is_atom" s_L_is_atom f fd) (T : Tx K mg) (C__law_is_list : Cal P w K mg base "_law_is_list" 1 ["_law_thing"] (spD K (wF tmd1 fun ds => .bl (isLs (ds.headD .non))))) (C__law_is_name : Cal P w K mg base "_law_is_name" 2 ["_law_thing"] (spD K (wF tame1 fun ds => .bl (isNm (ds.headD .non)))))
    (C__law_is_term : Cal P w K mg base "_law_is_term" 4 ["_law_thing"] (spD K (wF tame1 fun ds => .bl (isTm (ds.headD .non))))) :
    FnOk P w K mg base CX0 5 f fd ["_law_thing"] (spD K (wF tmd1 fun ds => .bl (!isNon (asAtom (ds.headD .non))))) :=
  FnD F sc_L_is_atom (fun ds Kk h => by obtain ⟨⟨_, rfl, _⟩, _⟩ := h; rfl) fun cdv A outer s H Fz E hr => ⟨_, 
(ds_cons (ds_if (DW.dt (dw_or (dt_not (dt_truth (de_call C__law_is_list hr (da_cons (de_v (i := 0)) da_nil)))) (dw_or (dt_not (dt_chain c_le c_le de_int (de_len T.b_len (de_v (i := 0))) de_int)) (dw_or1 (dt_not (dt_truth (de_call C__law_is_name hr (da_cons (de_ixA (de_v (i := 0)) de_int) da_nil)))))))) (ds_one (ds_ret de_bl)) ds_nil)
 (ds_one (ds_ret (de_all T.b_all (FE.de (fe_lc (own := [("_law_term_here", 1)]) sc_L_is_atom.nd (di_seq (de_sl (de_v (i := 0)) (dp_at de_int) dp_no)) (blkOk_by (own := [("_law_term_here", 1)]) (N := N_sc_L_is_atom) (sc := defScope s_L_is_atom) (by decide +kernel)) (fun _ _ _ _ _ => (dg_name (i := 1) sc_L_is_atom.nd)) (fun _ _ _ _ _ => dts_nil) (fun _ _ _ _ _ => (de_call C__law_is_term hr (da_cons (de_v (i := 1)) da_nil)))))))))
  , fun ds Kk h => by
    obtain ⟨⟨x, rfl, hx⟩, k⟩ := h
    replace k : Kk (.bl (!isNon (asAtom x))) := k
    refine ⟨_, rfl, ⟨_, rfl, hx⟩, isLs x, rfl, ?_⟩
    cases hs : sqOf x with
    | none =>
      have e1 : isLs x = false := by unfold isLs; rw [hs]; rfl
      have e2 : asAtom x = .non := by unfold asAtom; rw [hs]
      rw [e2] at k
      rw [e1]
      exact itT (itT k)
    | some xs =>
      have e1 : isLs x = true := by unfold isLs; rw [hs]; rfl
      rw [e1]
      refine itF ?_
      have hl : lenD x = some (.int (xs.length : Nat)) := by rcases sq_cases hs with rfl | rfl <;> rfl
      have hx' := sq_tms hs hx
      have ea : asAtom x = if rowB xs && xs.tail.all isTm then .tup xs else .non := by unfold asAtom; rw [hs]
      cases xs with
      | nil =>
        have e2 : asAtom x = .non := by rw [ea]; rfl
        rw [e2] at k
        exact ⟨_, rfl, _, hl, false, rfl, itF ⟨false, rfl, itT (itT k)⟩⟩
      | cons a r =>
        have hn : (decide ((1 : Int) ≤ (((a :: r).length : Nat) : Int))) = true := decide_eq_true (by rw [List.length_cons]; omega)
        refine ⟨_, rfl, _, hl, true, by show some (D.bl (decide _)) = _; rw [hn], itT ⟨.bl (decide ((((a :: r).length : Nat) : Int) ≤ 7)), rfl, _, rfl, ?_⟩⟩
        cases h7 : decide ((((a :: r).length : Nat) : Int) ≤ 7) with
        | false =>
          have e2 : asAtom x = .non := by
            rw [ea]
            have : rowB (a :: r) = false := by
              have h := of_decide_eq_false h7
              have : ¬ (a :: r).length ≤ 7 := by omega
              simp [rowB]
              simp at this
              omega
            rw [this]
            rfl
          rw [e2] at k
          exact itT (itT k)
        | true =>
          have h7' : (a :: r).length ≤ 7 := by have := of_decide_eq_true h7; omega
          have hr7 : r.length ≤ 6 := by rw [List.length_cons] at h7'; omega
          have hx2 : tmB a = true ∧ tmBs r = true := by simpa using hx'
          have hix : ixD x (.int 0) = some a := by rcases sq_cases hs with rfl | rfl <;> simp [ixN]
          have er : rowB (a :: r) = isNm a := by
            unfold rowB
            rw [decide_eq_true h7', decide_eq_true (by simp)]
            rfl
          rw [er] at ea
          refine itF ⟨_, rfl, a, hix, ⟨_, rfl, tmB.tame hx2.1⟩, isNm a, rfl, ?_⟩
          cases hna : isNm a with
          | false =>
            rw [hna] at ea
            rw [ea] at k
            exact itT k
          | true =>
            rw [hna, Bool.true_and] at ea
            obtain ⟨y, hy, hsy⟩ : ∃ y, slD (some 1) none x = some y ∧ seqD y = some r := by
              rcases sq_cases hs with rfl | rfl
              · exact ⟨.lst r, by show some (D.lst (Q.cutD _ _ _)) = _; rw [cut_tl], rfl⟩
              · exact ⟨.tup r, by show some (D.tup (Q.cutD _ _ _)) = _; rw [cut_tl], rfl⟩
            have ea2 : asAtom x = if r.all isTm then .tup (a :: r) else .non := ea
            refine itF ?_
            simp only [sNext]
            refine sRet_i (wUn_i ?_)
            let mk : DS noR := ⟨noG, [some (.fz x), none]⟩
            refine wLc_m (ρ := mk) (α := D) (h := id) (xs := r) (f := fun t => .bl (isTm t)) (x := none) (fun K k => ⟨_, rfl, _, rfl, rfl, y, hy, r, hsy, by simpa using k⟩) (by omega) rfl (fun _ h => by cases h) (fun t ht K k => ⟨_, rfl, ⟨_, rfl, tmB.tame (tmBs_iff.mp hx2.2 t ht)⟩, k⟩) _ ?_
            refine ⟨_, all_map _ _, ?_⟩
            rw [ea2] at k
            cases hall : r.all isTm with
            | true => rw [hall] at k; exact k
            | false => rw [hall] at k; exact k⟩
-- _law_is_fact: slots 0 _law_thing, 1 _law_term_here
abbrev s_L_is_fact : Stmt := (top 54)
abbrev N_sc_L_is_fact : List Str := ["_law_thing", "_law_term_here"]
theorem sc_L_is_fact : FnScope N_sc_L_is_fact ["_law_thing"] (defScope s_L_is_fact) := ⟨rfl, rfl, rfl, by decide +kernel, rfl, by decide +kernel, by decide +kernel⟩
theorem ok_L_is_fact (F : FnP K "_law_is_fact" "_law_is_fact" s_L_is_fact f fd) (T : Tx K mg) (C__law_is_atom : Cal P w K mg base "_law_is_atom" 5 ["_law_thing"] (spD K (wF tmd1 fun ds => .bl (!isNon (asAtom (ds.headD .non))))))
    (C__law_is_thing : Cal P w K mg base "_law_is_thing" 3 ["_law_thing"] (spD K (wF tame1 fun ds => .bl (isTh (ds.headD .non))))) :
    FnOk P w K mg base CX0 6 f fd ["_law_thing"] (spD K (wF tmd1 fun ds => .bl (!isNon (asFact (ds.headD .non))))) :=
  FnD F sc_L_is_fact (fun ds Kk h => by obtain ⟨⟨_, rfl, _⟩, _⟩ := h; rfl) fun cdv A outer s H Fz E hr => ⟨_, 
(ds_one (ds_ret (de_and (de_call C__law_is_atom hr (da_cons (de_v (i := 0)) da_nil)) (de_one (de_all T.b_all (FE.de (fe_lc (own := [("_law_term_here", 1)]) sc_L_is_fact.nd (di_seq (de_sl (de_v (i := 0)) (dp_at de_int) dp_no)) (blkOk_by (own := [("_law_term_here", 1)]) (N := N_sc_L_is_fact) (sc := defScope s_L_is_fact) (by decide +kernel)) (fun _ _ _ _ _ => (dg_name (i := 1) sc_L_is_fact.nd)) (fun _ _ _ _ _ => dts_nil) (fun _ _ _ _ _ => (de_call C__law_is_thing hr (da_cons (de_v (i := 1)) da_nil))))))))))
  , fun ds Kk h => by
    obtain ⟨⟨x, rfl, hx⟩, k⟩ := h
    replace k : Kk (.bl (!isNon (asFact x))) := k
    refine ⟨_, rfl, ⟨_, rfl, hx⟩, !isNon (asAtom x), rfl, ?_⟩
    rcases asAtom_cases x with h | ⟨xs, hs, h1, h2, h⟩
    · rw [h]
      have e2 : asFact x = .non := by
        unfold asFact
        unfold asAtom at h
        cases hs : sqOf x with
        | none => rfl
        | some xs =>
          rw [hs] at h
          simp only at h ⊢
          cases hb : rowB xs with
          | false => rfl
          | true =>
            rw [hb, Bool.true_and] at h
            cases hall : xs.tail.all isTh with
            | false => rfl
            | true =>
              have : xs.tail.all isTm = true := List.all_eq_true.mpr fun t ht => by
                have := List.all_eq_true.mp hall t ht
                unfold isTm
                rw [this]
                rfl
              rw [this] at h
              cases h
      rw [e2] at k
      exact itF k
    · rw [h]
      have hx2 := sq_tms hs hx
      cases xs with
      | nil => simp [rowB] at h1
      | cons a r =>
        have hr7 : r.length ≤ 6 := by simp [rowB] at h1; omega
        have hx3 : tmB a = true ∧ tmBs r = true := by simpa using hx2
        obtain ⟨y, hy, hsy⟩ : ∃ y, slD (some 1) none x = some y ∧ seqD y = some r := by
          rcases sq_cases hs with rfl | rfl
          · exact ⟨.lst r, by show some (D.lst (Q.cutD _ _ _)) = _; rw [cut_tl], rfl⟩
          · exact ⟨.tup r, by show some (D.tup (Q.cutD _ _ _)) = _; rw [cut_tl], rfl⟩
        have ef : asFact x = if r.all isTh then .tup (a :: r) else .non := by
          unfold asFact
          rw [hs]
          show (if (rowB (a :: r) && r.all isTh) = true then D.tup (a :: r) else .non) = _
          rw [h1]
          rfl
        refine itT (wUn_i ?_)
        let mk : DS noR := ⟨noG, [some (.fz x), none]⟩
        refine wLc_m (ρ := mk) (α := D) (h := id) (xs := r) (f := fun t => .bl (isTh t)) (x := none) (fun K k => ⟨_, rfl, _, rfl, rfl, y, hy, r, hsy, by simpa using k⟩) (by omega) rfl (fun _ h => by cases h) (fun t ht K k => ⟨_, rfl, ⟨_, rfl, tmB.tame (tmBs_iff.mp hx3.2 t ht)⟩, k⟩) _ ?_
        refine ⟨_, all_map _ _, ?_⟩
        rw [ef] at k
        cases hall : r.all isTh with
        | true => rw [hall] at k; exact k
        | false => rw [hall] at k; exact k⟩
end
end K01

set_option Elab.async false
set_option linter.all false
set_option maxRecDepth 100000
set_option maxHeartbeats 4000000
namespace K01
open PySem PySem.Spec PyProof.Rows L2 Q
theorem wAndV_r {R : Rgn} {wa wb : WE R} {ρ : DS R} {K : D → DS R → Prop} {a b : Bool} (ha : ∀ K' : D → DS R → Prop, K' (.bl a) ρ → wa ρ K') (hb : a = true → ∀ K' : D → DS R → Prop, K' (.bl b) ρ → wb ρ K') (k : K (.bl (a && b)) ρ) : wAndV wa wb ρ K := by
  refine ha _ ⟨a, rfl, ?_⟩
  cases a with
  | false => exact itF k
  | true => exact itT (hb rfl _ k)
def partP : List D → D
  | .str z :: r => if z = "not" then asNot (.str z :: r) else if z = "unlike" then asUnl (.str z :: r) else .non
  | _ => .non
theorem asPart_na {x : D} {xs : List D} (hs : sqOf x = some xs) (h : asAtom x = .non) : asPart x = partP xs := by
  unfold asPart
  rw [hs]
  cases xs with
  | nil => rfl
  | cons a r =>
    cases a <;> try rfl
    rename_i z
    show (if z = "not" then asNot (.str z :: r) else if z = "unlike" then asUnl (.str z :: r) else asAtom x) = _
    rw [h]
    rfl
theorem partP_short {xs : List D} (h : xs.length < 2) : partP xs = .non := by
  cases xs with
  | nil => rfl
  | cons a r =>
    cases r with
    | cons b r =>
      simp only [List.length_cons] at h
      omega
    | nil =>
      cases a <;> try rfl
      rename_i z
      show (if z = "not" then asNot [.str z] else if z = "unlike" then asUnl [.str z] else .non) = _
      by_cases h1 : z = "not"
      · rw [if_pos h1]; rfl
      · rw [if_neg h1]
        by_cases h2 : z = "unlike"
        · rw [if_pos h2]; simp [asUnl]
        · rw [if_neg h2]
def isS : D → Bool
  | .str _ => true
  | _ => false
theorem eq_int2 (y z : Int) : eqD false (.int y) (.int z) = some (.bl (decide (y = z))) := by by_cases h : y = z <;> simp [eqD, xr, h]
theorem eq_str2 (y z : Str) : eqD false (.str y) (.str z) = some (.bl (decide (y = z))) := by by_cases h : y = z <;> simp [eqD, xr, h]
theorem len_sq {x : D} {xs : List D} (hs : sqOf x = some xs) : lenD x = some (.int (xs.length : Nat)) := by rcases sq_cases hs with rfl | rfl <;> rfl
theorem ix_sq {x a : D} {xs : List D} (hs : sqOf x = some xs) (n : Nat) (h : xs[n]? = some a) : ixD x (.int (n : Nat)) = some a := by
  have hn : n < xs.length := (List.getElem?_eq_some_iff.mp h).1
  have e : ixN xs.length (n : Nat) = some n := by
    unfold ixN
    rw [if_pos (by omega), if_pos (by omega)]
    simp
  rcases sq_cases hs with rfl | rfl
  · rw [Q.ix_lst, e]; exact h
  · rw [Q.ix_tup, e]; exact h
section
variable {P : Program} {w : World} {K : PySem.W.Frag} {mg : Str → Option Value} {base : Heap} {f : Addr} {fd : FuncData}
-- _law_is_part: slots 0 _law_thing
abbrev s_L_is_part : Stmt := (top 55)
abbrev N_sc_L_is_part : List Str := ["_law_thing"]
theorem sc_L_is_part : FnScope N_sc_L_is_part ["_law_thing"] (defScope s_L_is_part) := ⟨rfl, rfl, rfl, by decide +kernel, rfl, by decide +kernel, by decide +kernel⟩
theorem ok_L_is_part (F : FnP K "_law_is_part" "_law_is_part" s_L_is_part f fd) (T : Tx K mg) (C__law_is_atom : Cal P w K mg base "_law_is_atom" 5 ["_law_thing"] (spD K (wF tmd1 fun ds => .bl (!isNon (asAtom (ds.headD .non)))))) (C__law_is_list : Cal P w K mg base "_law_is_list" 1 ["_law_thing"] (spD K (wF tmd1 fun ds => .bl (isLs (ds.headD .non)))))
    (C__law_is_term : Cal P w K mg base "_law_is_term" 4 ["_law_thing"] (spD K (wF tame1 fun ds => .bl (isTm (ds.headD .non))))) :
    FnOk P w K mg base CX0 6 f fd ["_law_thing"] (spD K (wF tmd1 fun ds => .bl (!isNon (asPart (ds.headD .non))))) :=
  FnD F sc_L_is_part (fun ds Kk h => by obtain ⟨⟨_, rfl, _⟩, _⟩ := h; rfl) fun cdv A outer s H Fz E hr => ⟨_, 
(ds_cons (ds_if (dt_truth (de_call C__law_is_atom hr (da_cons (de_v (i := 0)) da_nil))) (ds_one (ds_ret de_bl)) ds_nil)
 (ds_cons (ds_if (DW.dt (dw_or (dt_not (dt_truth (de_call C__law_is_list hr (da_cons (de_v (i := 0)) da_nil)))) (dw_or (dt_cm c_lt (de_len T.b_len (de_v (i := 0))) de_int) (dw_or1 (dt_not (dt_truth (de_is1 T.b_isinstance (TyN.mk (t := .str) (by rfl) T.b_str (by decide +kernel) (by decide) (by decide)) (de_ixA (de_v (i := 0)) de_int)))))))) (ds_one (ds_ret de_bl)) ds_nil)
 (ds_cons (ds_if (dt_cm (c_eq hr) (de_ixA (de_v (i := 0)) de_int) de_str) (ds_one (ds_ret (de_and (de_cm (c_eq hr) (de_len T.b_len (de_v (i := 0))) de_int) (de_one (de_call C__law_is_atom hr (da_cons (de_ixA (de_v (i := 0)) de_int) da_nil)))))) ds_nil)
 (ds_one (ds_ret (de_and (de_cm (c_eq hr) (de_ixA (de_v (i := 0)) de_int) de_str) (de_and (de_cm (c_eq hr) (de_len T.b_len (de_v (i := 0))) de_int) (de_and (de_call C__law_is_term hr (da_cons (de_ixA (de_v (i := 0)) de_int) da_nil)) (de_one (de_call C__law_is_term hr (da_cons (de_ixA (de_v (i := 0)) de_int) da_nil)))))))))))
  , fun ds Kk h => by
    obtain ⟨⟨x, rfl, hx⟩, k⟩ := h
    replace k : Kk (.bl (!isNon (asPart x))) := k
    refine ⟨_, rfl, ⟨_, rfl, hx⟩, !isNon (asAtom x), rfl, ?_⟩
    cases ha : !isNon (asAtom x) with
    | true =>
      have e : asPart x = asAtom x := by
        rcases asAtom_cases x with h | ⟨xs, hs, h1, h2, h⟩
        · rw [h] at ha; cases ha
        · cases xs with
          | nil => simp [rowB] at h1
          | cons a r =>
            have hn : isNm a = true := by simp [rowB] at h1; exact h1.2
            cases a with
            | str z =>
              obtain ⟨n1, n2⟩ := nm_not hn
              unfold asPart
              rw [hs]
              show (if z = "not" then _ else if z = "unlike" then _ else asAtom x) = _
              rw [if_neg n1, if_neg n2]
            | _ => cases hn
      rw [e, ha] at k
      exact itT k
    | false =>
      have hna : asAtom x = .non := by
        rcases asAtom_form x with h | ⟨xs, h⟩
        · exact h
        · rw [h] at ha; cases ha
      refine itF ⟨_, rfl, ⟨_, rfl, hx⟩, isLs x, rfl, ?_⟩
      cases hs : sqOf x with
      | none =>
        have e1 : isLs x = false := by unfold isLs; rw [hs]; rfl
        have e2 : asPart x = .non := by unfold asPart; rw [hs]
        rw [e2] at k
        rw [e1]
        exact itT (itT k)
      | some xs =>
        have e1 : isLs x = true := by unfold isLs; rw [hs]; rfl
        have hx' := tmBs_iff.mp (sq_tms hs hx)
        rw [e1]
        refine itF ⟨_, rfl, _, len_sq hs, .bl (decide (((xs.length : Nat) : Int) < 2)), rfl, _, rfl, ?_⟩
        have ep := asPart_na hs hna
        by_cases hl : xs.length < 2
        · rw [decide_eq_true (by omega)]
          have e2 : asPart x = .non := by
            rw [ep]
            exact partP_short hl
          rw [e2] at k
          exact itT (itT k)
        · rw [decide_eq_false (by omega)]
          obtain ⟨a, b, r, rfl⟩ : ∃ a b r, xs = a :: b :: r := by
            cases xs with
            | nil => exact absurd (by decide) hl
            | cons a q =>
              cases q with
              | nil => exact absurd (by simp) hl
              | cons b r => exact ⟨a, b, r, rfl⟩
          have hta : tame a := tmB.tame (hx' a (by simp))
          have hia : isaD [.str] a = some (.bl (isS a)) := by cases a <;> first | rfl | exact hta.elim
          refine itF ⟨_, rfl, a, ix_sq hs 0 rfl, _, hia, isS a, rfl, ?_⟩
          cases a with
          | str z =>
            refine itF ?_
            simp only [sNext, sSeq]
            refine ⟨_, rfl, .str z, ix_sq hs 0 rfl, _, eq_str2 z "not", _, rfl, ?_⟩
            by_cases h1 : z = "not"
            · rw [decide_eq_true h1]
              have e : (!isNon (asPart x)) = (decide ((((.str z :: b :: r : List D).length : Nat) : Int) = 2) && !isNon (asAtom b)) := by
                rw [ep]
                show (!isNon (if z = "not" then asNot (.str z :: b :: r) else _)) = _
                rw [if_pos h1]
                cases r with
                | nil =>
                  show (!isNon (match asAtom b with | .non => .non | a => .tup [.str "not", a])) = _
                  rcases asAtom_form b with h | ⟨ys, h⟩ <;> rw [h] <;> rfl
                | cons c r =>
                  have : decide ((((.str z :: b :: c :: r : List D).length : Nat) : Int) = 2) = false := decide_eq_false (by simp only [List.length_cons]; omega)
                  rw [this]
                  show (!isNon (if (.str z :: b :: c :: r : List D).length = 2 then _ else D.non)) = _
                  rw [if_neg (by simp only [List.length_cons]; omega)]
                  rfl
              rw [e] at k
              exact itT (wAndV_r (a := decide ((((.str z :: b :: r : List D).length : Nat) : Int) = 2)) (b := !isNon (asAtom b)) (fun K2 k2 => ⟨_, rfl, _, len_sq hs, _, eq_int2 _ _, k2⟩) (fun _ K2 k2 => ⟨_, rfl, b, ix_sq hs 1 rfl, ⟨b, rfl, hx' b (by simp)⟩, k2⟩) k)
            · rw [decide_eq_false h1]
              refine itF ?_
              by_cases h2 : z = "unlike"
              · have e : (!isNon (asPart x)) = (decide (z = "unlike") && (decide ((((.str z :: b :: r : List D).length : Nat) : Int) = 3) && (isTm b && isTm (r.headD .non)))) := by
                  rw [ep]
                  show (!isNon (if z = "not" then _ else if z = "unlike" then asUnl (.str z :: b :: r) else _)) = _
                  rw [if_neg h1, if_pos h2, decide_eq_true h2]
                  cases r with
                  | nil => simp [asUnl, isNon]
                  | cons c r =>
                    cases r with
                    | nil =>
                      cases h3 : isTm b <;> cases h4 : isTm c <;> simp [asUnl, h3, h4, isNon]
                    | cons d r =>
                      have : decide ((((.str z :: b :: c :: d :: r : List D).length : Nat) : Int) = 3) = false := decide_eq_false (by simp only [List.length_cons]; omega)
                      rw [this]
                      simp [asUnl, isNon]
                rw [e] at k
                simp only [sNext]
                refine sRet_i (wAndV_r (a := decide (z = "unlike")) (b := decide ((((.str z :: b :: r : List D).length : Nat) : Int) = 3) && (isTm b && isTm (r.headD .non))) (fun K2 k2 => ⟨_, rfl, .str z, ix_sq hs 0 rfl, _, eq_str2 z "unlike", k2⟩) (fun _ K2 k2 => ?_) k)
                refine wAndV_r (a := decide ((((.str z :: b :: r : List D).length : Nat) : Int) = 3)) (b := isTm b && isTm (r.headD .non)) (fun K2 k2 => ⟨_, rfl, _, len_sq hs, _, eq_int2 _ _, k2⟩) (fun h K3 k3 => ?_) k2
                obtain ⟨c, rfl⟩ : ∃ c, r = [c] := by
                  have h := of_decide_eq_true h
                  simp only [List.length_cons] at h
                  match r, h with
                  | [c], _ => exact ⟨c, rfl⟩
                  | [], h => exact absurd h (by simp)
                  | _ :: _ :: _, h => simp only [List.length_cons] at h; omega
                exact wAndV_r (a := isTm b) (b := isTm c) (fun K4 k4 => ⟨_, rfl, b, ix_sq hs 1 rfl, ⟨b, rfl, tmB.tame (hx' b (by simp))⟩, k4⟩) (fun _ K4 k4 => ⟨_, rfl, c, ix_sq hs 2 rfl, ⟨c, rfl, tmB.tame (hx' c (by simp))⟩, k4⟩) k3
              · have e : (!isNon (asPart x)) = false := by
                  rw [ep]
                  show (!isNon (if z = "not" then _ else if z = "unlike" then _ else .non)) = _
                  rw [if_neg h1, if_neg h2]
                  rfl
                rw [e] at k
                simp only [sNext]
                refine sRet_i (wAndV_r (a := false) (b := false) (fun K2 k2 => ⟨_, rfl, .str z, ix_sq hs 0 rfl, _, eq_str2 z "unlike", ?_⟩) (fun h => by cases h) k)
                rw [decide_eq_false h2]
                exact k2
          | ins _ _ _ => exact hta.elim
          | raw _ => exact hta.elim
          | dtt _ _ => exact hta.elim
          | dmx _ _ _ => exact hta.elim
          | _ =>
            rw [ep] at k
            exact itT k⟩
-- _law_is_body: slots 0 _law_thing, 1 _law_part_here
abbrev s_L_is_body : Stmt := (top 56)
abbrev N_sc_L_is_body : List Str := ["_law_thing", "_law_part_here"]
theorem sc_L_is_body : FnScope N_sc_L_is_body ["_law_thing"] (defScope s_L_is_body) := ⟨rfl, rfl, rfl, by decide +kernel, rfl, by decide +kernel, by decide +kernel⟩
theorem ok_L_is_body (F : FnP K "_law_is_body" "_law_is_body" s_L_is_body f fd) (T : Tx K mg) (C__law_is_part : Cal P w K mg base "_law_is_part" 6 ["_law_thing"] (spD K (wF tmd1 fun ds => .bl (!isNon (asPart (ds.headD .non)))))) (C__law_is_list : Cal P w K mg base "_law_is_list" 1 ["_law_thing"] (spD K (wF tmd1 fun ds => .bl (isLs (ds.headD .non))))) :
    FnOk P w K mg base CX0 7 f fd ["_law_thing"] (spD K (wF tmd1 fun ds => .bl (!isNon (asBody (ds.headD .non))))) :=
  FnD F sc_L_is_body (fun ds Kk h => by obtain ⟨⟨_, rfl, _⟩, _⟩ := h; rfl) fun cdv A outer s H Fz E hr => ⟨_, 
(ds_one (ds_ret (de_and (de_call C__law_is_list hr (da_cons (de_v (i := 0)) da_nil)) (de_one (de_all T.b_all (FE.de (fe_lc (own := [("_law_part_here", 1)]) sc_L_is_body.nd (di_seq (de_v (i := 0))) (blkOk_by (own := [("_law_part_here", 1)]) (N := N_sc_L_is_body) (sc := defScope s_L_is_body) (by decide +kernel)) (fun _ _ _ _ _ => (dg_name (i := 1) sc_L_is_body.nd)) (fun _ _ _ _ _ => dts_nil) (fun _ _ _ _ _ => (de_call C__law_is_part hr (da_cons (de_v (i := 1)) da_nil))))))))))
  , fun ds Kk h => by
    obtain ⟨⟨x, rfl, hx⟩, k⟩ := h
    replace k : Kk (.bl (!isNon (asBody x))) := k
    refine ⟨_, rfl, ⟨_, rfl, hx⟩, isLs x, rfl, ?_⟩
    cases hs : sqOf x with
    | none =>
      have e1 : isLs x = false := by unfold isLs; rw [hs]; rfl
      have e2 : asBody x = .non := by unfold asBody; rw [hs]
      rw [e2] at k
      rw [e1]
      exact itF k
    | some xs =>
      have e1 : isLs x = true := by unfold isLs; rw [hs]; rfl
      have hx' := tmBs_iff.mp (sq_tms hs hx)
      have hl : xs.length ≤ 100000 := by rcases sq_cases hs with rfl | rfl <;> simp at hx <;> exact hx.1
      have eb : isNon (asBody x) = xs.any fun y => isNon (asPart y) := by
        unfold asBody
        rw [hs]
        show isNon (if (xs.any fun y => isNon (asPart y)) = true then D.non else .tup (xs.map asPart)) = _
        cases xs.any fun y => isNon (asPart y) <;> rfl
      have ea : (xs.all fun y => !isNon (asPart y)) = !isNon (asBody x) := by
        rw [eb]
        exact (List.not_any_eq_all_not ..).symm
      rw [e1]
      refine itT (wUn_i ?_)
      let mk : DS noR := ⟨noG, [some (.fz x), none]⟩
      refine wLc_m (ρ := mk) (α := D) (h := id) (xs := xs) (f := fun t => .bl (!isNon (asPart t))) (x := none) (fun K k => ⟨_, rfl, xs, (by rcases sq_cases hs with rfl | rfl <;> rfl), by simpa using k⟩) hl rfl (fun _ h => by cases h) (fun t ht K k => ⟨_, rfl, ⟨_, rfl, hx' t ht⟩, k⟩) _ ?_
      refine ⟨_, all_map _ _, ?_⟩
      rw [ea]
      exact k⟩
-- _law_is_rule: slots 0 _law_thing
abbrev s_L_is_rule : Stmt := (top 57)
abbrev N_sc_L_is_rule : List Str := ["_law_thing"]
theorem sc_L_is_rule : FnScope N_sc_L_is_rule ["_law_thing"] (defScope s_L_is_rule) := ⟨rfl, rfl, rfl, by decide +kernel, rfl, by decide +kernel, by decide +kernel⟩
theorem ok_L_is_rule (F : FnP K "_law_is_rule" "_law_is_rule" s_L_is_rule f fd) (T : Tx K mg) (C__law_is_atom : Cal P w K mg base "_law_is_atom" 5 ["_law_thing"] (spD K (wF tmd1 fun ds => .bl (!isNon (asAtom (ds.headD .non)))))) (C__law_is_list : Cal P w K mg base "_law_is_list" 1 ["_law_thing"] (spD K (wF tmd1 fun ds => .bl (isLs (ds.headD .non)))))
    (C__law_is_body : Cal P w K mg base "_law_is_body" 7 ["_law_thing"] (spD K (wF tmd1 fun ds => .bl (!isNon (asBody (ds.headD .non)))))) :
    FnOk P w K mg base CX0 8 f fd ["_law_thing"] (spD K (wF tmd1 fun ds => .bl (!isNon (asRule (ds.headD .non))))) :=
  FnD F sc_L_is_rule (fun ds Kk h => by obtain ⟨⟨_, rfl, _⟩, _⟩ := h; rfl) fun cdv A outer s H Fz E hr => ⟨_, 
(ds_one (ds_ret (de_and (de_call C__law_is_list hr (da_cons (de_v (i := 0)) da_nil)) (de_and (de_cm (c_eq hr) (de_len T.b_len (de_v (i := 0))) de_int) (de_and (de_call C__law_is_atom hr (da_cons (de_ixA (de_v (i := 0)) de_int) da_nil)) (de_one (de_call C__law_is_body hr (da_cons (de_ixA (de_v (i := 0)) de_int) da_nil))))))))
  , fun ds Kk h => by
    obtain ⟨⟨x, rfl, hx⟩, k⟩ := h
    replace k : Kk (.bl (!isNon (asRule x))) := k
    cases hs : sqOf x with
    | none =>
      have e1 : isLs x = false := by unfold isLs; rw [hs]; rfl
      have e2 : asRule x = .non := by unfold asRule; rw [hs]
      rw [e2] at k
      refine ⟨_, rfl, ⟨_, rfl, hx⟩, isLs x, rfl, ?_⟩
      rw [e1]
      exact itF k
    | some xs =>
      have e1 : isLs x = true := by unfold isLs; rw [hs]; rfl
      have hx' := tmBs_iff.mp (sq_tms hs hx)
      refine sRet_i (wAndV_r (a := true) (b := !isNon (asRule x)) (fun K' k' => ⟨_, rfl, ⟨_, rfl, hx⟩, by rw [← e1] at k'; exact k'⟩) (fun _ K' k' => ?_) (by simpa using k))
      by_cases h2 : xs.length = 2
      · match xs, h2 with
        | [h, b], _ =>
          have eb : (!isNon (asRule x)) = (!isNon (asAtom h) && !isNon (asBody b)) := by
            unfold asRule
            rw [hs]
            show (!isNon (if (isNon (asAtom h) || isNon (asBody b)) = true then D.non else .tup [asAtom h, asBody b])) = _
            cases isNon (asAtom h) <;> cases isNon (asBody b) <;> rfl
          rw [eb] at k'
          refine wAndV_r (a := true) (b := !isNon (asAtom h) && !isNon (asBody b)) (fun K2 k2 => ⟨_, rfl, _, len_sq hs, _, eq_int2 _ _, k2⟩) (fun _ K2 k2 => ?_) k'
          exact wAndV_r (a := !isNon (asAtom h)) (b := !isNon (asBody b)) (fun K3 k3 => ⟨_, rfl, h, ix_sq hs 0 rfl, ⟨h, rfl, hx' h (by simp)⟩, k3⟩) (fun _ K3 k3 => ⟨_, rfl, b, ix_sq hs 1 rfl, ⟨b, rfl, hx' b (by simp)⟩, k3⟩) k2
      · have e2 : asRule x = .non := by
          unfold asRule
          rw [hs]
          split
          · rename_i e
            cases e
            exact absurd rfl h2
          · rfl
        rw [e2] at k'
        refine wAndV_r (a := false) (b := false) (fun K2 k2 => ⟨_, rfl, _, len_sq hs, _, eq_int2 _ _, ?_⟩) (fun h => by cases h) k'
        have : decide (((xs.length : Nat) : Int) = 2) = false := decide_eq_false (by omega)
        rw [this]
        exact k2⟩
end
end K01

set_option Elab.async false
set_option linter.all false
set_option maxRecDepth 100000
set_option maxHeartbeats 4000000
namespace K01
open PySem PySem.Spec PyProof.Rows L2 Q
/-! lists for tuples -/
mutual
def norm : D → D
  | .lst xs => .lst (norms xs)
  | .tup xs => .lst (norms xs)
  | .non => .non
  | .bl b => .bl b
  | .int i => .int i
  | .str z => .str z
  | .dct a b => .dct a b
  | .dtt a b => .dtt a b
  | .dmx w a b => .dmx w a b
  | .ins C a b => .ins C a b
  | .raw v => .raw v
def norms : List D → List D
  | [] => []
  | x :: xs => norm x :: norms xs
end
mutual
def cnt : D → Nat
  | .lst xs => cnts xs + 1
  | .tup xs => cnts xs + 1
  | _ => 0
def cnts : List D → Nat
  | [] => 0
  | x :: xs => cnt x + cnts xs
end
/-! no more than so many things in a row, at any depth -/
mutual
def wid : D → Bool
  | .lst xs => decide (xs.length ≤ 1000) && wids xs
  | .tup xs => decide (xs.length ≤ 1000) && wids xs
  | _ => true
def wids : List D → Bool
  | [] => true
  | x :: xs => wid x && wids xs
end
theorem norms_map : ∀ xs : List D, norms xs = xs.map norm
  | [] => by rw [norms]; rfl
  | x :: xs => by rw [norms, norms_map xs]; rfl
theorem wids_iff : ∀ {xs : List D}, wids xs = true ↔ ∀ x ∈ xs, wid x = true
  | [] => by simp [wids]
  | x :: xs => by rw [wids, Bool.and_eq_true, wids_iff (xs := xs)]; simp
theorem isDats_iff : ∀ {xs : List D}, isDats xs = true ↔ ∀ x ∈ xs, isDat x = true
  | [] => by simp
  | x :: xs => by rw [isDats, Bool.and_eq_true, isDats_iff (xs := xs)]; simp
theorem deps_le {xs : List D} {x : D} (h : x ∈ xs) : dep x ≤ deps xs := by
  induction xs with
  | nil => cases h
  | cons y ys ih =>
    rw [deps]
    rcases List.mem_cons.mp h with rfl | h
    · omega
    · have := ih h; omega
end K01

set_option Elab.async false
set_option linter.all false
set_option maxRecDepth 100000
set_option maxHeartbeats 4000000
namespace K01
open PySem PySem.Spec PyProof.Rows L2 Q
theorem all_true : ∀ {acc : List D}, (∀ a ∈ acc, a = .bl true) → allD (.lst acc) = some (.bl true)
  | [], _ => rfl
  | a :: as, h => by
    have e := h a List.mem_cons_self
    subst e
    have ih := all_true fun q hq => h q (List.mem_cons_of_mem _ hq)
    change (blsD as).map (fun bs => D.bl (bs.all id)) = _ at ih
    change (blsD (.bl true :: as)).map (fun bs => D.bl (bs.all id)) = _
    cases hb : blsD as with
    | none => rw [hb] at ih; cases ih
    | some bs => rw [hb] at ih; simp at ih; simp [blsD, hb, ih]
theorem pairs_same (xs : List D) : ∀ p ∈ zipD xs xs, ∃ x ∈ xs, p = .tup [x, x] := by
  induction xs with
  | nil => intro p h; cases h
  | cons x xs ih =>
    intro p h
    have h : p ∈ .tup [x, x] :: zipD xs xs := h
    rcases List.mem_cons.mp h with rfl | h
    · exact ⟨x, List.mem_cons_self, rfl⟩
    · obtain ⟨y, hy, e⟩ := ih p h
      exact ⟨y, List.mem_cons_of_mem _ hy, e⟩
/-! data, or dicts without rows -/
mutual
def isDe : D → Bool
  | .lst xs => isDes xs
  | .tup xs => isDes xs
  | .dct [] [] => true
  | .non => true
  | .bl _ => true
  | .int _ => true
  | .str _ => true
  | _ => false
def isDes : List D → Bool
  | [] => true
  | x :: xs => isDe x && isDes xs
end
mutual
def depE : D → Nat
  | .lst xs => depEs xs + 1
  | .tup xs => depEs xs + 1
  | .dct _ _ => 2
  | _ => 0
def depEs : List D → Nat
  | [] => 0
  | x :: xs => max (depE x) (depEs xs)
end
theorem isDe_dct : ∀ {ks vs : List D}, isDe (.dct ks vs) = true → ks = [] ∧ vs = []
  | [], [], _ => ⟨rfl, rfl⟩
  | [], _ :: _, h => by cases (show false = true from h)
  | _ :: _, [], h => by cases (show false = true from h)
  | _ :: _, _ :: _, h => by cases (show false = true from h)
theorem isDes_iff : ∀ {xs : List D}, isDes xs = true ↔ ∀ x ∈ xs, isDe x = true
  | [] => by simp [isDes]
  | x :: xs => by rw [isDes, Bool.and_eq_true, isDes_iff (xs := xs)]; simp
theorem depEs_le {xs : List D} {x : D} (h : x ∈ xs) : depE x ≤ depEs xs := by
  induction xs with
  | nil => cases h
  | cons y ys ih =>
    rw [depEs]
    rcases List.mem_cons.mp h with rfl | h
    · omega
    · have := ih h; omega
mutual
theorem isDat_e : ∀ {d : D}, isDat d = true → isDe d = true ∧ depE d = dep d
  | .lst xs, h => by
    obtain ⟨a, b⟩ := isDats_e (xs := xs) (by simpa [isDat] using h)
    exact ⟨by rw [isDe]; exact a, by rw [depE, dep, b]⟩
  | .tup xs, h => by
    obtain ⟨a, b⟩ := isDats_e (xs := xs) (by simpa [isDat] using h)
    exact ⟨by rw [isDe]; exact a, by rw [depE, dep, b]⟩
  | .non, _ => by simp [isDe, depE, dep]
  | .bl _, _ => by simp [isDe, depE, dep]
  | .int _, _ => by simp [isDe, depE, dep]
  | .str _, _ => by simp [isDe, depE, dep]
  | .dct _ _, h => by simp [isDat] at h
  | .dtt _ _, h => by simp [isDat] at h
  | .dmx _ _ _, h => by simp [isDat] at h
  | .ins _ _ _, h => by simp [isDat] at h
  | .raw _, h => by simp [isDat] at h
theorem isDats_e : ∀ {xs : List D}, isDats xs = true → isDes xs = true ∧ depEs xs = deps xs
  | [], _ => by simp [isDes, depEs, deps]
  | x :: xs, h => by
    rw [isDats, Bool.and_eq_true] at h
    obtain ⟨a, b⟩ := isDat_e h.1
    obtain ⟨a', b'⟩ := isDats_e h.2
    exact ⟨by rw [isDes, a, a']; rfl, by rw [depEs, deps, b, b']⟩
end
/-- the same thing twice -/
def mSame (n : Nat) : WM := fun ds Kk => ∃ d, ds = [d, d] ∧ depE d < n ∧ wid d = true ∧ isDe d = true ∧ Kk (.bl true)
section
variable {P : Program} {w : World} {K : PySem.W.Frag} {mg : Str → Option Value} {base : Heap} {f : Addr} {fd : FuncData} {TT : TbL}
-- _law_same: slots 0 _law_found, 1 _law_due, 2 _law_x, 3 _law_y
abbrev s_L_same : Stmt := (top 42)
abbrev N_sc_L_same : List Str := ["_law_found", "_law_due", "_law_x", "_law_y"]
theorem sc_L_same : FnScope N_sc_L_same ["_law_found", "_law_due"] (defScope s_L_same) := ⟨rfl, rfl, rfl, by decide +kernel, rfl, by decide +kernel, by decide +kernel⟩
theorem ok_L_same (F : FnP K "_law_same" "_law_same" s_L_same f fd) (T : Tx K mg) (hm : mg "_law_same" = some (.ref f)) (hk : PySem.W.keepIn K (.ref f) = true) (hb : Binds K fd ["_law_found", "_law_due"] []) :
    ∀ n, FnOk P w K mg base CX0 (n + 1) f fd ["_law_found", "_law_due"] (spD K (mSame n)) := by
  intro n
  induction n with
  | zero =>
    refine ⟨fun vs H Q E h => ?_, fun A outer s H args us vs Q E hr he hb hv h => ?_⟩
    · obtain ⟨_, _, _, _, _, ⟨_, _, hl, _⟩, _⟩ := h
      exact absurd hl (Nat.not_lt_zero _)
    · obtain ⟨_, _, _, _, _, ⟨_, _, hl, _⟩, _⟩ := h
      exact absurd hl (Nat.not_lt_zero _)
  | succ n ih =>
    have C__law_same : Cal P w K mg base "_law_same" (n + 1) ["_law_found", "_law_due"] (spD K (mSame n)) := ⟨f, fd, hm, hk, ih, hb⟩
    exact FnD F sc_L_same (fun ds Kk h => by obtain ⟨_, rfl, _⟩ := h; rfl) fun cdv A outer s H Fz E hr => ⟨_, 
(ds_cons (ds_if (dt_truth (de_isN T.b_isinstance (tns_cons (TyN.mk (t := .list) (by rfl) T.b_list (by decide +kernel) (by decide) (by decide)) (tns_cons (TyN.mk (t := .tuple) (by rfl) T.b_tuple (by decide +kernel) (by decide) (by decide)) tns_nil)) (de_v (i := 1)))) (ds_cons (ds_if (DW.dt (dw_or (dt_cm (c_ne hr) (de_is1 T.b_isinstance (TyN.mk (t := .list) (by rfl) T.b_list (by decide +kernel) (by decide) (by decide)) (de_v (i := 0))) (de_is1 T.b_isinstance (TyN.mk (t := .list) (by rfl) T.b_list (by decide +kernel) (by decide) (by decide)) (de_v (i := 1)))) (dw_or1 (dt_cm (c_ne hr) (de_is1 T.b_isinstance (TyN.mk (t := .tuple) (by rfl) T.b_tuple (by decide +kernel) (by decide) (by decide)) (de_v (i := 0))) (de_is1 T.b_isinstance (TyN.mk (t := .tuple) (by rfl) T.b_tuple (by decide +kernel) (by decide) (by decide)) (de_v (i := 1))))))) (ds_one (ds_ret de_bl)) ds_nil)
 (ds_one (ds_ret (de_and (de_cm (c_eq hr) (de_len T.b_len (de_v (i := 0))) (de_len T.b_len (de_v (i := 1)))) (de_one (de_all T.b_all (FE.de (fe_lc (own := [("_law_x", 2), ("_law_y", 3)]) sc_L_same.nd (di_zipA T.b_zip (de_v (i := 0)) (de_v (i := 1))) (blkOk_by (own := [("_law_x", 2), ("_law_y", 3)]) (N := N_sc_L_same) (sc := defScope s_L_same) (by decide +kernel)) (fun _ _ _ _ _ => (dg_tup (n := 2) (dgs_cons (dg_name (i := 2) sc_L_same.nd) (dgs_cons (dg_name (i := 3) sc_L_same.nd) dgs_nil)))) (fun _ _ _ _ _ => dts_nil) (fun _ _ _ _ _ => (de_call C__law_same hr (da_cons (de_v (i := 2)) (da_cons (de_v (i := 3)) da_nil)) (hj := by omega))))))))))) ds_nil)
 (ds_cons (ds_if (dt_truth (de_is1 T.b_isinstance (TyN.mk (t := .dict) (by rfl) T.b_dict (by decide +kernel) (by decide) (by decide)) (de_v (i := 1)))) (ds_one (ds_ret (de_and (de_is1 T.b_isinstance (TyN.mk (t := .dict) (by rfl) T.b_dict (by decide +kernel) (by decide) (by decide)) (de_v (i := 0))) (de_one (de_call C__law_same hr (da_cons (FE.de (fe_items T.b_list (de_v (i := 0)))) (da_cons (FE.de (fe_items T.b_list (de_v (i := 1)))) da_nil)) (hj := by omega)))))) ds_nil)
 (ds_cons (ds_if (dt_truth (de_is1 T.b_isinstance (TyN.mk (t := .int) (by rfl) T.b_int (by decide +kernel) (by decide) (by decide)) (de_v (i := 1)))) (ds_one (ds_ret (de_and (de_is1 T.b_isinstance (TyN.mk (t := .int) (by rfl) T.b_int (by decide +kernel) (by decide) (by decide)) (de_v (i := 0))) (de_and (de_cm (c_eq hr) (de_is1 T.b_isinstance (TyN.mk (t := .bool) (by rfl) T.b_bool (by decide +kernel) (by decide) (by decide)) (de_v (i := 0))) (de_is1 T.b_isinstance (TyN.mk (t := .bool) (by rfl) T.b_bool (by decide +kernel) (by decide) (by decide)) (de_v (i := 1)))) (de_one (de_cm (c_eq hr) (de_v (i := 0)) (de_v (i := 1)))))))) ds_nil)
 (ds_one (ds_ret (de_and (de_not (de_isN T.b_isinstance (tns_cons (TyN.mk (t := .int) (by rfl) T.b_int (by decide +kernel) (by decide) (by decide)) (tns_cons (TyN.mk (t := .list) (by rfl) T.b_list (by decide +kernel) (by decide) (by decide)) (tns_cons (TyN.mk (t := .tuple) (by rfl) T.b_tuple (by decide +kernel) (by decide) (by decide)) (tns_cons (TyN.mk (t := .dict) (by rfl) T.b_dict (by decide +kernel) (by decide) (by decide)) tns_nil)))) (de_v (i := 0)))) (de_one (de_cm (c_eq hr) (de_v (i := 0)) (de_v (i := 1))))))))))
  , fun ds Kk h => by
    obtain ⟨d, rfl, hd, hw, hde, k⟩ := h
    let mk : DS noR := ⟨noG, [some (.fz d), some (.fz d), none, none]⟩
    cases hs : sqOf d with
    | none =>
      by_cases hdd : d = .dct [] []
      · subst hdd
        refine ⟨_, rfl, .bl false, by simp [isaD], false, rfl, itF ?_⟩
        refine ⟨_, rfl, .bl true, by simp [isaD], true, rfl, itT ?_⟩
        refine ⟨_, rfl, .bl true, by simp [isaD], true, rfl, itT ?_⟩
        refine ⟨_, rfl, [], [], rfl, _, rfl, [], [], rfl, .lst [], rfl, ?_, rfl, rfl, k⟩
        have h2 : depE (.dct [] []) = 2 := rfl
        have h1 : depE (.lst []) = 1 := rfl
        omega
      have hdat : isDat d = true := by
        cases d with
        | dct ks vs =>
          obtain ⟨rfl, rfl⟩ := isDe_dct hde
          exact absurd rfl hdd
        | lst _ => cases hs
        | tup _ => cases hs
        | dtt _ _ => cases (show false = true from hde)
        | dmx _ _ _ => cases (show false = true from hde)
        | ins _ _ _ => cases (show false = true from hde)
        | raw _ => cases (show false = true from hde)
        | _ => simp
      have hd5 : dep d ≤ 50 := by cases d <;> first | (cases hs; done) | (simp; done) | (simp [isDat] at hdat; done)
      have hi : isaD [.list, .tuple] d = some (.bl false) := by cases d <;> first | (cases hs; done) | (simp [isaD]; done) | (simp [isDat] at hdat; done)
      have eqs : eqD false d d = some (.bl true) := by
        unfold eqD
        rw [if_pos ⟨hdat, hdat, by omega⟩]
        have : deq d d = true := by cases d <;> first | (simp; done) | (cases hs; done) | (simp [isDat] at hdat; done)
        rw [this]; rfl
      have hdc : isaD [.dict] d = some (.bl false) := by cases d <;> first | (cases hs; done) | (simp [isaD]; done) | (simp [isDat] at hdat; done)
      refine ⟨_, rfl, _, hi, false, rfl, itF ?_⟩
      refine ⟨_, rfl, _, hdc, false, rfl, itF ?_⟩
      obtain ⟨b1, h1⟩ : ∃ b, isaD [.bool] d = some (.bl b) := by cases d <;> first | (exact ⟨_, rfl⟩) | (simp [isDat] at hdat; done)
      by_cases h2 : isaD [.int] d = some (.bl true)
      · refine ⟨_, rfl, _, h2, true, rfl, itT ?_⟩
        refine ⟨_, rfl, _, h2, true, rfl, itT ⟨_, rfl, _, h1, _, rfl, _, h1, .bl true, by cases b1 <;> simp [eqD, xr], true, rfl, itT ⟨_, rfl, _, rfl, _, eqs, k⟩⟩⟩
      · have h3 : isaD [.int] d = some (.bl false) ∧ isaD [.int, .list, .tuple, .dict] d = some (.bl false) := by cases d <;> first | (cases hs; done) | (exact absurd rfl h2) | (simp [isaD]; done) | (simp [isDat] at hdat; done)
        refine ⟨_, rfl, _, h3.1, false, rfl, itF ?_⟩
        exact ⟨_, rfl, _, h3.2, false, rfl, true, rfl, itT ⟨_, rfl, _, rfl, _, eqs, k⟩⟩
    | some xs =>
      have hi : isaD [.list, .tuple] d = some (.bl true) := by rcases sq_cases hs with rfl | rfl <;> simp [isaD]
      have hl : xs.length ≤ 1000 ∧ wids xs = true := by rcases sq_cases hs with rfl | rfl <;> simp [wid] at hw <;> exact hw
      have hdx : depEs xs + 1 = depE d := by rcases sq_cases hs with rfl | rfl <;> rfl
      have hdt : isDes xs = true := by rcases sq_cases hs with rfl | rfl <;> simpa [isDe] using hde
      refine ⟨_, rfl, _, hi, true, rfl, itT ?_⟩
      obtain ⟨b1, h1⟩ : ∃ b, isaD [.list] d = some (.bl b) := by rcases sq_cases hs with rfl | rfl <;> exact ⟨_, rfl⟩
      obtain ⟨b2, h2⟩ : ∃ b, isaD [.tuple] d = some (.bl b) := by rcases sq_cases hs with rfl | rfl <;> exact ⟨_, rfl⟩
      have hln : lenD d = some (.int (xs.length : Nat)) := by rcases sq_cases hs with rfl | rfl <;> rfl
      have hz : (d = .lst xs ∧ d = .lst xs) ∨ (d = .tup xs ∧ d = .tup xs) := by rcases sq_cases hs with h | h <;> simp [h]
      refine ⟨_, rfl, _, h1, _, rfl, _, h1, .bl false, by cases b1 <;> simp [eqD, xr], false, rfl, itF ?_⟩
      refine ⟨_, rfl, _, h2, _, rfl, _, h2, .bl false, by cases b2 <;> simp [eqD, xr], false, rfl, itF ?_⟩
      refine ⟨_, rfl, _, hln, _, rfl, _, hln, .bl true, by simp [eqD, xr], true, rfl, itT ?_⟩
      refine ⟨_, rfl, _, rfl, xs, xs, hz, ?_⟩
      refine ⟨by simp [zipD]; omega, fun i m d' q => ?_, ?_⟩
      · have e : i = 2 ∨ i = 3 := by simpa using m
        rcases e with rfl | rfl <;> cases q
      refine lcGo_ind (fun rest acc ρ => (∀ p ∈ rest, ∃ x ∈ xs, p = .tup [x, x]) ∧ (∀ a ∈ acc, a = .bl true) ∧ ρ = mk) ?_ ?_ _ _ _ ⟨pairs_same xs, by simp, rfl⟩
      · rintro p rest acc N ρ hN ⟨h4, h5, rfl⟩
        obtain ⟨x, hx, rfl⟩ := h4 p List.mem_cons_self
        refine ⟨_, rfl, rfl, _, _, rfl, _, _, rfl, rfl, ?_⟩
        refine ⟨_, rfl, _, rfl, ⟨x, rfl, ?_, wids_iff.mp hl.2 x hx, isDes_iff.mp hdt x hx, hN _ _ ⟨fun q hq => h4 q (List.mem_cons_of_mem _ hq), fun q hq => ?_, rfl⟩⟩⟩
        · have := depEs_le hx; omega
        · rcases List.mem_append.mp hq with h | h
          · exact h5 q h
          · exact List.mem_singleton.mp h
      · rintro acc ρ ⟨_, h5, rfl⟩
        exact ⟨_, all_true h5, k⟩⟩
end
end K01

set_option Elab.async false
set_option linter.all false
set_option maxRecDepth 100000
set_option maxHeartbeats 4000000
namespace K01
open PySem PySem.Spec PyProof.Rows L2 Q
/-! looked at by both -/
section
variable {P : Program} {w : World} {K : PySem.W.Frag} {mg : Str → Option Value} {base : Heap} {f : Addr} {fd : FuncData}
-- _law_looks_right: slots 0 _law_thing, 1 _law_found, 2 _law_due
abbrev s_L_looks_right : Stmt := (top 63)
abbrev N_sc_L_looks_right : List Str := ["_law_thing", "_law_found", "_law_due"]
theorem sc_L_looks_right : FnScope N_sc_L_looks_right ["_law_thing"] (defScope s_L_looks_right) := ⟨rfl, rfl, rfl, by decide +kernel, rfl, by decide +kernel, by decide +kernel⟩
theorem ok_L_looks_right (F : FnP K "_law_looks_right" "_law_looks_right" s_L_looks_right f fd) (T : Tx K mg) (C_is_name : Cal P w K mg base "is_name" 1 ["thing"] (spD K (wF tame1 fun ds => .bl (isNm (ds.headD .non)))))
    (C_is_thing : Cal P w K mg base "is_thing" 2 ["thing"] (spD K (wF tame1 fun ds => .bl (isTh (ds.headD .non)))))
    (C_is_letter : Cal P w K mg base "is_letter" 1 ["thing"] (spD K (wF tame1 fun ds => .bl (isLt (ds.headD .non)))))
    (C_is_term : Cal P w K mg base "is_term" 3 ["thing"] (spD K (wF tame1 fun ds => .bl (isTm (ds.headD .non)))))
    (C_is_atom : Cal P w K mg base "is_atom" 5 ["thing"] (spD K (wF tmd1 fun ds => .bl (!isNon (asAtom (ds.headD .non))))))
    (C_is_fact : Cal P w K mg base "is_fact" 4 ["thing"] (spD K (wF tmd1 fun ds => .bl (!isNon (asFact (ds.headD .non))))))
    (C_is_part : Cal P w K mg base "is_part" 7 ["thing"] (spD K (wF tmd1 fun ds => .bl (!isNon (asPart (ds.headD .non))))))
    (C_is_body : Cal P w K mg base "is_body" 8 ["thing"] (spD K (wF tmd1 fun ds => .bl (!isNon (asBody (ds.headD .non))))))
    (C_is_rule : Cal P w K mg base "is_rule" 9 ["thing"] (spD K (wF tmd1 fun ds => .bl (!isNon (asRule (ds.headD .non))))))
    (C__law_is_name : Cal P w K mg base "_law_is_name" 2 ["_law_thing"] (spD K (wF tame1 fun ds => .bl (isNm (ds.headD .non)))))
    (C__law_is_thing : Cal P w K mg base "_law_is_thing" 3 ["_law_thing"] (spD K (wF tame1 fun ds => .bl (isTh (ds.headD .non)))))
    (C__law_is_a_letter : Cal P w K mg base "_law_is_a_letter" 2 ["_law_thing"] (spD K (wF tame1 fun ds => .bl (isLt (ds.headD .non)))))
    (C__law_is_term : Cal P w K mg base "_law_is_term" 4 ["_law_thing"] (spD K (wF tame1 fun ds => .bl (isTm (ds.headD .non)))))
    (C__law_is_atom : Cal P w K mg base "_law_is_atom" 5 ["_law_thing"] (spD K (wF tmd1 fun ds => .bl (!isNon (asAtom (ds.headD .non))))))
    (C__law_is_fact : Cal P w K mg base "_law_is_fact" 6 ["_law_thing"] (spD K (wF tmd1 fun ds => .bl (!isNon (asFact (ds.headD .non))))))
    (C__law_is_part : Cal P w K mg base "_law_is_part" 6 ["_law_thing"] (spD K (wF tmd1 fun ds => .bl (!isNon (asPart (ds.headD .non))))))
    (C__law_is_body : Cal P w K mg base "_law_is_body" 7 ["_law_thing"] (spD K (wF tmd1 fun ds => .bl (!isNon (asBody (ds.headD .non))))))
    (C__law_is_rule : Cal P w K mg base "_law_is_rule" 8 ["_law_thing"] (spD K (wF tmd1 fun ds => .bl (!isNon (asRule (ds.headD .non))))))
    (C__law_same : Cal P w K mg base "_law_same" 10 ["_law_found", "_law_due"] (spD K (mSame 9))) :
    FnOk P w K mg base CX0 11 f fd ["_law_thing"] (spD K (wF tmd1 fun ds => .bl true)) :=
  FnD F sc_L_looks_right (fun ds Kk h => by obtain ⟨⟨_, rfl, _⟩, _⟩ := h; rfl) fun cdv A outer s H Fz E hr => ⟨_, 
(ds_cons (ds_set (i := 1) sc_L_looks_right.nd (FE.de (fe_lst (da_cons (de_call C_is_name hr (da_cons (de_v (i := 0)) da_nil)) (da_cons (de_call C_is_thing hr (da_cons (de_v (i := 0)) da_nil)) (da_cons (de_call C_is_letter hr (da_cons (de_v (i := 0)) da_nil)) (da_cons (de_call C_is_term hr (da_cons (de_v (i := 0)) da_nil)) (da_cons (de_call C_is_atom hr (da_cons (de_v (i := 0)) da_nil)) (da_cons (de_call C_is_fact hr (da_cons (de_v (i := 0)) da_nil)) da_nil)))))))))
 (ds_cons (ds_new (i := 2) sc_L_looks_right.nd (fe_lst (da_cons (de_call C__law_is_name hr (da_cons (de_v (i := 0)) da_nil)) (da_cons (de_call C__law_is_thing hr (da_cons (de_v (i := 0)) da_nil)) (da_cons (de_call C__law_is_a_letter hr (da_cons (de_v (i := 0)) da_nil)) (da_cons (de_call C__law_is_term hr (da_cons (de_v (i := 0)) da_nil)) da_nil))))))
 (ds_cons (ds_ext (i := 2) (FE.de (fe_lst (da_cons (de_call C__law_is_atom hr (da_cons (de_v (i := 0)) da_nil)) (da_cons (de_call C__law_is_fact hr (da_cons (de_v (i := 0)) da_nil)) da_nil)))))
 (ds_one (ds_ret (de_call C__law_same hr (da_cons (de_add (de_v (i := 1)) (FE.de (fe_lst (da_cons (de_call C_is_part hr (da_cons (de_v (i := 0)) da_nil)) (da_cons (de_call C_is_body hr (da_cons (de_v (i := 0)) da_nil)) (da_cons (de_call C_is_rule hr (da_cons (de_v (i := 0)) da_nil)) da_nil)))))) (da_cons (de_add (de_b (i := 2)) (FE.de (fe_lst (da_cons (de_call C__law_is_part hr (da_cons (de_v (i := 0)) da_nil)) (da_cons (de_call C__law_is_body hr (da_cons (de_v (i := 0)) da_nil)) (da_cons (de_call C__law_is_rule hr (da_cons (de_v (i := 0)) da_nil)) da_nil)))))) da_nil))))))))
  , fun ds Kk h => by
    obtain ⟨⟨x, rfl, hx⟩, k⟩ := h
    have ht : tame x := tmB.tame hx
    let b1 := isNm x
    let b2 := isTh x
    let b3 := isLt x
    let b4 := isTm x
    let b5 := !isNon (asAtom x)
    let b6 := !isNon (asFact x)
    let b7 := !isNon (asPart x)
    let b8 := !isNon (asBody x)
    let b9 := !isNon (asRule x)
    let due : D := .lst [.bl b1, .bl b2, .bl b3, .bl b4, .bl b5, .bl b6, .bl b7, .bl b8, .bl b9]
    refine ⟨_, rfl, ⟨x, rfl, ht⟩, _, rfl, ⟨x, rfl, ht⟩, _, rfl, ⟨x, rfl, ht⟩, _, rfl, ⟨x, rfl, ht⟩, _, rfl, ⟨x, rfl, hx⟩, _, rfl, ⟨x, rfl, hx⟩, by simp, ?_⟩
    refine ⟨_, rfl, ⟨x, rfl, ht⟩, _, rfl, ⟨x, rfl, ht⟩, _, rfl, ⟨x, rfl, ht⟩, _, rfl, ⟨x, rfl, ht⟩, by simp, ?_⟩
    refine ⟨⟨_, rfl⟩, _, rfl, ⟨x, rfl, hx⟩, _, rfl, ⟨x, rfl, hx⟩, by simp, _, _, rfl, rfl, by simp, ?_⟩
    refine ⟨_, rfl, _, rfl, ⟨x, rfl, hx⟩, _, rfl, ⟨x, rfl, hx⟩, _, rfl, ⟨x, rfl, hx⟩, by simp, due, by rfl, ?_⟩
    refine .inr ⟨_, rfl, _, rfl, ⟨x, rfl, hx⟩, _, rfl, ⟨x, rfl, hx⟩, _, rfl, ⟨x, rfl, hx⟩, by simp, due, by rfl, due, rfl, ?_, ?_, ?_, k⟩
    · simp [due, depE, depEs]
    · simp [due, wid, wids]
    · simp [due, isDe, isDes]⟩
end
end K01

set_option Elab.async false
set_option linter.all false
set_option maxRecDepth 100000
set_option maxHeartbeats 4000000
namespace K01
open PySem PySem.Spec PyProof.Rows L2 Q
/-! letters, by the law's own look -/
def tm1 : List D → Prop := fun ds => ∃ t, ds = [t] ∧ isTm t = true
theorem small_cap : ∀ c ∈ ("abcdefghijklmnopqrstuvwxyz" : Str).cps.toList, c ∉ ("ABCDEFGHIJKLMNOPQRSTUVWXYZ" : Str).cps.toList := by decide +kernel
/-- of a term that is a text: its first sign says whether it is a letter -/
theorem tm_str {z : Str} (h : isTm (.str z) = true) : ∃ a r, z = ⟨⟨a :: r⟩⟩ ∧ r.length ≤ 11 ∧ strLt z = decide (a ∈ ("ABCDEFGHIJKLMNOPQRSTUVWXYZ" : Str).cps.toList) := by
  obtain ⟨⟨l⟩⟩ := z
  have h : (strNm ⟨⟨l⟩⟩ || strLt ⟨⟨l⟩⟩) = true := h
  cases l with
  | nil => simp [strNm, strLt, Str.length] at h
  | cons a r =>
    refine ⟨a, r, rfl, ?_, ?_⟩
    · rcases Bool.or_eq_true_iff.mp h with h | h
      · simp [strNm, Str.length] at h; omega
      · simp [strLt, Str.length] at h; omega
    · cases hl : strLt ⟨⟨a :: r⟩⟩ with
      | true =>
        have : a ∈ ("ABCDEFGHIJKLMNOPQRSTUVWXYZ" : Str).cps.toList := by simp only [strLt, Bool.and_eq_true, decide_eq_true_eq] at hl; exact hl.1.1.2
        exact (decide_eq_true this).symm
      | false =>
        rw [hl, Bool.or_false] at h
        have : a ∈ ("abcdefghijklmnopqrstuvwxyz" : Str).cps.toList := by simp only [strNm, Bool.and_eq_true, decide_eq_true_eq] at h; exact h.1.1.2
        exact (decide_eq_false (small_cap a this)).symm
section
variable {P : Program} {w : World} {K : PySem.W.Frag} {mg : Str → Option Value} {base : Heap} {f : Addr} {fd : FuncData}
-- _law_is_letter: slots 0 _law_term_here
abbrev s_L_is_letter : Stmt := (top 44)
abbrev N_sc_L_is_letter : List Str := ["_law_term_here"]
theorem sc_L_is_letter : FnScope N_sc_L_is_letter ["_law_term_here"] (defScope s_L_is_letter) := ⟨rfl, rfl, rfl, by decide +kernel, rfl, by decide +kernel, by decide +kernel⟩
theorem ok_L_is_letter (F : FnP K "_law_is_letter" "_law_is_letter" s_L_is_letter f fd) (T : Tx K mg) : FnOk P w K mg base CX0 1 f fd ["_law_term_here"] (spD K (wF tm1 fun ds => .bl (isLt (ds.headD .non)))) :=
  FnD F sc_L_is_letter (fun ds Kk h => by obtain ⟨⟨_, rfl, _⟩, _⟩ := h; rfl) fun cdv A outer s H Fz E hr => ⟨_, 
(ds_one (ds_ret (de_and (de_is1 T.b_isinstance (TyN.mk (t := .str) (by rfl) T.b_str (by decide +kernel) (by decide) (by decide)) (de_v (i := 0))) (de_one (de_cm (c_in hr) (de_ixA (de_v (i := 0)) de_int) de_str)))))
  , fun ds Kk h => by
    obtain ⟨⟨t, rfl, ht⟩, k⟩ := h
    replace k : Kk (.bl (isLt t)) := k
    cases t with
    | int i => exact ⟨_, rfl, .bl false, rfl, false, rfl, itF k⟩
    | str z =>
      obtain ⟨a, r, rfl, hr11, e⟩ := tm_str ht
      have k : Kk (.bl (strLt ⟨⟨a :: r⟩⟩)) := k
      rw [e] at k
      have hx : r.length + 1 ≤ 100000 := by omega
      refine ⟨_, rfl, .bl true, rfl, true, rfl, itT ⟨_, rfl, .str ⟨#[a]⟩, by simp [ixN, Q.signs, Str.length, hx], .bl (xr false (decide (a ∈ ("ABCDEFGHIJKLMNOPQRSTUVWXYZ" : Str).cps.toList))), rfl, ?_⟩⟩
      have e2 : xr false (decide (a ∈ ("ABCDEFGHIJKLMNOPQRSTUVWXYZ" : Str).cps.toList)) = decide (a ∈ ("ABCDEFGHIJKLMNOPQRSTUVWXYZ" : Str).cps.toList) := by cases decide (a ∈ ("ABCDEFGHIJKLMNOPQRSTUVWXYZ" : Str).cps.toList) <;> rfl
      rw [e2]
      exact k
    | _ => cases ht⟩
end
end K01

set_option Elab.async false
set_option linter.all false
set_option maxRecDepth 100000
set_option maxHeartbeats 4000000
namespace K01
open PySem PySem.Spec PyProof.Rows L2 Q
/-! letters, each once -/
theorem strs_dat : ∀ zs : List Str, isDats (zs.map D.str) = true ∧ deps (zs.map D.str) = 0
  | [] => by simp
  | z :: zs => by
    obtain ⟨a, b⟩ := strs_dat zs
    simp [a, b]
theorem any_strs (z : Str) (zs : List Str) : ((zs.map D.str).any fun y => deq y (.str z)) = decide (z ∈ zs) := by
  induction zs with
  | nil => simp
  | cons y ys ih =>
    rw [List.map_cons, List.any_cons, ih]
    by_cases h : z = y
    · subst h; simp
    · have h' : ¬ y = z := fun e => h e.symm
      simp [h, h']
theorem inD_strs (n : Bool) (z : Str) (zs : List Str) : inD n (.str z) (.lst (zs.map .str)) = some (.bl (xr n (decide (z ∈ zs)))) := by
  rw [in_lst]
  unfold inSq
  obtain ⟨a, b⟩ := strs_dat zs
  rw [if_pos ⟨da_str z, a, by rw [b]; simp⟩, any_strs]
def strOf : D → Str
  | .str z => z
  | _ => ""
theorem lts_strs : ∀ {xs : List D}, xs.all isLt = true → xs = (xs.map strOf).map D.str
  | [], _ => rfl
  | x :: xs, h => by
    rw [List.all_cons, Bool.and_eq_true] at h
    have ih := lts_strs h.2
    cases x <;> simp [isLt] at h
    rw [List.map_cons, List.map_cons, ← ih]
    rfl
theorem wLc_via {R : Rgn} {wi : WI R} {g : WG R} {wt : WB R} {we : WE R} {vs : List Nat} {ρ ρ' : DS R} {ds : List D} (h : ∀ K' : List D → DS R → Prop, K' ds ρ' → wi ρ K') (K : D → DS R → Prop) (k : wLc (fun ρ K => K ds ρ) g wt we vs ρ' K) : wLc wi g wt we vs ρ K := h _ k
theorem addL_eq : ∀ (ts : List D) (acc : List Str), ts.foldl addL acc = ((ts.filter isLt).map strOf).foldl addS acc
  | [], acc => rfl
  | t :: ts, acc => by
    rw [List.foldl_cons, addL_eq ts]
    cases h : isLt t with
    | true =>
      rw [List.filter_cons_of_pos h, List.map_cons, List.foldl_cons]
      have e : addL acc t = addS acc (strOf t) := by
        cases t <;> simp [isLt] at h
        rename_i z
        by_cases m : z ∈ acc <;> simp [addL, addS, strOf, h, m]
      rw [e]
    | false =>
      rw [List.filter_cons_of_neg (by rw [h]; decide)]
      have : addL acc t = acc := by
        cases t <;> simp [isLt] at h <;> simp [addL, h]
      rw [this]
theorem lettersP_once (ps : List D) : lettersP ps = onceS (((ps.flatMap termsP).filter isLt).map strOf) := addL_eq _ []
def okStrs : List D → Prop := fun ds => ∃ zs : List Str, ds = [.lst (zs.map .str)] ∧ zs.length ≤ 1000
def strsOf : D → List Str
  | .lst xs => xs.map strOf
  | _ => []
theorem strsOf_map (zs : List Str) : strsOf (.lst (zs.map .str)) = zs := by
  show (zs.map D.str).map strOf = zs
  rw [List.map_map]
  exact List.map_id'' (fun _ => rfl) zs
section
variable {P : Program} {w : World} {K : PySem.W.Frag} {mg : Str → Option Value} {base : Heap} {f : Addr} {fd : FuncData}
-- _law_each_once: slots 0 _law_things, 1 _law_found, 2 _law_thing
abbrev s_L_each_once : Stmt := (top 43)
abbrev N_sc_L_each_once : List Str := ["_law_things", "_law_found", "_law_thing"]
theorem sc_L_each_once : FnScope N_sc_L_each_once ["_law_things"] (defScope s_L_each_once) := ⟨rfl, rfl, rfl, by decide +kernel, rfl, by decide +kernel, by decide +kernel⟩
theorem ok_L_each_once (F : FnP K "_law_each_once" "_law_each_once" s_L_each_once f fd) (T : Tx K mg) : FnOk P w K mg base CX0 1 f fd ["_law_things"] (spF K (wF okStrs fun ds => .lst ((onceS (strsOf (ds.headD .non))).map .str))) :=
  FnF F sc_L_each_once (fun ds Kk h => by obtain ⟨⟨_, rfl, _⟩, _⟩ := h; rfl) fun cdv A outer s H Fz E hr => ⟨_, 
(ds_cons (ds_new (i := 1) sc_L_each_once.nd (fe_lst da_nil))
 (ds_cons (ds_for (di_seq (de_v (i := 0))) (dg_name (i := 2) sc_L_each_once.nd)
  (ds_one (ds_if (dt_cm (c_ni hr) (de_v (i := 2)) (de_b (i := 1))) (ds_one (ds_app (i := 1) (de_v (i := 2)))) ds_nil)))
 (ds_one (ds_retO (i := 1)))))
  , fun ds Kk h => by
    obtain ⟨⟨zs, rfl, hl⟩, k⟩ := h
    replace k : Kk (.lst ((onceS (strsOf (.lst (zs.map .str)))).map .str)) := k
    rw [strsOf_map] at k
    simp only [sSeq, sSet, sNew, sNext, sPass, sRet, sIf, sApp, sExt, sDrop, sAsg, wIfE, wTest, wTruth, wBand, wBor, wBnot, wOp, wUn, wCall, wCons, wNil, wTup, wLst]
    refine ⟨by simp, _, rfl, _, rfl, ?_⟩
    let mk : List Str → Option DV → DS noR := fun acc x => ⟨noG, [some (.fz (.lst (zs.map .str))), some (.own (.lst (acc.map .str))), x]⟩
    refine forGo_ind (fun rest ρ => ∃ acc x ys, rest = ys.map D.str ∧ ys.foldl addS acc = onceS zs ∧ acc.length + ys.length ≤ 1000 ∧ ρ = mk acc x) ?_ ?_ _ _ ⟨[], none, zs, rfl, rfl, by simpa using hl, rfl⟩
    · rintro d rest N ρ hN ⟨acc, x, ys, hr, hf, hlen, rfl⟩
      cases ys with
      | nil => cases hr
      | cons y ys =>
        cases hr
        rw [List.foldl_cons] at hf
        rw [List.length_cons] at hlen
        refine ⟨.str y, rfl, .inr ⟨_, rfl, _, inD_strs true y acc, _, rfl, ?_⟩⟩
        by_cases m : y ∈ acc
        · rw [decide_eq_true m]
          have e : addS acc y = acc := if_pos m
          rw [e] at hf
          exact itF (hN _ ⟨acc, _, ys, rfl, hf, by omega, rfl⟩)
        · rw [decide_eq_false m]
          have e : addS acc y = acc ++ [y] := if_neg m
          rw [e] at hf
          refine itT ⟨⟨_, rfl⟩, .str y, rfl, _, rfl, by rw [List.length_map]; omega, hN _ ⟨acc ++ [y], some (.fz (.str y)), ys, rfl, hf, by rw [List.length_append]; simp; omega, ?_⟩⟩
          simp only [mk, List.map_append]
          rfl
    · rintro ρ ⟨acc, x, ys, hr, hf, hlen, rfl⟩
      have : ys = [] := by cases ys with
        | nil => rfl
        | cons y ys => cases hr
      subst this
      have hf : acc = onceS zs := hf
      subst hf
      exact ⟨_, rfl, k⟩⟩
end
end K01

set_option Elab.async false
set_option linter.all false
set_option maxRecDepth 100000
set_option maxHeartbeats 4000000
namespace K01
open PySem PySem.Spec PyProof.Rows L2 Q
/-! the letters of a body, as it was drawn -/
/-- a body's parts as they were drawn, and as they are kept -/
def rawP (ps : List D) : Prop := ps.length ≤ 100 ∧ ∀ p ∈ ps, tmB p = true ∧ okPart (asPart p)
def okRaw : List D → Prop := fun ds => ∃ d ps, ds = [d] ∧ sqOf d = some ps ∧ rawP ps
def lettersR (ps : List D) : List Str := lettersP (ps.map asPart)
theorem okPart.ne {d : D} (h : okPart d) : d ≠ .non := by
  rintro rfl
  rcases h with ⟨_, e, _⟩ | ⟨_, e, _⟩ | ⟨_, _, e, _⟩ <;> cases e
/-- how the terms of a part lie in it, as it was drawn -/
theorem raw_terms {p : D} (h : okPart (asPart p)) : ∃ z r, sqOf p = some (.str z :: r) ∧ ((z = "not" ∧ ∃ b z2 ts, r = [b] ∧ sqOf b = some (.str z2 :: ts) ∧ termsP (asPart p) = ts) ∨ (z ≠ "not" ∧ termsP (asPart p) = r)) := by
  cases hs : sqOf p with
  | none => exact absurd (show asPart p = .non by unfold asPart; rw [hs]) h.ne
  | some xs =>
    cases xs with
    | nil => exact absurd (show asPart p = .non by unfold asPart; rw [hs]) h.ne
    | cons a r =>
      cases a with
      | str z =>
        refine ⟨z, r, rfl, ?_⟩
        have e0 : asPart p = if z = "not" then asNot (.str z :: r) else if z = "unlike" then asUnl (.str z :: r) else asAtom p := by
          unfold asPart
          rw [hs]
        by_cases h1 : z = "not"
        · refine .inl ⟨h1, ?_⟩
          rw [if_pos h1] at e0
          by_cases hl : r.length = 1
          · obtain ⟨b, rfl⟩ : ∃ b, r = [b] := by
              match r, hl with
              | [b], _ => exact ⟨b, rfl⟩
            have e1 : asNot [.str z, b] = (match asAtom b with | .non => .non | a => .tup [.str "not", a]) := rfl
            rcases asAtom_cases b with hb | ⟨ys, hb1, hb2, _, hb4⟩
            · rw [e1, hb] at e0
              exact absurd e0 h.ne
            · rw [e1, hb4] at e0
              cases ys with
              | nil => simp [rowB] at hb2
              | cons y ys =>
                cases y with
                | str z2 =>
                  refine ⟨b, z2, ys, rfl, hb1, ?_⟩
                  rw [e0]
                  rfl
                | _ => simp [rowB, isNm] at hb2
          · have : asNot (.str z :: r) = .non := if_neg (by rw [List.length_cons]; omega)
            rw [this] at e0
            exact absurd e0 h.ne
        · refine .inr ⟨h1, ?_⟩
          rw [if_neg h1] at e0
          have tp : termsP (.tup (.str z :: r)) = r := by simp [termsP, h1]
          by_cases h2 : z = "unlike"
          · rw [if_pos h2] at e0
            unfold asUnl at e0
            split at e0
            · rw [e0, tp]
            · exact absurd e0 h.ne
          · rw [if_neg h2] at e0
            rcases asAtom_cases p with hb | ⟨ys, hb1, _, _, hb4⟩
            · rw [hb] at e0; exact absurd e0 h.ne
            · rw [hs] at hb1
              cases hb1
              rw [e0, hb4, tp]
      | _ => exact absurd (show asPart p = .non by unfold asPart; rw [hs]) h.ne
section
variable {P : Program} {w : World} {K : PySem.W.Frag} {mg : Str → Option Value} {base : Heap} {f : Addr} {fd : FuncData}
-- _law_letters: slots 0 _law_body, 1 _law_terms, 2 _law_part_here, 3 _law_term_here
abbrev s_L_letters : Stmt := (top 45)
abbrev N_sc_L_letters : List Str := ["_law_body", "_law_terms", "_law_part_here", "_law_term_here"]
theorem sc_L_letters : FnScope N_sc_L_letters ["_law_body"] (defScope s_L_letters) := ⟨rfl, rfl, rfl, by decide +kernel, rfl, by decide +kernel, by decide +kernel⟩
theorem ok_L_letters (F : FnP K "_law_letters" "_law_letters" s_L_letters f fd) (T : Tx K mg) (C__law_each_once : Cal P w K mg base "_law_each_once" 1 ["_law_things"] (spF K (wF okStrs fun ds => .lst ((onceS (strsOf (ds.headD .non))).map .str))))
    (C__law_is_letter : Cal P w K mg base "_law_is_letter" 1 ["_law_term_here"] (spD K (wF tm1 fun ds => .bl (isLt (ds.headD .non))))) :
    FnOk P w K mg base CX0 2 f fd ["_law_body"] (spF K (wF okRaw fun ds => .lst ((lettersR ((sqOf (ds.headD .non)).getD [])).map .str))) :=
  FnF F sc_L_letters (fun ds Kk h => by obtain ⟨⟨_, _, rfl, _⟩, _⟩ := h; rfl) fun cdv A outer s H Fz E hr => ⟨_, 
(ds_cons (ds_new (i := 1) sc_L_letters.nd (fe_lst da_nil))
 (ds_cons (ds_for (di_seq (de_v (i := 0))) (dg_name (i := 2) sc_L_letters.nd)
  (ds_one (ds_extS (i := 1) (de_if (dt_cm (c_eq hr) (de_ixA (de_v (i := 2)) de_int) de_str) (de_sl (de_ixA (de_v (i := 2)) de_int) (dp_at de_int) dp_no) (de_sl (de_v (i := 2)) (dp_at de_int) dp_no)))))
 (ds_one (ds_retF (fe_call C__law_each_once hr (da_cons (FE.de (fe_lc (own := [("_law_term_here", 3)]) sc_L_letters.nd (di_seq (de_o (i := 1))) (blkOk_by (own := [("_law_term_here", 3)]) (N := N_sc_L_letters) (sc := defScope s_L_letters) (by decide +kernel)) (fun _ _ _ _ _ => (dg_name (i := 3) sc_L_letters.nd)) (fun _ _ _ _ _ => (dts_one (dt_truth (de_call C__law_is_letter hr (da_cons (de_v (i := 3)) da_nil))))) (fun _ _ _ _ _ => (de_v (i := 3))))) da_nil))))))
  , fun ds Kk h => by
    obtain ⟨⟨d, ps, rfl, hs, hl, ha⟩, k⟩ := h
    replace k : Kk (.lst ((lettersR ((sqOf d).getD [])).map .str)) := k
    rw [hs] at k
    replace k : Kk (.lst ((lettersP (ps.map asPart)).map .str)) := k
    let mk : List D → Option DV → DS noR := fun ts x => ⟨noG, [some (.fz d), some (.own (.lst ts)), x, none]⟩
    refine ⟨by simp, d, rfl, ps, sq_seq hs, ?_⟩
    refine forGo_ind (fun rest ρ => ∃ acc x, acc ++ (rest.map asPart).flatMap termsP = (ps.map asPart).flatMap termsP ∧ acc.length + 6 * rest.length ≤ 600 ∧ (∀ p ∈ rest, p ∈ ps) ∧ (∀ d, x ≠ some (.own d)) ∧ ρ = mk acc x) ?_ ?_ _ _ ⟨[], none, rfl, by simp; omega, (fun _ h => h), (fun _ h => by cases h), rfl⟩
    · rintro p rest N ρ hN ⟨acc, x, hf, hlen, hok, hno, rfl⟩
      have hp := ha p (hok p List.mem_cons_self)
      have ht6 := hp.2.terms.2
      rw [List.map_cons, List.flatMap_cons, ← List.append_assoc] at hf
      rw [List.length_cons] at hlen
      have go : N (mk (acc ++ termsP (asPart p)) (some (.fz p))) := hN _ ⟨_, _, hf, by rw [List.length_append]; omega, fun q h => hok q (List.mem_cons_of_mem _ h), (fun _ h => by cases h), rfl⟩
      obtain ⟨z, r, hsp, hcase⟩ := raw_terms hp.2
      refine ⟨⟨_, rfl⟩, _, rfl, .str z, ix_sq hsp 0 rfl, _, eq_str2 z "not", _, rfl, ?_⟩
      have cut : ∀ {y : D} {a : D} {ts : List D}, sqOf y = some (a :: ts) → ∃ w, slD (some 1) none y = some w ∧ (w = .lst ts ∨ w = .tup ts) := fun {y a ts} e => by
        rcases sq_cases e with rfl | rfl
        · exact ⟨.lst ts, by show some (D.lst (Q.cutD _ _ _)) = _; rw [cut_tl], .inl rfl⟩
        · exact ⟨.tup ts, by show some (D.tup (Q.cutD _ _ _)) = _; rw [cut_tl], .inr rfl⟩
      rcases hcase with ⟨rfl, b, z2, ts, rfl, hsb, et⟩ | ⟨hne, et⟩
      · obtain ⟨w, hw, hw2⟩ := cut hsb
        rw [et] at go ht6
        exact itT ⟨_, rfl, b, ix_sq hsp 1 rfl, _, rfl, rfl, w, hw, acc, ts, hw2, rfl, by omega, go⟩
      · rw [decide_eq_false hne]
        obtain ⟨w, hw, hw2⟩ := cut hsp
        rw [et] at go ht6
        exact itF ⟨_, rfl, _, rfl, rfl, w, hw, acc, r, hw2, rfl, by omega, go⟩
    · rintro ρ ⟨acc, x, hf, hlen, hok, hno, rfl⟩
      rw [List.map_nil, List.flatMap_nil, List.append_nil] at hf
      subst hf
      have hlen : ((ps.map asPart).flatMap termsP).length ≤ 600 := by simpa using hlen
      have hterm : ∀ t ∈ (ps.map asPart).flatMap termsP, isTm t = true := fun t ht => by
        obtain ⟨q, hq, hm⟩ := List.mem_flatMap.mp ht
        obtain ⟨p, hp, rfl⟩ := List.mem_map.mp hq
        exact List.all_eq_true.mp (ha p hp).2.terms.1 t hm
      dsimp only
      refine sRet_i (wCall_i (wCons_i ?_))
      refine wLc_via (ρ' := ⟨noG, [some (.fz d), some (.fz (.lst ((ps.map asPart).flatMap termsP))), x, none]⟩) (ds := (ps.map asPart).flatMap termsP) (fun K' k' => .inr ⟨_, rfl, _, rfl, k'⟩) _ ?_
      refine wLc_filter (ds := (ps.map asPart).flatMap termsP) (f := fun d => d) (p := isLt) (x := none) (fun K k => k) (by omega) rfl (fun _ h => by cases h) (fun d hd K k => ⟨d, rfl, ⟨d, rfl, hterm d hd⟩, _, rfl, k⟩) (fun d hd _ K k => ⟨d, rfl, k⟩) _ ?_
      have lts : (((ps.map asPart).flatMap termsP).filter isLt).map (fun t => t) = ((((ps.map asPart).flatMap termsP).filter isLt).map strOf).map D.str := by
        rw [List.map_id']
        exact lts_strs (List.all_eq_true.mpr fun t h => (List.mem_filter.mp h).2)
      rw [lts]
      refine ⟨⟨_, rfl, ?_⟩, ?_⟩
      · rw [List.length_map]
        exact Nat.le_trans (List.length_filter_le _ _) (by omega)
      · show Kk (.lst ((onceS (strsOf (.lst ((((ps.map asPart).flatMap termsP).filter isLt).map strOf |>.map .str)))).map .str))
        rw [strsOf_map, ← lettersP_once]
        exact k⟩
end
end K01

set_option Elab.async false
set_option linter.all false
set_option maxRecDepth 100000
set_option maxHeartbeats 4000000
namespace K01
open PySem PySem.Spec PyProof.Rows L2 Q
/-! things drawn -/
/-- something drawn: no more than n draws -/
def mDrawn (TT : TbL) (n : Nat) (p : D → Prop) : WMR (Strm TT) := fun ds g Kk => ds = [.raw (.ref g.st)] ∧ g.c + n ≤ 900000 ∧ ∀ d c, p d → c ≤ g.c + n → Kk d (⟨g.st, g.L, c⟩ : SG)
def isWord (d : D) : Prop := ∃ z : Str, d = .str z ∧ z.length ≤ 20
theorem isWord.tm {d : D} (h : isWord d) : tmB d = true := by
  obtain ⟨z, rfl, h⟩ := h
  simp
  omega
theorem signs_one {z : Str} {d : D} (h : d ∈ Q.signs z) : ∃ y : Str, d = .str y ∧ y.length = 1 := by
  obtain ⟨c, _, rfl⟩ := List.mem_map.mp h
  exact ⟨_, rfl, rfl⟩
theorem add_strs {y z : Str} (h : y.length + z.length ≤ 100000) : addD (.str y) (.str z) = some (.str (y ++ z)) := by
  show (if _ then _ else _) = _
  rw [if_pos h]
section
variable {P : Program} {w : World} {K : PySem.W.Frag} {mg : Str → Option Value} {base : Heap} {f : Addr} {fd : FuncData} {TT : TbL}
-- _law_word: slots 0 _law_stream, 1 _law_many, 2 _law_some, 3 _law_word_here, 4 _law_sign
abbrev s_L_word : Stmt := (top 58)
abbrev N_sc_L_word : List Str := ["_law_stream", "_law_many", "_law_some", "_law_word_here", "_law_sign"]
theorem sc_L_word : FnScope N_sc_L_word ["_law_stream"] (defScope s_L_word) := ⟨rfl, rfl, rfl, by decide +kernel, rfl, by decide +kernel, by decide +kernel⟩
theorem ok_L_word (F : FnP K "_law_word" "_law_word" s_L_word f fd) (T : Tx K mg) (C__law_draw : Cal P w K mg base "_law_draw" 1 ["_law_stream", "_law_many"] (spR (Strm TT) K (mDraw TT))) (C__law_pick : Cal P w K mg base "_law_pick" 2 ["_law_stream", "_law_some"] (spR (Strm TT) K (mPick TT))) :
    FnOk P w K mg base CX0 3 f fd ["_law_stream"] (spR (Strm TT) K (mDrawn TT 20 isWord)) :=
  FnR F sc_L_word (fun ds g Kk h => by obtain ⟨rfl, _⟩ := h; rfl) fun cdv A outer s H Fz Z E hr => ⟨_, 
(ds_cons (ds_set (i := 1) sc_L_word.nd (de_ixA (FE.de (fe_lst (da_cons de_int (da_cons de_int (da_cons de_int (da_cons de_int (da_cons de_int (da_cons de_int (da_cons de_int (da_cons de_int (da_cons de_int da_nil))))))))))) (de_callR C__law_draw hr (da_cons (de_v (i := 0)) (da_cons de_int da_nil)))))
 (ds_cons (ds_set (i := 2) sc_L_word.nd (de_callR C__law_pick hr (da_cons (de_v (i := 0)) (da_cons (FE.de (fe_lst (da_cons de_str (da_cons de_str (da_cons de_str (da_cons de_str (da_cons de_str da_nil))))))) da_nil))))
 (ds_cons (ds_set (i := 3) sc_L_word.nd (de_join de_str (FE.de (fe_lc (own := [("_law_sign", 4)]) sc_L_word.nd (di_rng T.b_range (de_v (i := 1))) (blkOk_by (own := [("_law_sign", 4)]) (N := N_sc_L_word) (sc := defScope s_L_word) (by decide +kernel)) (fun _ _ _ _ _ => (dg_name (i := 4) sc_L_word.nd)) (fun _ _ _ _ _ => dts_nil) (fun _ _ _ _ _ => (de_callR C__law_pick hr (da_cons (de_v (i := 0)) (da_cons (de_v (i := 2)) da_nil))))))))
 (ds_one (ds_ret (de_callR C__law_pick hr (da_cons (de_v (i := 0)) (da_cons (FE.de (fe_lst (da_cons (de_v (i := 3)) (da_cons (de_v (i := 3)) (da_cons (de_v (i := 3)) (da_cons (de_add de_str (de_v (i := 3))) (da_cons (de_add de_str (de_v (i := 3))) (da_cons de_str (da_cons de_str (da_cons de_str (da_cons de_str da_nil))))))))))) da_nil))))))))
  , fun ds g Kk h => by
    obtain ⟨rfl, hc, k⟩ := h
    refine ⟨by simp, _, rfl, _, rfl, (by show g.c ≤ 1000000; omega), by decide, by decide, fun i i0 i1 => ?_⟩
    obtain ⟨m, hm, hm3⟩ : ∃ m : Nat, ixD (.lst [.int 1, .int 1, .int 2, .int 3, .int 4, .int 5, .int 12, .int 13, .int 0]) (.int i) = some (.int (m : Int)) ∧ m ≤ 13 := by
      have : i = 0 ∨ i = 1 ∨ i = 2 ∨ i = 3 ∨ i = 4 ∨ i = 5 ∨ i = 6 ∨ i = 7 ∨ i = 8 := by omega
      rcases this with rfl | rfl | rfl | rfl | rfl | rfl | rfl | rfl | rfl
      · exact ⟨1, rfl, by omega⟩
      · exact ⟨1, rfl, by omega⟩
      · exact ⟨2, rfl, by omega⟩
      · exact ⟨3, rfl, by omega⟩
      · exact ⟨4, rfl, by omega⟩
      · exact ⟨5, rfl, by omega⟩
      · exact ⟨12, rfl, by omega⟩
      · exact ⟨13, rfl, by omega⟩
      · exact ⟨0, rfl, by omega⟩
    refine ⟨_, hm, ?_⟩
    refine ⟨_, rfl, by simp, _, _, rfl, rfl, by simp, by simp, (by show g.c + 1 ≤ 1000000; omega), fun y hy => ?_⟩
    obtain ⟨z, rfl, hz1, hz2⟩ : ∃ z : Str, y = .str z ∧ 0 < z.length ∧ z.length ≤ 20 := by
      simp only [List.mem_cons, List.not_mem_nil, or_false] at hy
      rcases hy with rfl | rfl | rfl | rfl | rfl <;> exact ⟨_, rfl, by decide +kernel, by decide +kernel⟩
    have hz3 : pkOf (.str z) = some (Q.signs z) := if_pos (by omega)
    have hz4 : (Q.signs z).length = z.length := by rw [Q.signs_length]; rfl
    let mk : Nat → DS (Strm TT) := fun n => ⟨(⟨g.st, g.L, g.c + 2 + n⟩ : SG), [some (.fz (.raw (.ref g.st))), some (.fz (.int (m : Int))), some (.fz (.str z)), none, none]⟩
    refine ⟨_, rfl, ?_⟩
    refine ⟨_, rfl, (m : Int), rfl, by omega, by omega, ?_⟩
    refine ⟨by simp [rngD]; omega, fun i m d' q => ?_, ?_⟩
    · have e : i = 4 := by simpa using m
      subst e
      cases q
    refine lcGo_ind (fun rest acc ρ => ∃ zs : List Str, acc = zs.map .str ∧ zs.length + rest.length = m ∧ (∀ y ∈ zs, y.length = 1) ∧ ρ = mk zs.length) ?_ ?_ _ _ _ ⟨[], rfl, by simp [rngD], (fun _ h => nomatch h), rfl⟩
    · rintro d' rest acc N ρ hN ⟨zs, rfl, hlen, hone, rfl⟩
      rw [List.length_cons] at hlen
      refine ⟨_, rfl, _, rfl, _, _, rfl, hz3, by omega, by omega, (by show g.c + 2 + zs.length ≤ 1000000; omega), fun y hy => ?_⟩
      obtain ⟨y1, rfl, hy1⟩ := signs_one hy
      refine hN _ _ ⟨zs ++ [y1], by rw [List.map_append]; rfl, by rw [List.length_append]; simp; omega, fun q hq => ?_, ?_⟩
      · rcases List.mem_append.mp hq with h | h
        · exact hone q h
        · rw [List.mem_singleton.mp h]; exact hy1
      · rw [List.length_append]
        rfl
    · rintro acc ρ ⟨zs, rfl, hlen, hone, rfl⟩
      have hl : zs.length = m := by simpa using hlen
      have hj : (PySem.Txt.join "" zs).length = zs.length := PySem.W.KT.join_ones zs hone
      have hs : (zs.map (·.length)).sum = zs.length := by
        clear hl hlen hj
        induction zs with
        | nil => rfl
        | cons y ys ih =>
          rw [List.map_cons, List.sum_cons, hone y List.mem_cons_self, ih fun q hq => hone q (List.mem_cons_of_mem _ hq), List.length_cons]
          omega
      refine ⟨zs, .inl rfl, by rw [hs, (by decide +kernel : ("" : Str).length = 0)]; omega, ?_⟩
      generalize PySem.Txt.join "" zs = word at hj
      have e1 : ("a" : Str).length = 1 := by decide +kernel
      have e2 : ("X" : Str).length = 1 := by decide +kernel
      have a1 := add_strs (y := "a") (z := word) (by omega)
      have a2 := add_strs (y := "X") (z := word) (by omega)
      refine ⟨_, rfl, _, rfl, _, rfl, _, rfl, _, rfl, _, a1, _, rfl, _, a2, by simp, _, _, rfl, rfl, by simp, by simp, (by show g.c + 2 + zs.length ≤ 1000000; omega), fun y hy => ?_⟩
      refine k y (g.c + 2 + zs.length + 1) ?_ (by omega)
      have l1 : ("a" ++ word : Str).length = 1 + word.length := by rw [← e1]; exact Array.size_append
      have l2 : ("X" ++ word : Str).length = 1 + word.length := by rw [← e2]; exact Array.size_append
      simp only [List.mem_cons, List.not_mem_nil, or_false] at hy
      rcases hy with rfl | rfl | rfl | rfl | rfl | rfl | rfl | rfl | rfl
      · exact ⟨_, rfl, by omega⟩
      · exact ⟨_, rfl, by omega⟩
      · exact ⟨_, rfl, by omega⟩
      · exact ⟨_, rfl, by omega⟩
      · exact ⟨_, rfl, by omega⟩
      · exact ⟨_, rfl, by decide +kernel⟩
      · exact ⟨_, rfl, by decide +kernel⟩
      · exact ⟨_, rfl, by decide +kernel⟩
      · exact ⟨_, rfl, by decide +kernel⟩⟩
end
end K01

set_option Elab.async false
set_option linter.all false
set_option maxRecDepth 100000
set_option maxHeartbeats 4000000
namespace K01
open PySem PySem.Spec PyProof.Rows L2 Q
def isTmB (d : D) : Prop := tmB d = true
/-- of the list of what may be drawn all are so -/
theorem drawn_all {p : D → Prop} {xs : List D} (h : ∀ x ∈ xs, p x) {y : D} (hy : y ∈ xs) : p y := h y hy
theorem eqi (i j : Int) : eqD false (.int i) (.int j) = some (.bl (decide (i = j))) := by
  by_cases h : i = j <;> simp [eqD, xr, h]
theorem pow17 : powD (.int 10) (.int 17) = some (.int (10 ^ (17 : Int).toNat)) := by
  show (if (0 : Int) ≤ 17 ∧ (17 : Int) ≤ 100 ∧ (10 : Int).natAbs ≤ 1000 then some (D.int (10 ^ (17 : Int).toNat)) else none) = _
  rw [if_pos (by decide)]
section
variable {P : Program} {w : World} {K : PySem.W.Frag} {mg : Str → Option Value} {base : Heap} {f : Addr} {fd : FuncData} {TT : TbL}
-- _law_term: slots 0 _law_stream
abbrev s_L_term : Stmt := (top 59)
abbrev N_sc_L_term : List Str := ["_law_stream"]
theorem sc_L_term : FnScope N_sc_L_term ["_law_stream"] (defScope s_L_term) := ⟨rfl, rfl, rfl, by decide +kernel, rfl, by decide +kernel, by decide +kernel⟩
theorem ok_L_term (F : FnP K "_law_term" "_law_term" s_L_term f fd) (T : Tx K mg) (C__law_draw : Cal P w K mg base "_law_draw" 1 ["_law_stream", "_law_many"] (spR (Strm TT) K (mDraw TT))) (C__law_pick : Cal P w K mg base "_law_pick" 2 ["_law_stream", "_law_some"] (spR (Strm TT) K (mPick TT)))
    (C__law_word : Cal P w K mg base "_law_word" 3 ["_law_stream"] (spR (Strm TT) K (mDrawn TT 20 isWord))) :
    FnOk P w K mg base CX0 4 f fd ["_law_stream"] (spR (Strm TT) K (mDrawn TT 25 isTmB)) :=
  FnR F sc_L_term (fun ds g Kk h => by obtain ⟨rfl, _⟩ := h; rfl) fun cdv A outer s H Fz Z E hr => ⟨_, 
(ds_cons (ds_if (dt_cm (c_eq hr) (de_callR C__law_draw hr (da_cons (de_v (i := 0)) (da_cons de_int da_nil))) de_int) (ds_one (ds_ret (de_callR C__law_pick hr (da_cons (de_v (i := 0)) (da_cons (FE.de (fe_lst (da_cons de_non (da_cons de_bl (da_cons de_str (da_cons de_str (da_cons de_str (da_cons de_str (da_cons (de_tup (da_cons de_str da_nil)) (da_cons (FE.de (fe_lst da_nil)) (da_cons de_str (da_cons (FE.de fe_d0) da_nil)))))))))))) da_nil))))) ds_nil)
 (ds_one (ds_ret (de_callR C__law_pick hr (da_cons (de_v (i := 0)) (da_cons (FE.de (fe_lst (da_cons de_str (da_cons de_str (da_cons de_str (da_cons de_str (da_cons de_str (da_cons de_int (da_cons (de_neg de_int) (da_cons (de_pow de_int de_int) (da_cons (de_callR C__law_word hr (da_cons (de_v (i := 0)) da_nil)) da_nil))))))))))) da_nil))))))
  , fun ds g Kk h => by
    obtain ⟨rfl, hc, k⟩ := h
    refine ⟨_, rfl, _, rfl, (by show g.c ≤ 1000000; omega), by decide, by decide, fun i i0 i1 => ?_⟩
    refine ⟨_, eqi i 0, _, rfl, ?_⟩
    by_cases hi : i = 0
    · rw [decide_eq_true hi]
      refine itT ⟨_, rfl, ?_⟩
      simp only [sSeq, sSet, sNew, sNext, sPass, sRet, sIf, sApp, sExt, sDrop, sAsg, wIfE, wTest, wTruth, wBand, wBor, wBnot, wOp, wUn, wCall, wCons, wNil, wTup, wLst, wC]
      refine ⟨by simp, by simp, by simp, _, _, rfl, rfl, by simp, by simp, (by show g.c + 1 ≤ 1000000; omega), fun y hy => k y _ ?_ (by show g.c + 1 + 1 ≤ _; omega)⟩
      simp only [List.mem_cons, List.not_mem_nil, or_false] at hy
      rcases hy with rfl | rfl | rfl | rfl | rfl | rfl | rfl | rfl | rfl | rfl <;> simp [isTmB] <;> decide +kernel
    · rw [decide_eq_false hi]
      refine itF ⟨_, rfl, ?_⟩
      simp only [sSeq, sSet, sNew, sNext, sPass, sRet, sIf, sApp, sExt, sDrop, sAsg, wIfE, wTest, wTruth, wBand, wBor, wBnot, wOp, wUn, wCall, wCons, wNil, wTup, wLst, wC]
      refine ⟨_, rfl, _, pow17, _, rfl, rfl, (by show g.c + 1 + 20 ≤ 900000; omega), fun d c hd hcc => ?_⟩
      have hcc : c ≤ g.c + 21 := by have : c ≤ g.c + 1 + 20 := hcc; omega
      refine ⟨by simp, _, _, rfl, rfl, by simp, by simp, (by show c ≤ 1000000; omega), fun y hy => k y _ ?_ (by show c + 1 ≤ _; omega)⟩
      simp only [List.mem_cons, List.not_mem_nil, or_false] at hy
      rcases hy with rfl | rfl | rfl | rfl | rfl | rfl | rfl | rfl | rfl
      · simp [isTmB]; decide +kernel
      · simp [isTmB]; decide +kernel
      · simp [isTmB]; decide +kernel
      · simp [isTmB]; decide +kernel
      · simp [isTmB]; decide +kernel
      · simp [isTmB]
      · simp [isTmB]
      · simp [isTmB]
      · exact hd.tm⟩
-- _law_atom: slots 0 _law_stream, 1 _law_found, 2 _law_place
abbrev s_L_atom : Stmt := (top 60)
abbrev N_sc_L_atom : List Str := ["_law_stream", "_law_found", "_law_place"]
theorem sc_L_atom : FnScope N_sc_L_atom ["_law_stream"] (defScope s_L_atom) := ⟨rfl, rfl, rfl, by decide +kernel, rfl, by decide +kernel, by decide +kernel⟩
theorem ok_L_atom (F : FnP K "_law_atom" "_law_atom" s_L_atom f fd) (T : Tx K mg) (C__law_draw : Cal P w K mg base "_law_draw" 1 ["_law_stream", "_law_many"] (spR (Strm TT) K (mDraw TT))) (C__law_pick : Cal P w K mg base "_law_pick" 2 ["_law_stream", "_law_some"] (spR (Strm TT) K (mPick TT)))
    (C__law_word : Cal P w K mg base "_law_word" 3 ["_law_stream"] (spR (Strm TT) K (mDrawn TT 20 isWord))) (C__law_term : Cal P w K mg base "_law_term" 4 ["_law_stream"] (spR (Strm TT) K (mDrawn TT 25 isTmB))) :
    FnOk P w K mg base CX0 5 f fd ["_law_stream"] (spR (Strm TT) K (mDrawn TT 200 isTmB)) :=
  FnR F sc_L_atom (fun ds g Kk h => by obtain ⟨rfl, _⟩ := h; rfl) fun cdv A outer s H Fz Z E hr => ⟨_, 
(ds_cons (ds_new (i := 1) sc_L_atom.nd (fe_lst (da_cons (de_callR C__law_pick hr (da_cons (de_v (i := 0)) (da_cons (FE.de (fe_lst (da_cons de_str (da_cons de_str (da_cons de_str (da_cons de_str (da_cons (de_callR C__law_word hr (da_cons (de_v (i := 0)) da_nil)) da_nil))))))) da_nil))) da_nil)))
 (ds_cons (ds_ext (i := 1) (FE.de (fe_lc (own := [("_law_place", 2)]) sc_L_atom.nd (di_rng T.b_range (de_ixA (FE.de (fe_lst (da_cons de_int (da_cons de_int (da_cons de_int (da_cons de_int (da_cons de_int (da_cons de_int da_nil)))))))) (de_callR C__law_draw hr (da_cons (de_v (i := 0)) (da_cons de_int da_nil))))) (blkOk_by (own := [("_law_place", 2)]) (N := N_sc_L_atom) (sc := defScope s_L_atom) (by decide +kernel)) (fun _ _ _ _ _ => (dg_name (i := 2) sc_L_atom.nd)) (fun _ _ _ _ _ => dts_nil) (fun _ _ _ _ _ => (de_callR C__law_term hr (da_cons (de_v (i := 0)) da_nil))))))
 (ds_one (ds_ret (de_callR C__law_pick hr (da_cons (de_v (i := 0)) (da_cons (FE.de (fe_lst (da_cons (de_o (i := 1)) (da_cons (de_tuple T.b_tuple (de_b (i := 1))) (da_cons (de_tuple T.b_tuple (de_b (i := 1))) da_nil))))) da_nil)))))))
  , fun ds g Kk h => by
    obtain ⟨rfl, hc, k⟩ := h
    simp only [sSeq, sSet, sNew, sNext, sPass, sRet, sIf, sApp, sExt, sDrop, sAsg, wIfE, wTest, wTruth, wBand, wBor, wBnot, wOp, wUn, wCall, wCons, wNil, wTup, wLst, wC, sNew, sExt]
    refine ⟨_, rfl, _, rfl, rfl, (by show g.c + 20 ≤ 900000; omega), fun d c hd hcc => ?_⟩
    have hcc : c ≤ g.c + 20 := hcc
    refine ⟨by simp, _, _, rfl, rfl, by simp, by simp, (by show c ≤ 1000000; omega), fun y hy => ?_⟩
    have hy' : tmB y = true := by
      simp only [List.mem_cons, List.not_mem_nil, or_false] at hy
      rcases hy with rfl | rfl | rfl | rfl | rfl
      · simp; decide +kernel
      · simp; decide +kernel
      · simp; decide +kernel
      · simp; decide +kernel
      · exact hd.tm
    refine ⟨by simp, ⟨_, rfl⟩, ?_⟩
    refine ⟨by simp, _, rfl, _, rfl, (by show c + 1 ≤ 1000000; omega), by decide, by decide, fun i i0 i1 => ?_⟩
    obtain ⟨m, hm, hm3⟩ : ∃ m : Nat, ixD (.lst [.int 0, .int 1, .int 2, .int 2, .int 6, .int 7]) (.int i) = some (.int (m : Int)) ∧ m ≤ 7 := by
      have : i = 0 ∨ i = 1 ∨ i = 2 ∨ i = 3 ∨ i = 4 ∨ i = 5 := by omega
      rcases this with rfl | rfl | rfl | rfl | rfl | rfl
      · exact ⟨0, rfl, by omega⟩
      · exact ⟨1, rfl, by omega⟩
      · exact ⟨2, rfl, by omega⟩
      · exact ⟨2, rfl, by omega⟩
      · exact ⟨6, rfl, by omega⟩
      · exact ⟨7, rfl, by omega⟩
    refine ⟨_, hm, (m : Int), rfl, by omega, by omega, ?_⟩
    let mk : Nat → DS (Strm TT) := fun n => ⟨(⟨g.st, g.L, n⟩ : SG), [some (.fz (.raw (.ref g.st))), some (.own (.lst [y])), none]⟩
    refine ⟨by simp [rngD]; omega, fun i m d' q => ?_, ?_⟩
    · have e : i = 2 := by simpa using m
      subst e
      cases q
    refine lcGo_ind (fun rest acc ρ => ∃ n : Nat, acc.length + rest.length = m ∧ (∀ y ∈ acc, tmB y = true) ∧ n ≤ c + 2 + 25 * acc.length ∧ ρ = mk n) ?_ ?_ _ _ _ ⟨c + 2, by simp [rngD], (fun _ h => nomatch h), by simp, rfl⟩
    · rintro d' rest acc N ρ hN ⟨n, hlen, hone, hn, rfl⟩
      rw [List.length_cons] at hlen
      refine ⟨_, rfl, rfl, (by show n + 25 ≤ 900000; omega), fun y1 c1 hy1 hc1 => ?_⟩
      have hc1 : c1 ≤ n + 25 := hc1
      refine hN _ _ ⟨c1, by rw [List.length_append]; simp; omega, fun q hq => ?_, by rw [List.length_append]; simp; omega, rfl⟩
      rcases List.mem_append.mp hq with h | h
      · exact hone q h
      · rw [List.mem_singleton.mp h]; exact hy1
    · rintro acc ρ ⟨n, hlen, hone, hn, rfl⟩
      have hl : acc.length = m := by simpa using hlen
      refine ⟨[y], acc, rfl, rfl, by simp; omega, ?_⟩
      have all : tmBs ([y] ++ acc) = true := by
        rw [List.singleton_append, tmBs_cons, hy', tmBs_iff.mpr hone]; rfl
      have sz : ([y] ++ acc).length ≤ 100000 := by simp; omega
      refine ⟨_, rfl, .inr ⟨_, rfl, .inl ⟨_, rfl, _, rfl, .inl ⟨_, rfl, _, rfl, by simp, _, _, rfl, rfl, by simp, by simp, (by show n ≤ 1000000; omega), fun y1 hy1 => k y1 _ ?_ (by show n + 1 ≤ _; omega)⟩⟩⟩⟩
      simp only [List.mem_cons, List.not_mem_nil, or_false] at hy1
      rcases hy1 with rfl | rfl | rfl
      · show tmB (.lst ([y] ++ acc)) = true
        rw [tmB_lst, all, decide_eq_true sz]; rfl
      · show tmB (.tup ([y] ++ acc)) = true
        rw [tmB_tup, all, decide_eq_true sz]; rfl
      · show tmB (.tup ([y] ++ acc)) = true
        rw [tmB_tup, all, decide_eq_true sz]; rfl⟩
-- _law_part: slots 0 _law_stream, 1 _law_way, 2 _law_found, 3 _law_atom_here, 4 _law_one, 5 _law_other
abbrev s_L_part : Stmt := (top 61)
abbrev N_sc_L_part : List Str := ["_law_stream", "_law_way", "_law_found", "_law_atom_here", "_law_one", "_law_other"]
theorem sc_L_part : FnScope N_sc_L_part ["_law_stream"] (defScope s_L_part) := ⟨rfl, rfl, rfl, by decide +kernel, rfl, by decide +kernel, by decide +kernel⟩
theorem ok_L_part (F : FnP K "_law_part" "_law_part" s_L_part f fd) (T : Tx K mg) (C__law_draw : Cal P w K mg base "_law_draw" 1 ["_law_stream", "_law_many"] (spR (Strm TT) K (mDraw TT))) (C__law_pick : Cal P w K mg base "_law_pick" 2 ["_law_stream", "_law_some"] (spR (Strm TT) K (mPick TT)))
    (C__law_atom : Cal P w K mg base "_law_atom" 5 ["_law_stream"] (spR (Strm TT) K (mDrawn TT 200 isTmB))) (C__law_term : Cal P w K mg base "_law_term" 4 ["_law_stream"] (spR (Strm TT) K (mDrawn TT 25 isTmB))) :
    FnOk P w K mg base CX0 6 f fd ["_law_stream"] (spR (Strm TT) K (mDrawn TT 210 isTmB)) :=
  FnR F sc_L_part (fun ds g Kk h => by obtain ⟨rfl, _⟩ := h; rfl) fun cdv A outer s H Fz Z E hr => ⟨_, 
(ds_cons (ds_set (i := 1) sc_L_part.nd (de_callR C__law_draw hr (da_cons (de_v (i := 0)) (da_cons de_int da_nil))))
 (ds_cons (ds_if (dt_cm c_gt (de_v (i := 1)) de_int) (ds_one (ds_ret (de_callR C__law_atom hr (da_cons (de_v (i := 0)) da_nil)))) ds_nil)
 (ds_cons (ds_if (dt_cm (c_eq hr) (de_v (i := 1)) de_int) (ds_cons (ds_set (i := 3) sc_L_part.nd (de_callR C__law_atom hr (da_cons (de_v (i := 0)) da_nil)))
 (ds_one (ds_ret (de_callR C__law_pick hr (da_cons (de_v (i := 0)) (da_cons (FE.de (fe_lst (da_cons (de_tup (da_cons de_str (da_cons (de_v (i := 3)) da_nil))) (da_cons (FE.de (fe_lst (da_cons de_str (da_cons (de_v (i := 3)) da_nil)))) (da_cons (de_tup (da_cons de_str da_nil)) (da_cons (de_tup (da_cons de_str (da_cons de_str (da_cons de_str da_nil)))) (da_cons (de_tup (da_cons de_str (da_cons (de_v (i := 3)) da_nil))) da_nil))))))) da_nil)))))) ds_nil)
 (ds_cons (ds_par2 (i := 4) (k := 5) sc_L_part.nd (by decide) (da_cons (de_callR C__law_term hr (da_cons (de_v (i := 0)) da_nil)) (da_cons (de_callR C__law_term hr (da_cons (de_v (i := 0)) da_nil)) da_nil)))
 (ds_cons (ds_set (i := 2) sc_L_part.nd (FE.de (fe_lst (da_cons (de_tup (da_cons de_str (da_cons (de_v (i := 4)) (da_cons (de_v (i := 5)) da_nil)))) (da_cons (FE.de (fe_lst (da_cons de_str (da_cons (de_v (i := 4)) (da_cons (de_v (i := 5)) da_nil))))) (da_cons (de_tup (da_cons de_str (da_cons (de_v (i := 4)) da_nil))) (da_cons (de_tup (da_cons de_str (da_cons (de_v (i := 4)) (da_cons (de_v (i := 5)) (da_cons (de_v (i := 4)) da_nil))))) da_nil)))))))
 (ds_one (ds_ret (de_callR C__law_pick hr (da_cons (de_v (i := 0)) (da_cons (de_v (i := 2)) da_nil))))))))))
  , fun ds g Kk h => by
    obtain ⟨rfl, hc, k⟩ := h
    have sN : tmB (.str "not") = true := by simp; decide +kernel
    have sP : tmB (.str "p") = true := by simp; decide +kernel
    have sX : tmB (.str "X") = true := by simp; decide +kernel
    have sU : tmB (.str "unlike") = true := by simp; decide +kernel
    refine ⟨_, rfl, _, rfl, (by show g.c ≤ 1000000; omega), by decide, by decide, fun i i0 i1 => ?_⟩
    refine ⟨_, rfl, .bl (decide (2 < i)), by simp, _, rfl, ?_⟩
    by_cases h2 : 2 < i
    · rw [decide_eq_true h2]
      exact itT ⟨_, rfl, rfl, (by show g.c + 1 + 200 ≤ 900000; omega), fun d c hd hcc => k d c hd (by have : c ≤ g.c + 1 + 200 := hcc; omega)⟩
    rw [decide_eq_false h2]
    refine itF ?_
    refine ⟨_, rfl, _, eqi i 0, _, rfl, ?_⟩
    by_cases h0 : i = 0
    · rw [decide_eq_true h0]
      refine itT ⟨_, rfl, rfl, (by show g.c + 1 + 200 ≤ 900000; omega), fun d c hd hcc => ?_⟩
      have hcc : c ≤ g.c + 1 + 200 := hcc
      have hd : tmB d = true := hd
      refine ⟨_, rfl, _, rfl, by simp, _, rfl, by simp, by simp, by simp, _, rfl, by simp, by simp, _, _, rfl, rfl, by simp, by simp, (by show c ≤ 1000000; omega), fun y hy => k y _ ?_ (by show c + 1 ≤ _; omega)⟩
      simp only [List.mem_cons, List.not_mem_nil, or_false] at hy
      rcases hy with rfl | rfl | rfl | rfl | rfl <;> simp [isTmB, -tmB_str, sN, sP, sX, hd]
    · rw [decide_eq_false h0]
      refine itF ?_
      refine ⟨_, rfl, rfl, (by show g.c + 1 + 25 ≤ 900000; omega), fun d1 c1 h1 hc1 => ?_⟩
      have hc1 : c1 ≤ g.c + 1 + 25 := hc1
      have h1 : tmB d1 = true := h1
      refine ⟨_, rfl, rfl, (by show c1 + 25 ≤ 900000; omega), fun d2 c2 h2' hc2 => ?_⟩
      have hc2 : c2 ≤ c1 + 25 := hc2
      have h2' : tmB d2 = true := h2'
      refine ⟨d1, d2, rfl, _, rfl, _, rfl, by simp, _, rfl, _, rfl, by simp, _, rfl, by simp, _, rfl, _, rfl, _, rfl, by simp, by simp, _, rfl, _, rfl, _, _, rfl, rfl, by simp, by simp, (by show c2 ≤ 1000000; omega), fun y hy => k y _ ?_ (by show c2 + 1 ≤ _; omega)⟩
      simp only [List.mem_cons, List.not_mem_nil, or_false] at hy
      rcases hy with rfl | rfl | rfl | rfl <;> simp [isTmB, -tmB_str, sU, h1, h2']⟩
/-- a drawn body: parts in a list or a tuple -/
def isBody (d : D) : Prop := tmB d = true ∧ ∃ ps, sqOf d = some ps ∧ ps.length ≤ 3
-- _law_bodies: slots 0 _law_stream, 1 _law_found, 2 _law_k
abbrev s_L_bodies : Stmt := (top 62)
abbrev N_sc_L_bodies : List Str := ["_law_stream", "_law_found", "_law_k"]
theorem sc_L_bodies : FnScope N_sc_L_bodies ["_law_stream"] (defScope s_L_bodies) := ⟨rfl, rfl, rfl, by decide +kernel, rfl, by decide +kernel, by decide +kernel⟩
theorem ok_L_bodies (F : FnP K "_law_bodies" "_law_bodies" s_L_bodies f fd) (T : Tx K mg) (C__law_draw : Cal P w K mg base "_law_draw" 1 ["_law_stream", "_law_many"] (spR (Strm TT) K (mDraw TT))) (C__law_pick : Cal P w K mg base "_law_pick" 2 ["_law_stream", "_law_some"] (spR (Strm TT) K (mPick TT)))
    (C__law_part : Cal P w K mg base "_law_part" 6 ["_law_stream"] (spR (Strm TT) K (mDrawn TT 210 isTmB))) :
    FnOk P w K mg base CX0 7 f fd ["_law_stream"] (spR (Strm TT) K (mDrawn TT 700 isBody)) :=
  FnR F sc_L_bodies (fun ds g Kk h => by obtain ⟨rfl, _⟩ := h; rfl) fun cdv A outer s H Fz Z E hr => ⟨_, 
(ds_cons (ds_setP (i := 1) (ps_lc (own := [("_law_k", 2)]) sc_L_bodies.nd (di_rng T.b_range (de_callR C__law_draw hr (da_cons (de_v (i := 0)) (da_cons de_int da_nil)))) (blkOk_by (own := [("_law_k", 2)]) (N := N_sc_L_bodies) (sc := defScope s_L_bodies) (by decide +kernel)) (fun _ _ _ _ _ => (dg_name (i := 2) sc_L_bodies.nd)) (fun _ _ _ _ _ => dts_nil) (fun _ _ _ _ _ => (de_callR C__law_part hr (da_cons (de_v (i := 0)) da_nil))) (sw_true rfl rfl rfl (by decide +kernel))))
 (ds_one (ds_ret (de_callR C__law_pick hr (da_cons (de_v (i := 0)) (da_cons (FE.de (fe_lst (da_cons (de_v (i := 1)) (da_cons (de_tuple T.b_tuple (de_v (i := 1))) da_nil)))) da_nil))))))
  , fun ds g Kk h => by
    obtain ⟨rfl, hc, k⟩ := h
    refine ⟨_, rfl, _, rfl, (by show g.c ≤ 1000000; omega), by decide, by decide, fun i i0 i1 => ?_⟩
    refine ⟨i, rfl, by omega, by omega, ?_⟩
    have hlr : (rngD 0 i.toNat).length = i.toNat := by simp [rngD]
    let mk : Nat → DS (Strm TT) := fun n => ⟨(⟨g.st, g.L, n⟩ : SG), [some (.fz (.raw (.ref g.st))), none, none]⟩
    refine ⟨by rw [hlr]; omega, fun i m d' q => ?_, ?_⟩
    · have e : i = 2 := by simpa using m
      subst e
      cases q
    refine lcGo_ind (fun rest acc ρ => ∃ n : Nat, acc.length + rest.length = i.toNat ∧ (∀ y ∈ acc, tmB y = true) ∧ n ≤ g.c + 1 + 210 * acc.length ∧ ρ = mk n) ?_ ?_ _ _ _ ⟨g.c + 1, by simpa using hlr, (fun _ h => nomatch h), by simp, rfl⟩
    · rintro d' rest acc N ρ hN ⟨n, hlen, hone, hn, rfl⟩
      rw [List.length_cons] at hlen
      refine ⟨_, rfl, rfl, (by show n + 210 ≤ 900000; omega), fun y1 c1 hy1 hc1 => ?_⟩
      have hc1 : c1 ≤ n + 210 := hc1
      refine hN _ _ ⟨c1, by rw [List.length_append]; simp; omega, fun q hq => ?_, by rw [List.length_append]; simp; omega, rfl⟩
      rcases List.mem_append.mp hq with h | h
      · exact hone q h
      · rw [List.mem_singleton.mp h]; exact hy1
    · rintro acc ρ ⟨n, hlen, hone, hn, rfl⟩
      have hl : acc.length = i.toNat := by simpa using hlen
      have all : tmBs acc = true := tmBs_iff.mpr hone
      have sz : acc.length ≤ 100000 := by omega
      refine ⟨_, rfl, _, rfl, _, rfl, _, rfl, by simp, _, _, rfl, rfl, by simp, by simp, (by show n ≤ 1000000; omega), fun y1 hy1 => k y1 _ ?_ (by show n + 1 ≤ _; omega)⟩
      simp only [List.mem_cons, List.not_mem_nil, or_false] at hy1
      rcases hy1 with rfl | rfl
      · refine ⟨?_, acc, rfl, by omega⟩
        rw [tmB_lst, all, decide_eq_true sz]; rfl
      · refine ⟨?_, acc, rfl, by omega⟩
        rw [tmB_tup, all, decide_eq_true sz]; rfl⟩
end
end K01

set_option Elab.async false
set_option linter.all false
set_option maxRecDepth 100000
set_option maxHeartbeats 4000000
namespace K01
open PySem PySem.Spec PyProof.Rows L2 Q
/-! parts with things put in -/
def getM (ks : List NestedKey) (vs : List D) (t : D) : D := match t with
  | .str z => (valN ks vs (.text z)).getD t
  | .int i => (valN ks vs (.num i)).getD t
  | _ => t
def fillR (ks : List NestedKey) (vs : List D) (xs : List D) : List D := match xs with
  | [] => []
  | h :: ts => h :: ts.map (getM ks vs)
def fillP (ks : List NestedKey) (vs : List D) (p : D) : D := match p with
  | .tup (.str z :: r) => if z = "not" then (match r with | [.tup xs] => .tup [.str "not", .tup (fillR ks vs xs)] | _ => .non) else .tup (fillR ks vs (.str z :: r))
  | _ => .non
theorem fillP_row {ks : List NestedKey} {vs : List D} {z : Str} {ts : List D} (h : z ≠ "not") : fillP ks vs (.tup (.str z :: ts)) = .tup (fillR ks vs (.str z :: ts)) := by
  show (if z = "not" then _ else _) = _
  rw [if_neg h]
theorem fillP_not {ks : List NestedKey} {vs xs : List D} : fillP ks vs (.tup [.str "not", .tup xs]) = .tup [.str "not", .tup (fillR ks vs xs)] := by
  simp [fillP]
theorem getM_key {t : D} (h : isTm t = true) : ∃ k : NestedKey, t = nD k ∧ k.depth ≤ 8 ∧ ∀ ks vs, getM ks vs t = (valN ks vs k).getD t := by
  cases t <;> simp [isTm, isTh, isInt, isNm, isLt] at h
  case int i => exact ⟨.num i, by simp only [nD], by simp [NestedKey.depth], fun _ _ => rfl⟩
  case str z => exact ⟨.text z, by simp only [nD], by simp [NestedKey.depth], fun _ _ => rfl⟩
/-- not a part that says not -/
def noNot : D → Bool
  | .tup (.str z :: _) => decide (z ≠ "not")
  | _ => false
def mFill (w : World) (n : Nat) : WM := fun ds Kk => ∃ p ks vs, ds = [p, .dmx w (ks.map nD) vs] ∧ okPart p ∧ (noNot p = true ∧ 0 < n ∨ 1 < n) ∧ Kk (fillP ks vs p)
section
variable {P : Program} {w : World} {K : PySem.W.Frag} {mg : Str → Option Value} {base : Heap} {f : Addr} {fd : FuncData} {CB : Addr}
-- filled_part: slots 0 part, 1 calls, 2 term
abbrev s_filled_part : Stmt := (top 35)
abbrev N_sc_filled_part : List Str := ["part", "calls", "term"]
theorem sc_filled_part : FnScope N_sc_filled_part ["part", "calls"] (defScope s_filled_part) := ⟨rfl, rfl, rfl, by decide +kernel, rfl, by decide +kernel, by decide +kernel⟩
theorem ok_filled_part (F : FnP K "filled_part" "filled_part" s_filled_part f fd) (T : Tx K mg) (hm : mg "filled_part" = some (.ref f)) (hk : PySem.W.keepIn K (.ref f) = true) (hb : Binds K fd ["part", "calls"] []) :
    ∀ n, FnOk P w K mg base CX0 (n + 1) f fd ["part", "calls"] (spD K (mFill w n)) := by
  intro n
  induction n with
  | zero =>
    refine ⟨fun vs H Q E h => ?_, fun A outer s H args us vs Q E hr he hb hv h => ?_⟩
    · obtain ⟨_, _, _, _, _, ⟨_, _, _, _, _, hl, _⟩, _⟩ := h
      exact absurd hl (by simp)
    · obtain ⟨_, _, _, _, _, ⟨_, _, _, _, _, hl, _⟩, _⟩ := h
      exact absurd hl (by simp)
  | succ n ih =>
    have C_filled_part : Cal P w K mg base "filled_part" (n + 1) ["part", "calls"] (spD K (mFill w n)) := ⟨f, fd, hm, hk, ih, hb⟩
    exact FnD F sc_filled_part (fun ds Kk h => by obtain ⟨_, _, _, rfl, _⟩ := h; rfl) fun cdv A outer s H Fz E hr => ⟨_, 
(ds_cons (ds_if (dt_cm (c_eq hr) (de_ixA (de_v (i := 0)) de_int) de_str) (ds_one (ds_ret (de_tup (da_cons de_str (da_cons (de_call C_filled_part hr (da_cons (de_ixA (de_v (i := 0)) de_int) (da_cons (de_v (i := 1)) da_nil)) (hj := by omega)) da_nil))))) ds_nil)
 (ds_one (ds_ret (de_add (de_tup (da_cons (de_ixA (de_v (i := 0)) de_int) da_nil)) (de_tuple T.b_tuple (FE.de (fe_lc (own := [("term", 2)]) sc_filled_part.nd (di_seq (de_sl (de_v (i := 0)) (dp_at de_int) dp_no)) (blkOk_by (own := [("term", 2)]) (N := N_sc_filled_part) (sc := defScope s_filled_part) (by decide +kernel)) (fun _ _ _ _ _ => (dg_name (i := 2) sc_filled_part.nd)) (fun _ _ _ _ _ => dts_nil) (fun _ _ _ _ _ => (de_mgetOr hr (de_v (i := 1)) (de_v (i := 2)) (de_v (i := 2)))))))))))
  , fun ds Kk h => by
    obtain ⟨p, ks, vs, rfl, hp, hn, k⟩ := h
    have row : ∀ (z : Str) (ts : List D), p = .tup (.str z :: ts) → z ≠ "not" → ts.all isTm = true → ts.length ≤ 6 → Kk (.tup (fillR ks vs (.str z :: ts))) → sSeq
        (sIf (wTest (wOp (eqD false) (wOp ixD (wV 0) (wC noR (.int 0))) (wC noR (.str "not")))) (sRet (wTup (wCons (wC noR (.str "not")) (wCons (wCall (mFill w n) (wCons (wOp ixD (wV 0) (wC noR (.int 1))) (wCons (wV 1) wNil))) wNil)))) sNext)
        (sRet (wOp addD (wTup (wCons (wOp ixD (wV 0) (wC noR (.int 0))) wNil)) (wUn tupleD (wLc (wSq (wSl (wV 0) (some (wC noR (.int 1))) none)) (gNm 2) wYes (wMgetOr w (wV 1) (wV 2) (wV 2)) [2]))))
        { nx := fun _ => Kk .non, rt := fun d _ => Kk d } ⟨noG, [some (.fz p), some (.fz (.dmx w (ks.map nD) vs)), none]⟩ := fun z ts ep hz ht hl kr => by
      subst ep
      have hix : ixD (.tup (.str z :: ts)) (.int 0) = some (.str z) := by simp [ixN]
      refine ⟨_, rfl, .str z, hix, _, eq_str2 z "not", _, rfl, ?_⟩
      rw [decide_eq_false hz]
      refine itF ⟨_, rfl, .str z, hix, by simp, ?_⟩
      have cut : slD (some 1) none (.tup (.str z :: ts)) = some (.tup ts) := by
        show some (D.tup (Q.cutD (D.str z :: ts) (some 1) none)) = _
        rw [cut_tl]
      refine wLc_m (ρ := ⟨noG, [some (.fz (.tup (.str z :: ts))), some (.fz (.dmx w (ks.map nD) vs)), none]⟩) (α := D) (h := id) (xs := ts) (f := getM ks vs) (x := none) (fun K k => ⟨_, rfl, _, rfl, rfl, .tup ts, cut, _, rfl, by simpa using k⟩) (by omega) rfl (fun _ h => by cases h) (fun a ha K k => ?_) _ ?_
      · obtain ⟨kk, e1, e2, e3⟩ := getM_key (List.all_eq_true.mp ht a ha)
        rw [e3] at k
        exact ⟨_, rfl, ks, vs, rfl, _, rfl, _, rfl, kk, e1, e2, k⟩
      · refine ⟨_, rfl, .tup (.str z :: ts.map (getM ks vs)), ?_, kr⟩
        rw [addD, if_pos (by simp; omega)]
        rfl
    rcases hp with ⟨xs, rfl, z, ts, rfl, h1, h2, h3⟩ | ⟨xs, rfl, z, ts, rfl, h1, h2, h3⟩ | ⟨a, b, rfl, h1, h2⟩
    · have hz := (nm_not h1).1
      refine row z ts rfl hz h3 h2 ?_
      rw [fillP_row hz] at k
      exact k
    · refine ⟨_, rfl, .str "not", by simp [ixN], _, eq_str2 "not" "not", _, rfl, ?_⟩
      rw [decide_eq_true rfl]
      refine itT ⟨_, rfl, .tup (.str z :: ts), by simp [ixN], _, rfl, ⟨_, ks, vs, rfl, .inl ⟨_, rfl, z, ts, rfl, h1, h2, h3⟩, .inl ⟨?_, ?_⟩, ?_⟩⟩
      · have := (nm_not h1).1
        show decide (z ≠ "not") = true
        exact decide_eq_true this
      · rcases hn with ⟨hn, _⟩ | hn
        · have : decide (("not" : Str) ≠ "not") = true := hn
          simp at this
        · omega
      · have hz := (nm_not h1).1
        rw [fillP_row hz]
        refine ⟨by simp, ?_⟩
        rw [fillP_not] at k
        exact k
    · have hz : ("unlike" : Str) ≠ "not" := by decide +kernel
      refine row "unlike" [a, b] rfl hz (by simp [h1, h2]) (by simp) ?_
      rw [fillP_row hz] at k
      exact k⟩
/-! calls: a dict's rows, in their order -/
abbrev Rows := List (NestedKey × D)
def ksR (rs : Rows) : List NestedKey := rs.map (·.1)
def vsR (rs : Rows) : List D := rs.map (·.2)
def callsD (w : World) (rs : Rows) : D := .dmx w ((ksR rs).map nD) (vsR rs)
def badRow (p : NestedKey × D) : Bool := !isLt (nD p.1) || !isTm p.2
def okRows (rs : Rows) : Prop := rs.length ≤ 1000 ∧ ∀ p ∈ rs, p.1.depth ≤ 8 ∧ tmB (nD p.1) = true ∧ tmB p.2 = true
def rowD (p : NestedKey × D) : D := .tup [nD p.1, p.2]
theorem pairs_rows (rs : Rows) : pairsD ((ksR rs).map nD) (vsR rs) = rs.map rowD := by
  unfold pairsD ksR vsR
  rw [List.map_map]
  induction rs with
  | nil => rfl
  | cons r rs ih => rw [List.map_cons, List.map_cons, List.zipWith_cons_cons, ih]; rfl
/-- what is made of calls -/
def callsRes (w : World) (CC : Addr) (c : D) (Kk : Rows → Prop) (Xk : XW) : Prop :=
  (∃ rs, c = callsD w rs ∧ okRows rs ∧ match rs.find? badRow with
    | some p => Xk CC ["thing"] [nD p.1]
    | none => Kk rs) ∨ ((∀ rs, c ≠ callsD w rs) ∧ isaM w .dict c = some (.bl false) ∧ Xk CC ["thing"] [c])
def mPutIn (w : World) (CB CC : Addr) : WMX := fun ds Kk Xk => ∃ x c, ds = [x, c] ∧ bodyIn x ∧ bodyRes CB x (fun ps => callsRes w CC c (fun rs => Kk (.lst (ps.map (fillP (ksR rs) (vsR rs))))) Xk) Xk
variable {CC : Addr}
-- put_in: slots 0 body, 1 calls, 2 parts, 3 letter, 4 term, 5 part
abbrev s_put_in : Stmt := (top 37)
abbrev N_sc_put_in : List Str := ["body", "calls", "parts", "letter", "term", "part"]
theorem sc_put_in : FnScope N_sc_put_in ["body", "calls"] (defScope s_put_in) := ⟨rfl, rfl, rfl, by decide +kernel, rfl, by decide +kernel, by decide +kernel⟩
theorem ok_put_in (F : FnP K "put_in" "put_in" s_put_in f fd) (T : Tx K mg) (C_checked_body : CalX P w K mg base "checked_body" 7 ["thing"] (spX K (mBody CB))) (C_is_letter : Cal P w K mg base "is_letter" 1 ["thing"] (spD K (wF tame1 fun ds => .bl (isLt (ds.headD .non)))))
    (C_is_term : Cal P w K mg base "is_term" 3 ["thing"] (spD K (wF tame1 fun ds => .bl (isTm (ds.headD .non))))) (C_filled_part : Cal P w K mg base "filled_part" 3 ["part", "calls"] (spD K (mFill w 2))) (T_BadCalls : ExCl P w K mg base "BadCalls" CC 1 ["thing"]) :
    FnOk P w K mg base (L2.CX P w) 8 f fd ["body", "calls"] (spX K (mPutIn w CB CC)) :=
  FnX F sc_put_in (fun ds Kk Xk h => by obtain ⟨_, _, rfl, _⟩ := h; rfl) fun cdv A outer s H Fz E Xk hr fit => ⟨_, 
(ds_cons (ds_set (i := 2) sc_put_in.nd (de_callX C_checked_body pass_body fit hr (da_cons (de_v (i := 0)) da_nil)))
 (ds_cons (ds_if (dt_not (dt_truth (de_isM T.b_isinstance (TyN.mk (t := .dict) (by rfl) T.b_dict (by decide +kernel) (by decide) (by decide)) (de_v (i := 1))))) (ds_one (ds_raise T_BadCalls takes_body fit (hr.mono (by decide)) (da_cons (de_v (i := 1)) da_nil))) ds_nil)
 (ds_cons (ds_for (hp := own_body) (di_itemsM (w := w) (de_v (i := 1))) (dg_tup (n := 2) (dgs_cons (dg_name (i := 3) sc_put_in.nd) (dgs_cons (dg_name (i := 4) sc_put_in.nd) dgs_nil)))
  (ds_one (ds_if (DW.dt (dw_or (dt_not (dt_truth (de_call C_is_letter hr (da_cons (de_v (i := 3)) da_nil)))) (dw_or1 (dt_not (dt_truth (de_call C_is_term hr (da_cons (de_v (i := 4)) da_nil))))))) (ds_one (ds_raise T_BadCalls takes_body fit (hr.mono (by decide)) (da_cons (de_v (i := 3)) da_nil))) ds_nil)))
 (ds_one (ds_ret (FE.de (fe_lc (own := [("part", 5)]) sc_put_in.nd (di_seq (de_v (i := 2))) (blkOk_by (own := [("part", 5)]) (N := N_sc_put_in) (sc := defScope s_put_in) (by decide +kernel)) (fun _ _ _ _ _ => (dg_name (i := 5) sc_put_in.nd)) (fun _ _ _ _ _ => dts_nil) (fun _ _ _ _ _ => (de_call C_filled_part hr (da_cons (de_v (i := 5)) (da_cons (de_v (i := 1)) da_nil)))))))))))
  , fun ds Kk h => by
    obtain ⟨x, c, rfl, hin, k⟩ := h
    refine ⟨_, rfl, x, rfl, hin, bodyRes_imp k hin fun ps hp hl k => ?_⟩
    rcases k with ⟨rs, rfl, ⟨hrl, hrs⟩, k⟩ | ⟨hno, hi, k⟩
    · refine ⟨_, rfl, .bl true, rfl, true, rfl, itF ?_⟩
      let mk : Option DV → Option DV → DS noR := fun x3 x4 => ⟨noG, [some (.fz x), some (.fz (callsD w rs)), some (.fz (.tup ps)), x3, x4, none]⟩
      refine ⟨_, rfl, _, _, rfl, ?_⟩
      rw [pairs_rows]
      refine forGo_ind (fun rest ρ => ∃ rs' x3 x4, rest = rs'.map rowD ∧ rs'.find? badRow = rs.find? badRow ∧ (∀ p ∈ rs', p ∈ rs) ∧ ρ = mk x3 x4) ?_ ?_ _ _ ⟨rs, none, none, rfl, rfl, (fun _ h => h), rfl⟩
      · rintro d rest N ρ hN ⟨rs', x3, x4, hr', hf, hm, rfl⟩
        cases rs' with
        | nil => cases hr'
        | cons r rs' =>
          cases hr'
          obtain ⟨o1, o2, o3⟩ := hrs r (hm r List.mem_cons_self)
          rw [List.find?_cons] at hf
          refine ⟨_, rfl, rfl, _, _, rfl, _, _, rfl, rfl, ?_⟩
          refine ⟨_, rfl, ⟨_, rfl, tmB.tame o2⟩, isLt (nD r.1), rfl, ?_⟩
          cases hb1 : isLt (nD r.1) with
          | false =>
            have hb : badRow r = true := by unfold badRow; rw [hb1]; rfl
            rw [hb] at hf
            rw [← hf] at k
            exact itT (itT ⟨_, rfl, rfl, k⟩)
          | true =>
            refine itF ⟨_, rfl, ⟨_, rfl, tmB.tame o3⟩, isTm r.2, rfl, ?_⟩
            cases hb2 : isTm r.2 with
            | false =>
              have hb : badRow r = true := by unfold badRow; rw [hb1, hb2]; rfl
              rw [hb] at hf
              rw [← hf] at k
              exact itT ⟨_, rfl, rfl, k⟩
            | true =>
              have hb : badRow r = false := by unfold badRow; rw [hb1, hb2]; rfl
              rw [hb] at hf
              exact itF (hN _ ⟨rs', _, _, rfl, hf, fun p h => hm p (List.mem_cons_of_mem _ h), rfl⟩)
      · rintro ρ ⟨rs', x3, x4, hr', hf, hm, rfl⟩
        have : rs' = [] := by cases rs' with
          | nil => rfl
          | cons y ys => cases hr'
        subst this
        rw [← hf] at k
        show wLc (wSq (wV 2)) (gNm 5) wYes (wCall (mFill w 2) (wCons (wV 5) (wCons (wV 1) wNil))) [5] (mk x3 x4) (fun d _ => Kk d)
        refine wLc_m (ρ := mk x3 x4) (α := D) (h := id) (xs := ps) (f := fillP (ksR rs) (vsR rs)) (x := none) (fun K k => ⟨_, rfl, ps, rfl, by simpa using k⟩) (by omega) rfl (fun _ h => by cases h) (fun a ha K k => ⟨_, rfl, _, rfl, a, ksR rs, vsR rs, rfl, hp a ha, .inr (by decide), k⟩) _ ?_
        exact k
    · exact ⟨_, rfl, _, hi, false, rfl, itT ⟨_, rfl, rfl, k⟩⟩⟩
end
end K01

set_option Elab.async false
set_option linter.all false
set_option maxRecDepth 100000
set_option maxHeartbeats 4000000
namespace K01
open PySem PySem.Spec PyProof.Rows L2 Q
/-! things put in, by the law's own way -/
/-- how a part lies as it was drawn -/
theorem raw_part {p : D} (h : okPart (asPart p)) : ∃ z r, sqOf p = some (.str z :: r) ∧ ((z = "not" ∧ ∃ b z2 ts, r = [b] ∧ sqOf b = some (.str z2 :: ts) ∧ asPart p = .tup [.str "not", .tup (.str z2 :: ts)]) ∨ (z ≠ "not" ∧ asPart p = .tup (.str z :: r))) := by
  cases hs : sqOf p with
  | none => exact absurd (show asPart p = .non by unfold asPart; rw [hs]) h.ne
  | some xs =>
    cases xs with
    | nil => exact absurd (show asPart p = .non by unfold asPart; rw [hs]) h.ne
    | cons a r =>
      cases a with
      | str z =>
        refine ⟨z, r, rfl, ?_⟩
        have e0 : asPart p = if z = "not" then asNot (.str z :: r) else if z = "unlike" then asUnl (.str z :: r) else asAtom p := by
          unfold asPart
          rw [hs]
        by_cases h1 : z = "not"
        · refine .inl ⟨h1, ?_⟩
          rw [if_pos h1] at e0
          by_cases hl : r.length = 1
          · obtain ⟨b, rfl⟩ : ∃ b, r = [b] := by
              match r, hl with
              | [b], _ => exact ⟨b, rfl⟩
            have e1 : asNot [.str z, b] = (match asAtom b with | .non => .non | a => .tup [.str "not", a]) := rfl
            rcases asAtom_cases b with hb | ⟨ys, hb1, hb2, _, hb4⟩
            · rw [e1, hb] at e0
              exact absurd e0 h.ne
            · rw [e1, hb4] at e0
              cases ys with
              | nil => simp [rowB] at hb2
              | cons y ys =>
                cases y with
                | str z2 =>
                  refine ⟨b, z2, ys, rfl, hb1, ?_⟩
                  exact e0
                | _ => simp [rowB, isNm] at hb2
          · have : asNot (.str z :: r) = .non := if_neg (by rw [List.length_cons]; omega)
            rw [this] at e0
            exact absurd e0 h.ne
        · refine .inr ⟨h1, ?_⟩
          rw [if_neg h1] at e0
          by_cases h2 : z = "unlike"
          · rw [if_pos h2] at e0
            unfold asUnl at e0
            split at e0
            · exact e0
            · exact absurd e0 h.ne
          · rw [if_neg h2] at e0
            rcases asAtom_cases p with hb | ⟨ys, hb1, _, _, hb4⟩
            · rw [hb] at e0; exact absurd e0 h.ne
            · rw [hs] at hb1
              cases hb1
              rw [e0, hb4]
      | _ => exact absurd (show asPart p = .non by unfold asPart; rw [hs]) h.ne
/-- all rows are good ones -/
def goodRows (rs : Rows) : Prop := ∀ r ∈ rs, isLt (nD r.1) = true ∧ isTm r.2 = true
theorem valN_none {k : NestedKey} : ∀ {ks : List NestedKey} {vs : List D}, k ∉ ks → valN ks vs k = none
  | [], _, _ => by simp [valN]
  | j :: ks, [], _ => by simp [valN]
  | j :: ks, v :: vs, h => by
    rw [valN, if_neg (fun e => h (by rw [e]; exact List.mem_cons_self))]
    exact valN_none fun m => h (List.mem_cons_of_mem _ m)
theorem get_other {rs : Rows} (g : goodRows rs) {t : D} (ht : isTm t = true) (hl : isLt t = false) : getM (ksR rs) (vsR rs) t = t := by
  obtain ⟨k, e, _, e3⟩ := getM_key ht
  rw [e3, valN_none, Option.getD_none]
  intro m
  obtain ⟨r, hr, er⟩ := List.mem_map.mp m
  have := (g r hr).1
  rw [er, ← e, hl] at this
  cases this
section
variable {P : Program} {w : World} {K : PySem.W.Frag} {mg : Str → Option Value} {base : Heap} {f : Addr} {fd : FuncData}
def mPutL (w : World) : WM := fun ds Kk => ∃ a z ts rs, ds = [a, callsD w rs] ∧ goodRows rs ∧ sqOf a = some (.str z :: ts) ∧ ts.all isTm = true ∧ ts.length ≤ 6 ∧ Kk (.tup (fillR (ksR rs) (vsR rs) (.str z :: ts)))
def mKept (w : World) : WM := fun ds Kk => ∃ p rs, ds = [p, callsD w rs] ∧ goodRows rs ∧ okPart (asPart p) ∧ Kk (fillP (ksR rs) (vsR rs) (asPart p))
-- _law_put: slots 0 _law_atom_here, 1 _law_calls_here, 2 _law_term_here
abbrev s_L_put : Stmt := (top 46)
abbrev N_sc_L_put : List Str := ["_law_atom_here", "_law_calls_here", "_law_term_here"]
theorem sc_L_put : FnScope N_sc_L_put ["_law_atom_here", "_law_calls_here"] (defScope s_L_put) := ⟨rfl, rfl, rfl, by decide +kernel, rfl, by decide +kernel, by decide +kernel⟩
theorem ok_L_put (F : FnP K "_law_put" "_law_put" s_L_put f fd) (T : Tx K mg) (C__law_is_letter : Cal P w K mg base "_law_is_letter" 1 ["_law_term_here"] (spD K (wF tm1 fun ds => .bl (isLt (ds.headD .non))))) :
    FnOk P w K mg base CX0 2 f fd ["_law_atom_here", "_law_calls_here"] (spD K (mPutL w)) :=
  FnD F sc_L_put (fun ds Kk h => by obtain ⟨_, _, _, _, rfl, _⟩ := h; rfl) fun cdv A outer s H Fz E hr => ⟨_, 
(ds_one (ds_ret (de_add (de_tup (da_cons (de_ixA (de_v (i := 0)) de_int) da_nil)) (de_tuple T.b_tuple (FE.de (fe_lc (own := [("_law_term_here", 2)]) sc_L_put.nd (di_seq (de_sl (de_v (i := 0)) (dp_at de_int) dp_no)) (blkOk_by (own := [("_law_term_here", 2)]) (N := N_sc_L_put) (sc := defScope s_L_put) (by decide +kernel)) (fun _ _ _ _ _ => (dg_name (i := 2) sc_L_put.nd)) (fun _ _ _ _ _ => dts_nil) (fun _ _ _ _ _ => (de_if (dt_truth (de_call C__law_is_letter hr (da_cons (de_v (i := 2)) da_nil))) (de_mgetOr hr (de_v (i := 1)) (de_v (i := 2)) (de_v (i := 2))) (de_v (i := 2))))))))))
  , fun ds Kk h => by
    obtain ⟨a, z, ts, rs, rfl, hg, hs, ht, hl, k⟩ := h
    refine ⟨_, rfl, .str z, ix_sq hs 0 rfl, by simp, ?_⟩
    obtain ⟨w', hw, hw2⟩ : ∃ w', slD (some 1) none a = some w' ∧ (w' = .lst ts ∨ w' = .tup ts) := by
      rcases sq_cases hs with rfl | rfl
      · exact ⟨.lst ts, by show some (D.lst (Q.cutD _ _ _)) = _; rw [cut_tl], .inl rfl⟩
      · exact ⟨.tup ts, by show some (D.tup (Q.cutD _ _ _)) = _; rw [cut_tl], .inr rfl⟩
    have hq : seqD w' = some ts := by rcases hw2 with rfl | rfl <;> rfl
    show wLc _ _ wYes _ [2] (⟨noG, [some (.fz a), some (.fz (callsD w rs)), none]⟩ : DS noR) _
    refine wLc_m (ρ := ⟨noG, [some (.fz a), some (.fz (callsD w rs)), none]⟩) (α := D) (h := id) (xs := ts) (f := getM (ksR rs) (vsR rs)) (x := none) (fun K k => ⟨_, rfl, _, rfl, rfl, w', hw, ts, hq, by simpa using k⟩) (by omega) rfl (fun _ h => by cases h) (fun t htm K k => ?_) _ ?_
    · have htt := List.all_eq_true.mp ht t htm
      refine ⟨_, rfl, ⟨t, rfl, htt⟩, isLt t, rfl, ?_⟩
      cases hb : isLt t with
      | true =>
        obtain ⟨kk, e1, e2, e3⟩ := getM_key htt
        rw [e3] at k
        exact itT ⟨_, rfl, ksR rs, vsR rs, rfl, _, rfl, _, rfl, kk, e1, e2, k⟩
      | false =>
        rw [get_other hg htt hb] at k
        exact itF ⟨_, rfl, k⟩
    · refine ⟨_, rfl, .tup (.str z :: ts.map (getM (ksR rs) (vsR rs))), ?_, k⟩
      rw [addD, if_pos (by simp; omega)]
      rfl⟩
-- _law_kept: slots 0 _law_part_here, 1 _law_calls_here
abbrev s_L_kept : Stmt := (top 65)
abbrev N_sc_L_kept : List Str := ["_law_part_here", "_law_calls_here"]
theorem sc_L_kept : FnScope N_sc_L_kept ["_law_part_here", "_law_calls_here"] (defScope s_L_kept) := ⟨rfl, rfl, rfl, by decide +kernel, rfl, by decide +kernel, by decide +kernel⟩
theorem ok_L_kept (F : FnP K "_law_kept" "_law_kept" s_L_kept f fd) (T : Tx K mg) (C__law_put : Cal P w K mg base "_law_put" 2 ["_law_atom_here", "_law_calls_here"] (spD K (mPutL w))) :
    FnOk P w K mg base CX0 3 f fd ["_law_part_here", "_law_calls_here"] (spD K (mKept w)) :=
  FnD F sc_L_kept (fun ds Kk h => by obtain ⟨_, _, rfl, _⟩ := h; rfl) fun cdv A outer s H Fz E hr => ⟨_, 
(ds_one (ds_ret (de_if (dt_cm (c_eq hr) (de_ixA (de_v (i := 0)) de_int) de_str) (de_tup (da_cons de_str (da_cons (de_call C__law_put hr (da_cons (de_ixA (de_v (i := 0)) de_int) (da_cons (de_v (i := 1)) da_nil))) da_nil))) (de_call C__law_put hr (da_cons (de_v (i := 0)) (da_cons (de_v (i := 1)) da_nil))))))
  , fun ds Kk h => by
    obtain ⟨p, rs, rfl, hg, hp, k⟩ := h
    obtain ⟨t1, t2⟩ := hp.terms
    obtain ⟨z, r, hsp, hcase⟩ := raw_part hp
    refine ⟨_, rfl, .str z, ix_sq hsp 0 rfl, _, eq_str2 z "not", _, rfl, ?_⟩
    rcases hcase with ⟨rfl, b, z2, ts, rfl, hsb, et⟩ | ⟨hne, et⟩
    · rw [et] at k t1 t2
      rw [fillP_not] at k
      rw [decide_eq_true rfl]
      exact itT ⟨_, rfl, b, ix_sq hsp 1 rfl, _, rfl, ⟨b, z2, ts, rs, rfl, hg, hsb, t1, t2, by simp, k⟩⟩
    · rw [et] at k t1 t2
      rw [fillP_row hne] at k
      have tp : termsP (.tup (.str z :: r)) = r := by simp [termsP, hne]
      rw [tp] at t1 t2
      rw [decide_eq_false hne]
      exact itF ⟨_, rfl, _, rfl, ⟨p, z, r, rs, rfl, hg, hsp, t1, t2, k⟩⟩⟩
end
end K01

set_option Elab.async false
set_option linter.all false
set_option maxRecDepth 100000
set_option maxHeartbeats 4000000
namespace K01
open PySem PySem.Spec PyProof.Rows L2 Q
/-! calls drawn -/
def okRow1 (p : NestedKey × D) : Prop := p.1.depth ≤ 8 ∧ (tmB (nD p.1) = true ∧ isDe (nD p.1) = true ∧ wid (nD p.1) = true ∧ depE (nD p.1) ≤ 1) ∧ tmB p.2 = true ∧ isDe p.2 = true ∧ wid p.2 = true ∧ depE p.2 ≤ 1
def goodCalls (rs : Rows) : Prop := rs.length ≤ 3 ∧ (ksR rs).Nodup ∧ ∀ p ∈ rs, okRow1 p
def badKeys (rs : Rows) : List D := (rs.filter badRow).map fun p => nD p.1
/-- a row is put in -/
def putRow (rs : Rows) (k : NestedKey) (v : D) : Rows := if k ∈ ksR rs then rs.map (fun p => if p.1 = k then (p.1, v) else p) else rs ++ [(k, v)]
theorem putRow_ks (rs : Rows) (k : NestedKey) (v : D) : ksR (putRow rs k v) = putN (ksR rs) k := by
  unfold putRow putN
  by_cases h : k ∈ ksR rs
  · rw [if_pos h, if_pos h]
    unfold ksR
    rw [List.map_map]
    refine List.map_congr_left fun p _ => ?_
    show (if p.1 = k then (p.1, v) else p).1 = p.1
    split <;> rfl
  · rw [if_neg h, if_neg h]
    unfold ksR
    rw [List.map_append]
    rfl
theorem putRow_vs (rs : Rows) (k : NestedKey) (v : D) : vsR (putRow rs k v) = putNV (ksR rs) (vsR rs) k v := by
  unfold putRow putNV
  by_cases h : k ∈ ksR rs
  · rw [if_pos h, if_pos h]
    clear h
    unfold ksR vsR
    induction rs with
    | nil => rfl
    | cons p rs ih =>
      rw [List.map_cons, List.map_cons, List.map_cons, List.map_cons, List.zipWith_cons_cons, ih]
      congr 1
      by_cases e : p.1 = k
      · rw [if_pos e, if_pos e]
      · rw [if_neg e, if_neg e]
  · rw [if_neg h, if_neg h]
    unfold vsR
    rw [List.map_append]
    rfl
theorem putRow_len (rs : Rows) (k : NestedKey) (v : D) : (putRow rs k v).length ≤ rs.length + 1 := by
  unfold putRow
  split <;> simp
theorem putRow_nd {rs : Rows} (h : (ksR rs).Nodup) (k : NestedKey) (v : D) : (ksR (putRow rs k v)).Nodup := by
  rw [putRow_ks]
  unfold putN
  split
  · exact h
  · next n =>
    rw [List.nodup_append]
    refine ⟨h, by simp, fun a ha b hb e => n ?_⟩
    rw [List.mem_singleton] at hb
    rw [← hb, ← e]
    exact ha
theorem putRow_ok {rs : Rows} (h : ∀ p ∈ rs, okRow1 p) {k : NestedKey} {v : D} (hp : okRow1 (k, v)) : ∀ p ∈ putRow rs k v, okRow1 p := fun p hm => by
  unfold putRow at hm
  split at hm
  · obtain ⟨q, hq, rfl⟩ := List.mem_map.mp hm
    have h1 := h q hq
    split
    · exact ⟨h1.1, h1.2.1, hp.2.2⟩
    · exact h1
  · rcases List.mem_append.mp hm with m | m
    · exact h p m
    · rw [List.mem_singleton.mp m]; exact hp
theorem putRow_calls {w : World} (rs : Rows) (k : NestedKey) (v : D) : D.dmx w ((putN (ksR rs) k).map nD) (putNV (ksR rs) (vsR rs) k v) = callsD w (putRow rs k v) := by
  unfold callsD
  rw [putRow_ks, putRow_vs]
theorem valN_row : ∀ {rs : Rows}, (ksR rs).Nodup → ∀ {p : NestedKey × D}, p ∈ rs → valN (ksR rs) (vsR rs) p.1 = some p.2
  | r :: rs, hn, p, hm => by
    have hn := List.nodup_cons.mp (show (r.1 :: ksR rs).Nodup from hn)
    show valN (r.1 :: ksR rs) (r.2 :: vsR rs) p.1 = some p.2
    rw [valN]
    rcases List.mem_cons.mp hm with rfl | hm
    · rw [if_pos rfl]
    · rw [if_neg fun e => hn.1 (by rw [e]; exact List.mem_map.mpr ⟨p, hm, rfl⟩)]
      exact valN_row hn.2 hm
def keysD : List D := [.str "X", .str "Y12", .str "Z999", .str "X", .str "B", .str "a", .int 5, .str "X0", .non, .tup [.str "X"]]
def valsD : List D := [.str "a", .int 7, .str "Q", .str "X", .int 0, .non, .str "Not", .lst [], .bl true]
def smallD (d : D) : Bool := tmB d && isDe d && wid d && decide (depE d ≤ 1)
theorem keysD_ok : ∀ d ∈ keysD, ∃ k : NestedKey, d = nD k ∧ k.depth ≤ 8 := by
  intro d h
  simp only [keysD, List.mem_cons, List.not_mem_nil, or_false] at h
  rcases h with rfl | rfl | rfl | rfl | rfl | rfl | rfl | rfl | rfl | rfl
  · exact ⟨.text "X", by simp [nD], by simp [NestedKey.depth]⟩
  · exact ⟨.text "Y12", by simp [nD], by simp [NestedKey.depth]⟩
  · exact ⟨.text "Z999", by simp [nD], by simp [NestedKey.depth]⟩
  · exact ⟨.text "X", by simp [nD], by simp [NestedKey.depth]⟩
  · exact ⟨.text "B", by simp [nD], by simp [NestedKey.depth]⟩
  · exact ⟨.text "a", by simp [nD], by simp [NestedKey.depth]⟩
  · exact ⟨.num 5, by simp [nD], by simp [NestedKey.depth]⟩
  · exact ⟨.text "X0", by simp [nD], by simp [NestedKey.depth]⟩
  · exact ⟨.none, by simp [nD], by simp [NestedKey.depth]⟩
  · exact ⟨.tup [.text "X"], by simp [nD, nDs], by simp [NestedKey.depth, NestedKey.depthAll]⟩
theorem small_all : ∀ d ∈ keysD ++ valsD, smallD d = true := List.all_eq_true.mp (by decide +kernel)
theorem small_of {d : D} (h : smallD d = true) : tmB d = true ∧ isDe d = true ∧ wid d = true ∧ depE d ≤ 1 := by
  unfold smallD at h
  rw [Bool.and_eq_true, Bool.and_eq_true, Bool.and_eq_true, decide_eq_true_eq] at h
  exact ⟨h.1.1.1, h.1.1.2, h.1.2, h.2⟩
def mCalls (TT : TbL) (w : World) : WMR (Strm TT) := fun ds g Kk => ds = [.raw (.ref g.st)] ∧ g.c + 10 ≤ 900000 ∧ ∀ rs c, goodCalls rs → c ≤ g.c + 10 → Kk (.tup [callsD w rs, .lst (badKeys rs)]) (⟨g.st, g.L, c⟩ : SG)
section
variable {P : Program} {w : World} {K : PySem.W.Frag} {mg : Str → Option Value} {base : Heap} {f : Addr} {fd : FuncData} {TT : TbL}
-- _law_calls: slots 0 _law_stream, 1 _law_found, 2 _law_k, 3 _law_bad, 4 _law_key
abbrev s_L_calls : Stmt := (top 66)
abbrev N_sc_L_calls : List Str := ["_law_stream", "_law_found", "_law_k", "_law_bad", "_law_key"]
theorem sc_L_calls : FnScope N_sc_L_calls ["_law_stream"] (defScope s_L_calls) := ⟨rfl, rfl, rfl, by decide +kernel, rfl, by decide +kernel, by decide +kernel⟩
theorem ok_L_calls (F : FnP K "_law_calls" "_law_calls" s_L_calls f fd) (T : Tx K mg) (C__law_draw : Cal P w K mg base "_law_draw" 1 ["_law_stream", "_law_many"] (spR (Strm TT) K (mDraw TT))) (C__law_pick : Cal P w K mg base "_law_pick" 2 ["_law_stream", "_law_some"] (spR (Strm TT) K (mPick TT)))
    (C__law_is_a_letter : Cal P w K mg base "_law_is_a_letter" 2 ["_law_thing"] (spD K (wF tame1 fun ds => .bl (isLt (ds.headD .non))))) (C__law_is_term : Cal P w K mg base "_law_is_term" 4 ["_law_thing"] (spD K (wF tame1 fun ds => .bl (isTm (ds.headD .non))))) :
    FnOk P w K mg base CX0 5 f fd ["_law_stream"] (spR (Strm TT) K (mCalls TT w)) :=
  FnR F sc_L_calls (fun ds g Kk h => by obtain ⟨rfl, _⟩ := h; rfl) fun cdv A outer s H Fz Z E hr => ⟨_, 
(ds_cons (ds_new (i := 1) sc_L_calls.nd (fe_d0M (w := w)))
 (ds_cons (ds_for (di_rng T.b_range (de_callR C__law_draw hr (da_cons (de_v (i := 0)) (da_cons de_int da_nil)))) (dg_name (i := 2) sc_L_calls.nd)
  (ds_cons (ds_set (i := 4) sc_L_calls.nd (de_callR C__law_pick hr (da_cons (de_v (i := 0)) (da_cons (FE.de (fe_lst (da_cons de_str (da_cons de_str (da_cons de_str (da_cons de_str (da_cons de_str (da_cons de_str (da_cons de_int (da_cons de_str (da_cons de_non (da_cons (de_tup (da_cons de_str da_nil)) da_nil)))))))))))) da_nil))))
 (ds_one (ds_mput (w := w) (i := 1) hr (de_callR C__law_pick hr (da_cons (de_v (i := 0)) (da_cons (FE.de (fe_lst (da_cons de_str (da_cons de_int (da_cons de_str (da_cons de_str (da_cons de_int (da_cons de_non (da_cons de_str (da_cons (FE.de (fe_lst da_nil)) (da_cons de_bl da_nil))))))))))) da_nil))) (de_v (i := 4))))))
 (ds_cons (ds_setP (i := 3) (ps_lc (own := [("_law_key", 4)]) sc_L_calls.nd (di_keysM (w := w) (de_o (i := 1))) (blkOk_by (own := [("_law_key", 4)]) (N := N_sc_L_calls) (sc := defScope s_L_calls) (by decide +kernel)) (fun _ _ _ _ _ => (dg_name (i := 4) sc_L_calls.nd)) (fun _ _ _ _ _ => (dts_one (DW.dt (dw_or (dt_not (dt_truth (de_call C__law_is_a_letter hr (da_cons (de_v (i := 4)) da_nil)))) (dw_or1 (dt_not (dt_truth (de_call C__law_is_term hr (da_cons (de_mget (w := w) hr (de_b (i := 1)) (de_v (i := 4))) da_nil))))))))) (fun _ _ _ _ _ => (de_v (i := 4))) (sw_true rfl rfl rfl (by decide +kernel))))
 (ds_one (ds_ret (de_tup (da_cons (de_o (i := 1)) (da_cons (de_v (i := 3)) da_nil))))))))
  , fun ds g Kk h => by
    obtain ⟨rfl, hc, k⟩ := h
    let mk : Nat → Rows → Option DV → Option DV → DS (Strm TT) := fun n rs x2 x4 => ⟨(⟨g.st, g.L, n⟩ : SG), [some (.fz (.raw (.ref g.st))), some (.own (callsD w rs)), x2, none, x4]⟩
    simp only [sSeq, sSet, sNew, sNext, sPass, sRet, sIf, sApp, sExt, sDrop, sAsg, wIfE, wTest, wTruth, wBand, wBor, wBnot, wOp, wUn, wCall, wCons, wNil, wTup, wLst, wC, sNew, sFor, wRg]
    refine ⟨_, rfl, _, rfl, (by show g.c ≤ 1000000; omega), by decide, by decide, fun i i0 i1 => ?_⟩
    refine ⟨i, rfl, by omega, by omega, ?_⟩
    have hlr : (rngD 0 i.toNat).length = i.toNat := by simp [rngD]
    refine forGo_ind (fun rest ρ => ∃ n rs x2 x4, rs.length + rest.length ≤ i.toNat ∧ (ksR rs).Nodup ∧ (∀ p ∈ rs, okRow1 p) ∧ n + 2 * rest.length ≤ g.c + 1 + 2 * i.toNat ∧ (∀ d, x4 ≠ some (.own d)) ∧ ρ = mk n rs x2 x4) ?_ ?_ _ _ ⟨g.c + 1, [], none, none, by rw [hlr]; simp, List.nodup_nil, (fun _ h => nomatch h), by rw [hlr]; omega, (fun _ h => by cases h), rfl⟩
    · rintro d rest N ρ hN ⟨n, rs, x2, x4, hlen, hnd, hok, hn, hno, rfl⟩
      rw [List.length_cons] at hlen hn
      refine ⟨_, rfl, by simp, by simp, _, _, rfl, rfl, by simp, by simp, (by show n ≤ 1000000; omega), fun kd hk => ?_⟩
      have hk : kd ∈ keysD := hk
      obtain ⟨kk, ek, dk⟩ := keysD_ok kd hk
      have sk := small_of (small_all kd (List.mem_append_left _ hk))
      refine ⟨_, rfl, by simp, by simp, _, _, rfl, rfl, by simp, by simp, (by show n + 1 ≤ 1000000; omega), fun vd hv => ?_⟩
      have hv : vd ∈ valsD := hv
      have sv := small_of (small_all vd (List.mem_append_right _ hv))
      subst ek
      refine ⟨⟨_, rfl⟩, _, rfl, kk, ksR rs, vsR rs, rfl, dk, rfl, by unfold ksR; rw [List.length_map]; omega, hN _ ⟨n + 2, putRow rs kk vd, some (.fz d), some (.fz (nD kk)), ?_, putRow_nd hnd kk vd, putRow_ok hok ⟨dk, sk, sv⟩, by omega, (fun _ h => by cases h), ?_⟩⟩
      · have := putRow_len rs kk vd; omega
      · show (⟨_, _⟩ : DS (Strm TT)) = _
        rw [putRow_calls]
        rfl
    · rintro ρ ⟨n, rs, x2, x4, hlen, hnd, hok, hn, hno, rfl⟩
      have hl3 : rs.length ≤ 3 := by simp at hlen; omega
      let mk2 : DS (Strm TT) := ⟨(⟨g.st, g.L, n⟩ : SG), [some (.fz (.raw (.ref g.st))), some (.fz (callsD w rs)), x2, none, x4]⟩
      have ekeys : (ksR rs).map nD = rs.map fun p => nD p.1 := by unfold ksR; rw [List.map_map]; rfl
      dsimp only
      refine wLc_via (ρ' := mk2) (ds := rs.map fun p => nD p.1) (fun K' k' => .inr ⟨_, rfl, _, _, rfl, by rw [ekeys]; exact k'⟩) _ ?_
      show wLc _ (gNm 4) _ _ [4] mk2 _
      refine wLc_fm (ρ := mk2) (α := NestedKey × D) (h := fun p => nD p.1) (xs := rs) (p := badRow) (f := fun p => nD p.1) (x := x4) (fun K k => k) (by omega) rfl hno (fun p hp K k => ?_) (fun p hp _ K k => ⟨_, rfl, k⟩) _ ?_
      · obtain ⟨d8, sk, sv⟩ := hok p hp
        refine ⟨_, rfl, ⟨_, rfl, tmB.tame sk.1⟩, isLt (nD p.1), rfl, ?_⟩
        cases h1 : isLt (nD p.1) with
        | false =>
          have e : badRow p = true := by unfold badRow; rw [h1]; rfl
          rw [e] at k
          exact itT k
        | true =>
          refine itF (.inl ⟨_, rfl, _, rfl, p.1, ksR rs, vsR rs, p.2, rfl, d8, rfl, valN_row hnd hp, ⟨_, rfl, tmB.tame sv.1⟩, isTm p.2, rfl, ?_⟩)
          have e : badRow p = !isTm p.2 := by unfold badRow; rw [h1]; rfl
          rw [e] at k
          exact k
      · exact .inl ⟨_, rfl, _, rfl, by simp, k rs n ⟨hl3, hnd, hok⟩ (by simp at hn; omega)⟩⟩
end
end K01

set_option Elab.async false
set_option linter.all false
set_option maxRecDepth 100000
set_option maxHeartbeats 4000000
namespace K01
open PySem PySem.Spec PyProof.Rows L2 Q
/-! what is tried -/
def hsOf : List Stmt → List ExceptHandler
  | .Try _ hs _ _ _ :: _ => hs
  | _ => []
structure Er (K : PySem.W.Frag) (mg : Str → Option Value) (CB CC : Addr) : Prop where
  mB : mg "BadBody" = some (.ref CB)
  mC : mg "BadCalls" = some (.ref CC)
  xB : XfC K CB
  xC : XfC K CC
  nB : PySem.W.findIn K (.ref CB) "index" = some none
  nC : PySem.W.findIn K (.ref CC) "thing" = some none
  bc : CB ≠ CC
  kd : ∀ k ∈ [CB, CC], ∀ k' ∈ [CB, CC], PySem.W.exmOne K (.ref k) (.ref k') = some (decide (k = k'))
def clsL (CB CC : Addr) : List Cl := [⟨CB, 1, "body", ["index"]⟩, ⟨CC, 1, "calls", ["thing"]⟩]
-- _law_tried: slots 0 _law_ask, 1 e
abbrev s_L_tried : Stmt := (top 64)
abbrev N_sc_L_tried : List Str := ["_law_ask", "e"]
theorem sc_L_tried : FnScope N_sc_L_tried ["_law_ask"] (defScope s_L_tried) := ⟨rfl, rfl, rfl, by decide +kernel, rfl, by decide +kernel, by decide +kernel⟩
theorem clauses_L {P : Program} {w : World} {K : PySem.W.Frag} {mg : Str → Option Value} {base : Heap} {CB CC : Addr} (R : Er K mg CB CC) {g : Addr} {A : Around} {outer : List Env} (cdg : Value) (s : Shared) (H : Hp) :
    Clauses (cxOf C8.CX0 P w K mg base N_sc_L_tried "_law_tried" (defScope s_L_tried) g cdg A outer s H C8.E0).nox (hsOf (defBody s_L_tried)) ((clsL CB CC).map Cl.told) := by
  refine .cons (x := "BadBody") (n := "e") ⟨by rfl, by decide, .inl R.mB⟩ rfl rfl (fun a oe cls d pn hz hf => pss_one (ps_ret (pe_tup (pa_cons pe_str (pa_cons (pe_xf R.xB R.nB hz hf (pv 1)) pa_nil))))) ?_
  refine .cons (x := "BadCalls") (n := "e") ⟨by rfl, by decide, .inl R.mC⟩ rfl rfl (fun a oe cls d pn hz hf => pss_one (ps_ret (pe_tup (pa_cons pe_str (pa_cons (pe_xf R.xC R.nC hz hf (pv 1)) pa_nil))))) .nil
section
variable {R : Rgn} {CB CC : Addr} {K : D → DS R → Prop} {ρ : DS R}
theorem cl_body {i : Int} (k : K (.tup [.str "body", .int i]) ρ) : wClauses K (clsL CB CC) CB ["index"] [.int i] ρ := by
  unfold clsL wClauses
  rw [if_pos rfl]
  exact ⟨[.int i], rfl, by simp, k⟩
theorem cl_calls (ne : CB ≠ CC) {x : D} (k : K (.tup [.str "calls", x]) ρ) : wClauses K (clsL CB CC) CC ["thing"] [x] ρ := by
  unfold clsL wClauses
  rw [if_neg (fun e => ne e.symm)]
  unfold wClauses
  rw [if_pos rfl]
  exact ⟨[x], rfl, by simp, k⟩
end
/-- a def that uses a region, its code known -/
theorem FnRc {P : Program} {w : World} {K : PySem.W.Frag} {mg : Str → Option Value} {base : Heap} {x q : Str} {st : Stmt} {f co : Addr} {fd : FuncData} {N ps : List Str} {k : Nat} {R : Rgn} {m : WMR R} (F : FnP K x q st f fd) (hco : fd.code = .ref co) (S : FnScope N ps (defScope st)) (hm : ∀ ds g Kk, m ds g Kk → ds.length = ps.length)
    (hbody : ∀ (A : Around) (outer : List Env) (s : Shared) (H Fz : Hp) (Z : Addr → Prop) (E : XK), Room k (A.deeper (envOfC q (defScope st) s.heap.objs.size f (.ref co))) →
      ∃ w' : WS R, DSs (bodyX P w K mg base N q st f (.ref co) A outer s H E) ⟨K, R, H, Fz, Z⟩ false (defBody st) w' ∧
        ∀ ds g Kk, m ds g Kk → w' { nx := fun ρ => Kk .non ρ.g, rt := fun d g => Kk d g } ⟨g, startD N ds⟩) : FnOk P w K mg base CX0 (k + 1) f fd ps (spR R K m) := by
  obtain ⟨oc, od, dV, kV, doc, pm, an, cdv, ct, osl, rfl, lk, hcd, _, _⟩ := F.ex
  have hco : cdv = .ref co := hco
  subst hco
  refine fn_of lk hcd S (fun vs H Q E h => ?_) (fun A outer s H vs Q E hr h => ?_)
  · obtain ⟨ds, F, Z, g, Kk, _, r, _, _, hw, _⟩ := h
    rw [r.length]
    exact hm ds g Kk hw
  · obtain ⟨ds, Fz, Z, g, Kk, sub, r, ok, zf, hw, k⟩ := h
    obtain ⟨w', hb, hw'⟩ := hbody A outer s H Fz Z E hr
    have gr : ∀ {F' H' : Hp} {g' : R.G}, Fin ⟨K, R, H, Fz, Z⟩ F' H' g' → ∃ Z', GrowR R g Fz H Z g' F' H' Z' := fun {F' H' g'} fin => by
      obtain ⟨Z', ok', z1, z2⟩ := fin.reg
      refine ⟨Z', fin.old, fin.sub, fin_grow fin, fin.keep, fin.live, ok', z1, fun b h => ?_, fun _ => fin.tin⟩
      by_cases e : Z b
      · exact .inl e
      · exact .inr (z2 b h e)
    exact ⟨_, PSs.nox hb.ps, _, Fz, _, St.start sub r ok zf, hw' ds g Kk hw, fun ρ' σ' F' H' h S' _ => (gr S'.fin).elim fun Z' gz => k .non ρ'.g .non F' Z' H' h gz .non, (fun _ _ _ _ h => h.elim), (fun _ _ _ _ h => h.elim),
      fun d g' h v F' H' fin rp => (gr fin).elim fun Z' gz => k d g' v F' Z' H' h gz rp⟩

theorem takes_lam {X : Cx} {A : Around} {outer : List Env} {s : Shared} {H : Hp} {E : XK} {scope : Scope} {f c' : Addr} : Takes (LamX.lamCx X A outer s H E scope f c') (fun cls d _ H => E cls d H) := takes_of rfl rfl rfl rfl
theorem pass_lam {X : Cx} {A : Around} {outer : List Env} {s : Shared} {H : Hp} {E : XK} {scope : Scope} {f c' : Addr} : Passes (L2.CX (LamX.lamCx X A outer s H E scope f c').prog (LamX.lamCx X A outer s H E scope f c').w) (LamX.lamCx X A outer s H E scope f c') E := passes_call takes_lam fun _ _ _ _ h => h
abbrev qP : Str := "_law_put_right.<locals>.<lambda>"
abbrev qL : Str := "law.<locals>.<lambda>"
abbrev T2 (PP PL : Addr) : TbL := [(PP, qP), (PL, qL)]
/-! sizes -/
theorem isDat_nD : ∀ k : NestedKey, isDat (nD k) = true := by
  intro k
  induction k using NestedKey.rec (motive_2 := fun ks => isDats (nDs ks) = true) with
  | none => simp [nD]
  | num i => simp [nD]
  | text x => simp [nD]
  | tup ks ih => simp only [nD, isDat]; exact ih
  | nil => simp [nDs]
  | cons k ks h1 h2 => simp only [nDs, isDats, h1, h2]; rfl
/-- small things: they are the same twice -/
def sz (n : Nat) (d : D) : Prop := depE d ≤ n ∧ wid d = true ∧ isDe d = true
theorem sz_lst {n : Nat} {xs : List D} (hl : xs.length ≤ 1000) (h : ∀ x ∈ xs, sz n x) : sz (n + 1) (.lst xs) := by
  have h1 : depEs xs ≤ n := by
    clear hl
    induction xs with
    | nil => simp [depEs]
    | cons x xs ih =>
      have a := (h x List.mem_cons_self).1
      have b := ih fun q hq => h q (List.mem_cons_of_mem _ hq)
      rw [depEs]
      omega
  refine ⟨by rw [depE]; omega, ?_, ?_⟩
  · rw [wid, decide_eq_true hl, wids_iff.mpr fun x hx => (h x hx).2.1]; rfl
  · rw [isDe]; exact isDes_iff.mpr fun x hx => (h x hx).2.2
theorem sz_tup {n : Nat} {xs : List D} (hl : xs.length ≤ 1000) (h : ∀ x ∈ xs, sz n x) : sz (n + 1) (.tup xs) := by
  obtain ⟨a, b, c⟩ := sz_lst hl h
  exact ⟨by simpa [depE] using a, by simpa [wid] using b, by simpa [isDe] using c⟩
theorem sz_le {m n : Nat} {d : D} (h : sz m d) (l : m ≤ n) : sz n d := ⟨by have := h.1; omega, h.2⟩
theorem sz_str (z : Str) : sz 0 (.str z) := ⟨by simp [depE], by simp [wid], by simp [isDe]⟩
theorem sz_int (i : Int) : sz 0 (.int i) := ⟨by simp [depE], by simp [wid], by simp [isDe]⟩
theorem sz_tm {t : D} (h : isTm t = true) : sz 0 t := by
  cases t <;> simp [isTm, isTh, isInt, isNm, isLt] at h
  · exact sz_int _
  · exact sz_str _
theorem sz_row {xs : List D} (h : okRow xs) : sz 1 (.tup xs) := by
  obtain ⟨z, ts, rfl, h1, h2, h3⟩ := h
  refine sz_tup (by simp; omega) fun x hx => ?_
  rcases List.mem_cons.mp hx with rfl | hx
  · exact sz_str z
  · exact sz_tm (List.all_eq_true.mp h3 x hx)
theorem sz_part {p : D} (h : okPart p) : sz 2 p := by
  rcases h with ⟨xs, rfl, o⟩ | ⟨xs, rfl, o⟩ | ⟨a, b, rfl, h1, h2⟩
  · exact sz_le (sz_row o) (by omega)
  · refine sz_tup (by simp) fun x hx => ?_
    simp only [List.mem_cons, List.not_mem_nil, or_false] at hx
    rcases hx with rfl | rfl
    · exact sz_le (sz_str _) (by omega)
    · exact sz_row o
  · refine sz_le (sz_tup (n := 0) (by simp) fun x hx => ?_) (by omega)
    simp only [List.mem_cons, List.not_mem_nil, or_false] at hx
    rcases hx with rfl | rfl | rfl
    · exact sz_str _
    · exact sz_tm h1
    · exact sz_tm h2
/-- a part with things put in is a part -/
theorem get_tm {rs : Rows} (g : goodRows rs) {t : D} (ht : isTm t = true) : isTm (getM (ksR rs) (vsR rs) t) = true := by
  obtain ⟨k, e, _, e3⟩ := getM_key ht
  rw [e3]
  have go : ∀ rs : Rows, (∀ r ∈ rs, isTm r.2 = true) → ∀ v, valN (ksR rs) (vsR rs) k = some v → isTm v = true := by
    intro rs
    induction rs with
    | nil => intro _ v h; simp [ksR, vsR, valN] at h
    | cons r rs ih =>
      intro g v h
      have h : valN (r.1 :: ksR rs) (r.2 :: vsR rs) k = some v := h
      rw [valN] at h
      split at h
      · cases h; exact g r List.mem_cons_self
      · exact ih (fun q hq => g q (List.mem_cons_of_mem _ hq)) v h
  cases q : valN (ksR rs) (vsR rs) k with
  | none => exact ht
  | some v => exact go rs (fun r hr => (g r hr).2) v q
theorem fill_tms {rs : Rows} (g : goodRows rs) {ts : List D} (h : ts.all isTm = true) : (ts.map (getM (ksR rs) (vsR rs))).all isTm = true := by
  rw [List.all_map]
  exact List.all_eq_true.mpr fun t ht => get_tm g (List.all_eq_true.mp h t ht)
theorem fill_ok {rs : Rows} (g : goodRows rs) {p : D} (h : okPart p) : okPart (fillP (ksR rs) (vsR rs) p) := by
  rcases h with ⟨xs, rfl, z, ts, rfl, h1, h2, h3⟩ | ⟨xs, rfl, z, ts, rfl, h1, h2, h3⟩ | ⟨a, b, rfl, h1, h2⟩
  · rw [fillP_row (nm_not h1).1]
    exact .inl ⟨_, rfl, z, _, rfl, h1, by rw [List.length_map]; exact h2, fill_tms g h3⟩
  · rw [fillP_not]
    exact .inr (.inl ⟨_, rfl, z, _, rfl, h1, by rw [List.length_map]; exact h2, fill_tms g h3⟩)
  · rw [fillP_row (by decide +kernel)]
    exact .inr (.inr ⟨_, _, rfl, get_tm g h1, get_tm g h2⟩)
end K01

set_option Elab.async false
set_option linter.all false
set_option maxRecDepth 100000
set_option maxHeartbeats 8000000
namespace K01
open PySem PySem.Spec PyProof.Rows L2 Q
/-! letters taken out, things put in: by both -/
theorem bodyRes_bad {CB : Addr} {x : D} {xs : List D} {i : Nat} {Kk : List D → Prop} {Xk : XW} (hs : sqOf x = some xs) (hf : (xs.findIdx? fun t => isNon (asPart t)) = some i) (k : Xk CB ["index"] [.int (i : Nat)]) : bodyRes CB x Kk Xk := by
  unfold bodyRes
  simp only [hs, hf]
  exact k
theorem bodyRes_good {CB : Addr} {x : D} {xs : List D} {Kk : List D → Prop} {Xk : XW} (hs : sqOf x = some xs) (hf : (xs.findIdx? fun t => isNon (asPart t)) = none) (k : Kk (xs.map asPart)) : bodyRes CB x Kk Xk := by
  unfold bodyRes
  simp only [hs, hf]
  exact k
theorem bad_none {rs : Rows} (h : rs.find? badRow = none) : badKeys rs = [] ∧ goodRows rs := by
  rw [List.find?_eq_none] at h
  refine ⟨?_, fun r hr => ?_⟩
  · unfold badKeys
    rw [List.filter_eq_nil_iff.mpr h]
    rfl
  · have := h r hr
    unfold badRow at this
    cases h1 : isLt (nD r.1) <;> cases h2 : isTm r.2 <;> simp [h1, h2] at this ⊢
theorem bad_some {rs : Rows} {p : NestedKey × D} (h : rs.find? badRow = some p) : p ∈ rs ∧ ∃ more, badKeys rs = nD p.1 :: more := by
  refine ⟨List.mem_of_find?_eq_some h, ?_⟩
  rw [← List.head?_filter] at h
  unfold badKeys
  cases q : rs.filter badRow with
  | nil => rw [q] at h; cases h
  | cons r rest =>
    rw [q] at h
    cases h
    exact ⟨_, rfl⟩
theorem badKeys_dat {rs : Rows} (h : ∀ p ∈ rs, okRow1 p) : isDats (badKeys rs) = true ∧ deps (badKeys rs) ≤ 1 := by
  unfold badKeys
  have : ∀ p ∈ rs.filter badRow, okRow1 p := fun p hp => h p (List.mem_filter.mp hp).1
  generalize rs.filter badRow = xs at this
  induction xs with
  | nil => simp [isDats, deps]
  | cons x xs ih =>
    have a := ih fun q hq => this q (List.mem_cons_of_mem _ hq)
    have b := isDat_nD x.1
    have c := (isDat_e b).2
    have d := (this x List.mem_cons_self).2.1.2.2.2
    rw [List.map_cons, isDats, b, a.1, deps]
    exact ⟨rfl, by omega⟩
theorem sz_rows {rs : Rows} (hl : rs.length ≤ 3) (h : ∀ p ∈ rs, okRow1 p) : sz 3 (.lst (rs.map rowD)) := by
  refine sz_lst (by rw [List.length_map]; omega) fun x hx => ?_
  obtain ⟨p, hp, rfl⟩ := List.mem_map.mp hx
  obtain ⟨_, ⟨_, a1, a2, a3⟩, ⟨_, b1, b2, b3⟩⟩ := h p hp
  refine sz_tup (by simp) fun y hy => ?_
  simp only [List.mem_cons, List.not_mem_nil, or_false] at hy
  rcases hy with rfl | rfl
  · exact ⟨a3, a2, a1⟩
  · exact ⟨b3, b2, b1⟩
theorem sz_two {n : Nat} {z : Str} {d : D} (h : sz n d) : sz (n + 1) (.tup [.str z, d]) := by
  refine sz_tup (by simp) fun y hy => ?_
  simp only [List.mem_cons, List.not_mem_nil, or_false] at hy
  rcases hy with rfl | rfl
  · exact sz_le (sz_str _) (by omega)
  · exact h
theorem sz_pair {n : Nat} {x y : D} (h1 : sz n x) (h2 : sz n y) : sz (n + 1) (.lst [x, y]) := by
  refine sz_lst (by simp) fun q hq => ?_
  simp only [List.mem_cons, List.not_mem_nil, or_false] at hq
  rcases hq with rfl | rfl
  · exact h1
  · exact h2
theorem addL_fold (ts : List D) : ∀ acc : List Str, (ts.foldl addL acc).length ≤ acc.length + ts.length := by
  induction ts with
  | nil => intro acc; simp
  | cons t ts ih =>
    intro acc
    rw [List.foldl_cons, List.length_cons]
    have := ih (addL acc t)
    have := addL_len acc t
    omega
theorem terms_len {ps : List D} (h : ∀ p ∈ ps, okPart p) : (ps.flatMap termsP).length ≤ 6 * ps.length := by
  induction ps with
  | nil => simp
  | cons p ps ih =>
    have a := (h p List.mem_cons_self).terms.2
    have b := ih fun q hq => h q (List.mem_cons_of_mem _ hq)
    rw [List.flatMap_cons, List.length_append, List.length_cons]
    omega
theorem lettersP_len {ps : List D} (h : ∀ p ∈ ps, okPart p) : (lettersP ps).length ≤ 6 * ps.length := by
  have a := addL_fold (ps.flatMap termsP) []
  have b := terms_len h
  unfold lettersP
  simp only [List.length_nil] at a
  omega
theorem sz_letters {ps : List D} (hl : ps.length ≤ 3) (h : ∀ p ∈ ps, okPart p) : sz 1 (.lst ((lettersP ps).map .str)) := by
  have := lettersP_len h
  refine sz_lst (by rw [List.length_map]; omega) fun x hx => ?_
  obtain ⟨z, _, rfl⟩ := List.mem_map.mp hx
  exact sz_str z
theorem wC_i {R : Rgn} {d : D} {K : D → DS R → Prop} {ρ : DS R} (h : K d ρ) : wC R d ρ K := h
theorem eq_empty (n : Bool) {xs : List D} {x : D} {more : List D} (h : isDats xs = true) (h2 : deps xs ≤ 20) (e : xs = x :: more) : eqD n (.lst xs) (.lst []) = some (.bl n) := by
  unfold eqD
  rw [if_pos ⟨by rw [isDat]; exact h, by simp [isDat, isDats], by simp [dep]⟩, e]
  have : deq (.lst (x :: more)) (.lst []) = false := by simp [deq, deqs]
  rw [this]
  cases n <;> rfl
theorem ite_nn {b : Bool} {P Q : Prop} (h1 : b = true → P) (h2 : b = false → Q) : if (!(!b)) = true then P else Q := by
  cases b
  · exact h2 rfl
  · exact h1 rfl
theorem dats_snoc {xs : List D} {d : D} (h : isDats xs = true) (h1 : isDat d = true) (h2 : dep d = 0) (h3 : deps xs = 0) : isDats (xs ++ [d]) = true ∧ deps (xs ++ [d]) = 0 := by
  induction xs with
  | nil => simp [isDats, deps, h1, h2]
  | cons x xs ih =>
    rw [isDats, Bool.and_eq_true] at h
    rw [deps] at h3
    have := ih h.2 (by omega)
    rw [List.cons_append, isDats, h.1, this.1, deps, this.2]
    exact ⟨rfl, by omega⟩
def mPutRight (TT : TbL) : WMR (Strm TT) := fun ds g Kk => ∃ b, ds = [.raw (.ref g.st), b] ∧ isBody b ∧ g.c + 20 ≤ 900000 ∧ ∀ c' : Nat, c' ≤ g.c + 20 → Kk (.bl true) (⟨g.st, g.L, c'⟩ : SG)
section
variable {P : Program} {w : World} {K : PySem.W.Frag} {mg : Str → Option Value} {base : Heap} {f g : Addr} {fd gd : FuncData} {CB CC co PP PL : Addr}
-- _law_put_right: slots 0 _law_stream, 1 _law_body, 2 _law_bad, 3 _law_kept_here, 4 _law_found, 5 _law_due, 6 _law_calls_here, 7 _law_odd, 8 _law_index, 9 _law_part_here
abbrev s_L_put_right : Stmt := (top 67)
abbrev N_sc_L_put_right : List Str := ["_law_stream", "_law_body", "_law_bad", "_law_kept_here", "_law_found", "_law_due", "_law_calls_here", "_law_odd", "_law_index", "_law_part_here"]
theorem sc_L_put_right : FnScope N_sc_L_put_right ["_law_stream", "_law_body"] (defScope s_L_put_right) := ⟨rfl, rfl, rfl, by decide +kernel, rfl, by decide +kernel, by decide +kernel⟩
theorem ok_L_put_right (F : FnP K "_law_put_right" "_law_put_right" s_L_put_right f fd) (hco : fd.code = .ref co) (T : Tx K mg) (RE : Er K mg CB CC)
    (C_letters_of : CalX P w K mg base "letters_of" 8 ["body"] (spX K (mLetters CB))) (C_put_in : CalX P w K mg base "put_in" 8 ["body", "calls"] (spX K (mPutIn w CB CC)))
    (hmT : mg "_law_tried" = some (.ref g)) (FT : FnP K "_law_tried" "_law_tried" s_L_tried g gd) (bT : L2.Binds K gd ["_law_ask"] []) (TB : LamX.TabB base mg co PP) (hPP : PP ≠ PL)
    (C__law_is_part : Cal P w K mg base "_law_is_part" 6 ["_law_thing"] (spD K (wF tmd1 fun ds => .bl (!isNon (asPart (ds.headD .non))))))
    (C__law_calls : Cal P w K mg base "_law_calls" 5 ["_law_stream"] (spR (Strm (T2 PP PL)) K (mCalls (T2 PP PL) w)))
    (C__law_kept : Cal P w K mg base "_law_kept" 3 ["_law_part_here", "_law_calls_here"] (spD K (mKept w)))
    (C__law_letters : Cal P w K mg base "_law_letters" 2 ["_law_body"] (spF K (wF okRaw fun ds => .lst ((lettersR ((sqOf (ds.headD .non)).getD [])).map .str))))
    (C__law_same : Cal P w K mg base "_law_same" 10 ["_law_found", "_law_due"] (spD K (mSame 9))) :
    FnOk P w K mg base CX0 15 f fd ["_law_stream", "_law_body"] (spR (Strm (T2 PP PL)) K (mPutRight (T2 PP PL))) :=
  FnRc F hco sc_L_put_right (fun ds g Kk h => by obtain ⟨_, rfl, _⟩ := h; rfl) fun A outer s H Fz Z E hr => by
  have tr : ∀ {params : Arguments} {body : Expr} {scope : Scope} {w' : WEX (Strm (T2 PP PL))} {p lpos pos : Pos}, LamX.LamS (defScope s_L_put_right) scope → defaultsOf params (bodyX P w K mg base N_sc_L_put_right "_law_put_right" s_L_put_right f (.ref co) A outer s H E).env = ([], []) →
      (∀ (q : Str) (cl : List (Str × Addr)) (pm cv ctv : Value), bindArgs (PySem.W.kla_fn "<lambda>" q params body scope cl pm cv ctv) ⟨[], []⟩ = pure []) →
      (∀ (A' : Around) (outer' : List Env) (s' : Shared) (H' : Hp) (E' : XK) (f' c' : Addr), Room 12 (A'.deeper (LamX.lamEnv (bodyX P w K mg base N_sc_L_put_right "_law_put_right" s_L_put_right f (.ref co) A outer s H E) scope s'.heap.objs.size f' c')) →
        DX (LamX.lamCx (bodyX P w K mg base N_sc_L_put_right "_law_put_right" s_L_put_right f (.ref co) A outer s H E) A' outer' s' H' E' scope f' c') ⟨K, Strm (T2 PP PL), H, Fz, Z⟩ body w' E') →
      DE (bodyX P w K mg base N_sc_L_put_right "_law_put_right" s_L_put_right f (.ref co) A outer s H E) ⟨K, Strm (T2 PP PL), H, Fz, Z⟩ false false (.Call (.Name "_law_tried" p) [.Lambda params body scope lpos] [] pos) (wTold (clsL CB CC) "told" w') := fun L nodef hbind hbody =>
    de_told (n := 0) (k := 12) (cs := clsL CB CC) (T := T2 PP PL) hmT FT bT sc_L_tried rfl (by first | exact .inl rfl | exact .inr (.inl rfl) | exact .inr (.inr rfl)) rfl (fun cdg s H => clauses_L RE cdg s H) (fun f => rfl) (fun k hk => by
      simp only [clsL, List.mem_cons, List.not_mem_nil, or_false] at hk
      rcases hk with rfl | rfl <;> (show 1 < 2; decide)) (fun k hk k' hk' => RE.kd k.C (by
      simp only [clsL, List.mem_cons, List.not_mem_nil, or_false] at hk
      rcases hk with rfl | rfl <;> simp) k'.C (by
      simp only [clsL, List.mem_cons, List.not_mem_nil, or_false] at hk'
      rcases hk' with rfl | rfl <;> simp)) TB rfl (List.mem_cons_self) (fun p hp e => by
        rcases List.mem_cons.mp hp with rfl | hp
        · rfl
        · rw [List.mem_singleton.mp hp] at e
          exact absurd e.symm hPP) (lam_strm _) hr L nodef hbind hbody
  refine ⟨_, 
(ds_cons (ds_setP (i := 2) (ps_lc (own := [("_law_index", 8), ("_law_part_here", 9)]) sc_L_put_right.nd (di_enumA T.b_enumerate (de_v (i := 1))) (blkOk_by (own := [("_law_index", 8), ("_law_part_here", 9)]) (N := N_sc_L_put_right) (sc := defScope s_L_put_right) (by decide +kernel)) (fun _ _ _ _ _ => (dg_tup (n := 2) (dgs_cons (dg_name (i := 8) sc_L_put_right.nd) (dgs_cons (dg_name (i := 9) sc_L_put_right.nd) dgs_nil)))) (fun _ _ _ _ _ => (dts_one (dt_not (dt_truth (de_call C__law_is_part hr (da_cons (de_v (i := 9)) da_nil)))))) (fun _ _ _ _ _ => (de_v (i := 8))) (sw_true rfl rfl rfl (by decide +kernel))))
 (ds_cons (ds_asg (de_callR C__law_calls hr (da_cons (de_v (i := 0)) da_nil)) (dg_tup (n := 2) (dgs_cons (dg_name (i := 6) sc_L_put_right.nd) (dgs_cons (dg_name (i := 7) sc_L_put_right.nd) dgs_nil))))
 (ds_cons (ds_set (i := 3) sc_L_put_right.nd (FE.de (fe_itemsM (w := w) T.b_list (de_v (i := 6)))))
 (ds_cons (ds_new (i := 4) sc_L_put_right.nd (fe_lst (da_cons (tr (LamX.lamS_by (by decide +kernel)) rfl (fun _ _ _ _ _ => rfl) (fun A outer s H E f c' room => (dx_call C_letters_of pass_lam room (da_cons (de_v (i := 1)) da_nil)))) da_nil)))
 (ds_cons (ds_app (i := 4) (tr (LamX.lamS_by (by decide +kernel)) rfl (fun _ _ _ _ _ => rfl) (fun A outer s H E f c' room => (dx_call C_put_in pass_lam room (da_cons (de_v (i := 1)) (da_cons (de_v (i := 6)) da_nil))))))
 (ds_cons (ds_if (dt_cm (c_ne hr) (de_v (i := 2)) (FE.de (fe_lst da_nil))) (ds_one (ds_ret (de_call C__law_same hr (da_cons (de_o (i := 4)) (da_cons (de_mul (FE.de (fe_lst (da_cons (de_tup (da_cons de_str (da_cons (de_ixA (de_v (i := 2)) de_int) da_nil))) da_nil))) de_int) da_nil))))) ds_nil)
 (ds_cons (ds_set (i := 5) sc_L_put_right.nd (de_if (dt_cm (c_eq hr) (de_v (i := 7)) (FE.de (fe_lst da_nil))) (de_tup (da_cons de_str (da_cons (FE.de (fe_lc (own := [("_law_part_here", 9)]) sc_L_put_right.nd (di_seq (de_v (i := 1))) (blkOk_by (own := [("_law_part_here", 9)]) (N := N_sc_L_put_right) (sc := defScope s_L_put_right) (by decide +kernel)) (fun _ _ _ _ _ => (dg_name (i := 9) sc_L_put_right.nd)) (fun _ _ _ _ _ => dts_nil) (fun _ _ _ _ _ => (de_call C__law_kept hr (da_cons (de_v (i := 9)) (da_cons (de_v (i := 6)) da_nil)))))) da_nil))) (de_tup (da_cons de_str (da_cons (de_ixA (de_v (i := 7)) de_int) da_nil)))))
 (ds_one (ds_ret (de_and (de_call C__law_same hr (da_cons (de_o (i := 4)) (da_cons (FE.de (fe_lst (da_cons (de_tup (da_cons de_str (da_cons (FE.de (fe_call C__law_letters hr (da_cons (de_v (i := 1)) da_nil))) da_nil))) (da_cons (de_v (i := 5)) da_nil)))) da_nil))) (de_one (de_call C__law_same hr (da_cons (FE.de (fe_itemsM (w := w) T.b_list (de_v (i := 6)))) (da_cons (de_v (i := 3)) da_nil))))))))))))))
  , fun ds g Kk h => ?_⟩
  obtain ⟨b, rfl, ⟨hb, ps, hs, hl⟩, hc, k⟩ := h
  have hx' := tmBs_iff.mp (sq_tms hs hb)
  have hin : bodyIn b := ⟨.inl hb, fun xs e => by rw [hs] at e; cases e; omega⟩
  let mk2 : List D → DS (Strm (T2 PP PL)) := fun _ => ⟨g, [some (.fz (.raw (.ref g.st))), some (.fz b), none, none, none, none, none, none, none, none]⟩
  refine ⟨b, rfl, ps, by rcases sq_cases hs with h | h <;> simp [h], ?_⟩
  refine ⟨by rw [enumD_length]; omega, fun i m d' q => ?_, ?_⟩
  · have e : i = 8 ∨ i = 9 := by simpa using m
    rcases e with rfl | rfl <;> cases q
  refine lcGo_ind (fun rest acc ρ => ∃ j, j ≤ ps.length ∧ rest = enumD j (ps.drop j) ∧ ((acc = [] ∧ ∀ t ∈ ps.take j, isNon (asPart t) = false) ∨ ∃ (i : Nat) (more : List D), acc = .int i :: more ∧ (ps.findIdx? fun t => isNon (asPart t)) = some i ∧ isDats more = true ∧ deps more = 0) ∧ ρ = mk2 []) ?_ ?_ _ _ _ ⟨0, Nat.zero_le _, rfl, .inl ⟨rfl, fun t h => nomatch h⟩, rfl⟩
  · rintro d rest acc N ρ hN ⟨j, hj, hr', hB, rfl⟩
    by_cases hlt : j < ps.length
    · rw [List.drop_eq_getElem_cons hlt] at hr'
      obtain ⟨rfl, rfl⟩ : d = .tup [.int (j : Nat), ps[j]] ∧ rest = enumD (j + 1) (ps.drop (j + 1)) := by
        have h1 : d :: rest = .tup [.int (j : Nat), ps[j]] :: enumD (j + 1) (ps.drop (j + 1)) := hr'
        exact ⟨(List.cons.inj h1).1, (List.cons.inj h1).2⟩
      have hm : ps[j] ∈ ps := List.getElem_mem hlt
      refine ⟨_, rfl, rfl, _, _, rfl, _, _, rfl, rfl, ?_⟩
      refine ⟨_, rfl, ⟨_, rfl, hx' _ hm⟩, _, rfl, ?_⟩
      refine ite_nn (fun hb1 => ⟨_, rfl, hN _ _ ⟨j + 1, hlt, rfl, .inr ?_, rfl⟩⟩) (fun hb1 => hN _ _ ⟨j + 1, hlt, rfl, ?_, rfl⟩)
      · rcases hB with ⟨rfl, hB⟩ | ⟨i, more, rfl, hi, hd1, hd2⟩
        · refine ⟨j, [], rfl, ?_, by simp, by simp⟩
          rw [List.findIdx?_eq_some_iff_getElem]
          refine ⟨hlt, hb1, fun i hi => ?_⟩
          rw [hB ps[i] (by rw [List.mem_take_iff_getElem]; exact ⟨i, by omega, rfl⟩)]
          decide
        · have q := dats_snoc (d := .int (j : Nat)) hd1 (by simp) (by simp) hd2
          exact ⟨i, more ++ [.int (j : Nat)], rfl, hi, q.1, q.2⟩
      · rcases hB with ⟨rfl, hB⟩ | hB
        · refine .inl ⟨rfl, fun t ht => ?_⟩
          rw [List.take_succ_eq_append_getElem hlt] at ht
          rcases List.mem_append.mp ht with q | q
          · exact hB t q
          · rw [List.mem_singleton.mp q]; exact hb1
        · exact .inr hB
    · rw [List.drop_eq_nil_of_le (by omega)] at hr'
      cases hr'
  · rintro acc ρ ⟨j, hj, hr', hB, rfl⟩
    have hj2 : ¬ j < ps.length := fun hlt => by
      rw [List.drop_eq_getElem_cons hlt] at hr'
      cases hr'
    have ej : ps.take j = ps := List.take_of_length_le (by omega)
    rw [ej] at hB
    refine ⟨_, rfl, rfl, (by show g.c + 10 ≤ 900000; omega), fun rs c hrs hcc => ?_⟩
    have hcc : c ≤ g.c + 10 := hcc
    obtain ⟨hrl, hnd, hok⟩ := hrs
    let mk : Option DV → Option DV → DS (Strm (T2 PP PL)) := fun x4 x5 => ⟨(⟨g.st, g.L, c⟩ : SG), [some (.fz (.raw (.ref g.st))), some (.fz b), some (.fz (.lst acc)), some (.fz (.lst (rs.map rowD))), x4, x5, some (.fz (callsD w rs)), some (.fz (.lst (badKeys rs))), none, none]⟩
    refine ⟨_, rfl, rfl, _, _, rfl, _, _, rfl, rfl, ?_⟩
    refine ⟨_, rfl, _, _, rfl, ?_⟩
    rw [pairs_rows]
    have okr : okRows rs := ⟨by omega, fun p hp => ⟨(hok p hp).1, (hok p hp).2.1.1, (hok p hp).2.2.1⟩⟩
    refine ⟨_, rfl, b, rfl, hin, ?_⟩
    rcases hB with ⟨rfl, hB⟩ | ⟨i, more, rfl, hi, hd1, hd2⟩
    · have hf : (ps.findIdx? fun t => isNon (asPart t)) = none := by
        rw [List.findIdx?_eq_none_iff]
        exact hB
      have hpk : ∀ p ∈ ps, okPart (asPart p) := fun p hp => (asPart_cases p).resolve_left fun q => by
        have := hB p hp
        rw [q] at this
        cases this
      refine bodyRes_good hs hf ⟨by simp, ⟨_, rfl⟩, _, rfl, _, rfl, b, callsD w rs, rfl, hin, bodyRes_good hs hf (.inl ⟨rs, rfl, okr, ?_⟩)⟩
      cases hfd : rs.find? badRow with
      | none =>
        obtain ⟨hbk, hg⟩ := bad_none hfd
        dsimp only
        refine ⟨_, rfl, by simp, ?_⟩
        have e1 : eqD true (.lst []) (.lst []) = some (.bl false) := by simp [eqD, xr]
        have e2 : eqD false (.lst (badKeys rs)) (.lst []) = some (.bl true) := by rw [hbk]; simp [eqD, xr]
        refine ⟨_, rfl, by simp, _, e1, _, rfl, itF ⟨_, rfl, by simp, _, e2, _, rfl, itT ?_⟩⟩
        refine wCons_i (wC_i (wCons_i ?_))
        let found : D := .lst [.tup [.str "told", .lst ((lettersP (ps.map asPart)).map .str)], .tup [.str "told", .lst ((ps.map asPart).map (fillP (ksR rs) (vsR rs)))]]
        show wLc (wSq (wV 1)) (gNm 9) wYes (wCall (mKept w) (wCons (wV 9) (wCons (wV 6) wNil))) [9] (mk (some (.own found)) none) _
        refine wLc_m (ρ := mk (some (.own found)) none) (α := D) (h := id) (xs := ps) (f := fun p => fillP (ksR rs) (vsR rs) (asPart p)) (x := none) (fun K k => ⟨_, rfl, ps, sq_seq hs, by simpa using k⟩) (by omega) rfl (fun _ h => by cases h) (fun a ha K k => ⟨_, rfl, _, rfl, a, rs, rfl, hg, hpk a ha, k⟩) _ ?_
        refine ⟨by simp, ?_⟩
        have pok : ∀ q ∈ ps.map asPart, okPart q := fun q hq => by
          obtain ⟨p, hp, rfl⟩ := List.mem_map.mp hq
          exact hpk p hp
        have szf : sz 5 found := sz_pair (sz_le (sz_two (sz_letters (by simpa using hl) pok)) (by omega)) (sz_two (sz_lst (by simp; omega) fun x hx => by
          obtain ⟨q, hq, rfl⟩ := List.mem_map.mp hx
          exact sz_part (fill_ok hg (pok q hq))))
        have szr := sz_rows hrl hok
        refine .inr ⟨_, rfl, _, rfl, ⟨b, ps, rfl, hs, by omega, fun p hp => ⟨hx' p hp, hpk p hp⟩⟩, by simp, _, rfl, by simp, found, ?_, by have := szf.1; omega, szf.2.1, szf.2.2, true, rfl, itT ?_⟩
        · show [found, D.lst [.tup [.str "told", .lst ((lettersR ((sqOf b).getD [])).map .str)], .tup [.str "told", .lst (ps.map fun p => fillP (ksR rs) (vsR rs) (asPart p))]]] = [found, found]
          rw [hs]
          simp only [found, List.map_map]
          rfl
        · refine ⟨_, rfl, _, _, rfl, ?_⟩
          rw [pairs_rows]
          exact ⟨_, rfl, .lst (rs.map rowD), rfl, by have := szr.1; omega, szr.2.1, szr.2.2, k c (by omega)⟩
      | some p =>
        obtain ⟨hpm, more, hbk⟩ := bad_some hfd
        dsimp only
        obtain ⟨bd1, bd2⟩ := badKeys_dat hok
        have e1 : eqD true (.lst []) (.lst []) = some (.bl false) := by simp [eqD, xr]
        have e2 : eqD false (.lst (badKeys rs)) (.lst []) = some (.bl false) := eq_empty false bd1 (by omega) hbk
        have e3 : ixD (.lst (badKeys rs)) (.int 0) = some (nD p.1) := by rw [hbk]; simp [ixN]
        have pok : ∀ q ∈ ps.map asPart, okPart q := fun q hq => by
          obtain ⟨p, hp, rfl⟩ := List.mem_map.mp hq
          exact hpk p hp
        let found : D := .lst [.tup [.str "told", .lst ((lettersP (ps.map asPart)).map .str)], .tup [.str "calls", nD p.1]]
        obtain ⟨_, ⟨_, a1, a2, a3⟩, _⟩ := hok p hpm
        have szf : sz 5 found := sz_pair (sz_le (sz_two (sz_letters (by simpa using hl) pok)) (by omega)) (sz_le (sz_two ⟨a3, a2, a1⟩) (by omega))
        have szr := sz_rows hrl hok
        refine cl_calls RE.bc ⟨_, rfl, by simp, ?_⟩
        refine ⟨_, rfl, by simp, _, e1, _, rfl, itF ⟨_, rfl, by simp, _, e2, _, rfl, itF ⟨_, rfl, _, e3, by simp, ?_⟩⟩⟩
        refine .inr ⟨_, rfl, _, rfl, ⟨b, ps, rfl, hs, by omega, fun p hp => ⟨hx' p hp, hpk p hp⟩⟩, by simp, _, rfl, by simp, found, ?_, by have := szf.1; omega, szf.2.1, szf.2.2, true, rfl, itT ?_⟩
        · show [found, D.lst [.tup [.str "told", .lst ((lettersR ((sqOf b).getD [])).map .str)], .tup [.str "calls", nD p.1]]] = [found, found]
          rw [hs]
          rfl
        · refine ⟨_, rfl, _, _, rfl, ?_⟩
          rw [pairs_rows]
          exact ⟨_, rfl, .lst (rs.map rowD), rfl, by have := szr.1; omega, szr.2.1, szr.2.2, k c (by omega)⟩
    · have e1 : eqD true (.lst (.int (i : Nat) :: more)) (.lst []) = some (.bl true) := eq_empty true (by rw [isDats, hd1]; simp [isDat]) (by rw [deps, hd2]; simp [dep]) rfl
      let found : D := .lst [.tup [.str "body", .int (i : Nat)], .tup [.str "body", .int (i : Nat)]]
      have szf : sz 2 found := sz_pair (sz_two (sz_int _)) (sz_two (sz_int _))
      refine bodyRes_bad hs hi (cl_body ⟨by simp, ⟨_, rfl⟩, _, rfl, _, rfl, b, callsD w rs, rfl, hin, bodyRes_bad hs hi (cl_body ⟨_, rfl, by simp, ?_⟩)⟩)
      exact ⟨_, rfl, by simp, _, e1, _, rfl, itT (.inr ⟨_, rfl, _, rfl, .int (i : Nat), by simp [ixN], by simp, by simp, _, rfl, found, rfl, by have := szf.1; omega, szf.2.1, szf.2.2, k c (by omega)⟩)⟩
end
end K01

set_option Elab.async false
set_option linter.all false
set_option maxRecDepth 100000
set_option maxHeartbeats 8000000
namespace K01
open PySem PySem.Spec PyProof.Rows L2 Q
/-! the law -/
abbrev mk9 {TT : TbL} (st L a0 : Addr) (n : Nat) (x2 x3 x4 x5 x6 x7 x8 : Option DV) : DS (Strm TT) := ⟨(⟨st, L, n⟩ : SG), [some (.fz (.raw (.ref a0))), some (.fz (.raw (.ref st))), x2, x3, x4, x5, x6, x7, x8]⟩
/-- what the odd ones are -/
def okOdd (w : World) (x : D) : Prop := sqOf x = none ∧ bodyIn x ∧ ((x = callsD w [] ∧ eqE x (.dct [] []) = some (.bl true)) ∨ ((∀ rs, x ≠ callsD w rs) ∧ isaM w .dict x = some (.bl false) ∧ eqE x (.dct [] []) = some (.bl false) ∧ sz 0 x))
theorem odd_all (w : World) : ∀ y ∈ [D.non, .int 5, .str "X", .dmx w [] [], .bl true], okOdd w y := fun y hy => by
  simp only [List.mem_cons, List.not_mem_nil, or_false] at hy
  rcases hy with rfl | rfl | rfl | rfl | rfl
  · exact ⟨rfl, ⟨.inl (by simp), fun xs h => by cases h⟩, .inr ⟨fun rs h => by simp [callsD] at h, rfl, rfl, by simp [depE], by simp [wid], by simp [isDe]⟩⟩
  · exact ⟨rfl, ⟨.inl (by simp), fun xs h => by cases h⟩, .inr ⟨fun rs h => by simp [callsD] at h, rfl, rfl, sz_int _⟩⟩
  · exact ⟨rfl, ⟨.inl (by rw [tmB_str]; decide +kernel), fun xs h => by cases h⟩, .inr ⟨fun rs h => by simp [callsD] at h, rfl, rfl, sz_str _⟩⟩
  · exact ⟨rfl, ⟨.inr ⟨_, _, _, rfl⟩, fun xs h => by cases h⟩, .inl ⟨rfl, rfl⟩⟩
  · exact ⟨rfl, ⟨.inl (by simp), fun xs h => by cases h⟩, .inr ⟨fun rs h => by simp [callsD] at h, rfl, rfl, by simp [depE], by simp [wid], by simp [isDe]⟩⟩
abbrev bdOne : D := .lst [.tup [.str "p", .str "X"]]
theorem one_part : (([D.tup [.str "p", .str "X"]]).findIdx? fun t => isNon (asPart t)) = none := by decide +kernel
theorem one_as : asPart (.tup [.str "p", .str "X"]) = .tup [.str "p", .str "X"] := by
  rfl
theorem one_fill : fillP [] [] (.tup [.str "p", .str "X"]) = .tup [.str "p", .str "X"] := by
  rfl
theorem one_in : bodyIn bdOne := ⟨.inl (by decide +kernel), fun xs h => by cases h; decide⟩
theorem bodyRes_no {CB : Addr} {x : D} {Kk : List D → Prop} {Xk : XW} (hs : sqOf x = none) (k : Xk CB ["index"] [.int 0]) : bodyRes CB x Kk Xk := by
  unfold bodyRes
  simp only [hs]
  exact k
section
variable {R : Rgn} {i : Nat} {d : D} {ρ : DS R} {K : D → DS R → Prop} {Kg : DS R → Prop} {Dk : DEnds R} {w1 w2 : WS R} {we wa wb : WE R} {op : D → D → Option D}
theorem gNm_i (h : Kg (ρ.put i (some (.fz d)))) : gNm i d ρ Kg := h
theorem seq_i (h : w1 { Dk with nx := fun ρ' => w2 Dk ρ' } ρ) : sSeq w1 w2 Dk ρ := h
theorem new_i (h : we ρ fun d ρ1 => Dk.nx (ρ1.put i (some (.own d)))) : sNew i we Dk ρ := h
theorem op_i (h : wa ρ fun a ρ1 => wb ρ1 fun b ρ2 => ∃ d, op a b = some d ∧ K d ρ2) : wOp op wa wb ρ K := h
theorem if_i {wt : WB R} (h : wt ρ fun b ρ1 => if b = true then w1 Dk ρ1 else w2 Dk ρ1) : sIf wt w1 w2 Dk ρ := h
theorem bnot_i {wt : WB R} {Kb : Bool → DS R → Prop} (h : wt ρ fun b ρ1 => Kb (!b) ρ1) : wBnot wt ρ Kb := h
theorem truth_i {Kb : Bool → DS R → Prop} (h : we ρ fun d ρ1 => ∃ b, truD d = some b ∧ Kb b ρ1) : wTruth we ρ Kb := h
theorem un_i {op : D → Option D} (h : we ρ fun d ρ1 => ∃ z, op d = some z ∧ K z ρ1) : wUn op we ρ K := h
theorem ext_i (h1 : ∃ ds, ρ.sl[i]? = some (some (.own (.lst ds)))) (h : we ρ fun d ρ1 => ∃ ds es, d = .lst es ∧ ρ1.sl[i]? = some (some (.own (.lst ds))) ∧ ds.length + es.length ≤ 100000 ∧ Dk.nx (ρ1.put i (some (.own (.lst (ds ++ es)))))) : sExt i we Dk ρ := ⟨h1, h⟩
end
/-- things drawn, one after another -/
theorem wLc_drawn {TT : TbL} {st L a0 : Addr} {n m N : Nat} {p : D → Prop} {x2 x3 x4 x5 x6 x7 x8 : Option DV} {K : D → DS (Strm TT) → Prop} (h4 : ∀ d, x4 ≠ some (.own d)) (hm : m ≤ 100) (hn : n + m * N ≤ 900000)
    (k : ∀ (ds : List D) (n' : Nat), (∀ d ∈ ds, p d) → ds.length = m → n' ≤ n + m * N → K (.lst ds) (mk9 st L a0 n' x2 x3 x4 x5 x6 x7 x8)) :
    wLc (wRg (wC (Strm TT) (.int (m : Nat)))) (gNm 4) wYes (wCallR (mDrawn TT N p) (wCons (wV 1) wNil)) [4] (mk9 st L a0 n x2 x3 x4 x5 x6 x7 x8) K := by
  have hlr : (rngD 0 ((m : Nat) : Int).toNat).length = m := by simp [rngD]
  refine ⟨(m : Nat), rfl, by omega, by omega, ?_⟩
  refine ⟨by rw [hlr]; omega, fun i mm d' q => ?_, ?_⟩
  · have e : i = 4 := by simpa using mm
    subst e
    exact h4 _ (Option.some.inj q)
  refine lcGo_ind (fun rest acc ρ => ∃ n' : Nat, acc.length + rest.length = m ∧ (∀ y ∈ acc, p y) ∧ n' ≤ n + acc.length * N ∧ ρ = mk9 st L a0 n' x2 x3 none x5 x6 x7 x8) ?_ ?_ _ _ _ ⟨n, by simpa using hlr, (fun _ h => nomatch h), by simp, rfl⟩
  · rintro d' rest acc N' ρ hN ⟨n', hlen, hone, hn', rfl⟩
    rw [List.length_cons] at hlen
    have hb : acc.length * N + N ≤ m * N := by
      have := Nat.mul_le_mul_right N (show acc.length + 1 ≤ m by omega)
      rw [Nat.add_mul, Nat.one_mul] at this
      exact this
    refine ⟨_, rfl, rfl, (by show n' + N ≤ 900000; omega), fun y1 c1 hy1 hc1 => ?_⟩
    have hc1 : c1 ≤ n' + N := hc1
    refine hN _ _ ⟨c1, by rw [List.length_append]; simp; omega, fun q hq => ?_, ?_, rfl⟩
    · rcases List.mem_append.mp hq with h | h
      · exact hone q h
      · rw [List.mem_singleton.mp h]; exact hy1
    · rw [List.length_append, List.length_singleton, Nat.add_mul, Nat.one_mul]
      omega
  · rintro acc ρ ⟨n', hlen, hone, hn', rfl⟩
    have hl : acc.length = m := by simpa using hlen
    rw [hl] at hn'
    exact k acc n' hone hl hn'
section
variable {P : Program} {w : World} {K : PySem.W.Frag} {mg : Str → Option Value} {base : Heap} {f g : Addr} {fd gd : FuncData} {CB CC co PP PL : Addr}
-- law: slots 0 _law_script, 1 _law_stream, 2 _law_turn, 3 _law_things, 4 _law_k, 5 _law_odd, 6 _law_found, 7 _law_due, 8 _law_thing
abbrev s_law : Stmt := (top 68)
abbrev N_sc_law : List Str := ["_law_script", "_law_stream", "_law_turn", "_law_things", "_law_k", "_law_odd", "_law_found", "_law_due", "_law_thing"]
theorem sc_law : FnScope N_sc_law ["_law_script"] (defScope s_law) := ⟨rfl, rfl, rfl, by decide +kernel, rfl, by decide +kernel, by decide +kernel⟩
theorem law_rest (T : Tx K mg) (RE : Er K mg CB CC)
    (C_letters_of : CalX P w K mg base "letters_of" 8 ["body"] (spX K (mLetters CB))) (C_put_in : CalX P w K mg base "put_in" 8 ["body", "calls"] (spX K (mPutIn w CB CC)))
    (hmT : mg "_law_tried" = some (.ref g)) (FT : FnP K "_law_tried" "_law_tried" s_L_tried g gd) (bT : L2.Binds K gd ["_law_ask"] []) (TB : LamX.TabB base mg co PL) (hPP : PP ≠ PL)
    (C__law_word : Cal P w K mg base "_law_word" 3 ["_law_stream"] (spR (Strm (T2 PP PL)) K (mDrawn (T2 PP PL) 20 isWord))) (C__law_term : Cal P w K mg base "_law_term" 4 ["_law_stream"] (spR (Strm (T2 PP PL)) K (mDrawn (T2 PP PL) 25 isTmB)))
    (C__law_atom : Cal P w K mg base "_law_atom" 5 ["_law_stream"] (spR (Strm (T2 PP PL)) K (mDrawn (T2 PP PL) 200 isTmB))) (C__law_part : Cal P w K mg base "_law_part" 6 ["_law_stream"] (spR (Strm (T2 PP PL)) K (mDrawn (T2 PP PL) 210 isTmB)))
    (C__law_bodies : Cal P w K mg base "_law_bodies" 7 ["_law_stream"] (spR (Strm (T2 PP PL)) K (mDrawn (T2 PP PL) 700 isBody)))
    (C__law_looks_right : Cal P w K mg base "_law_looks_right" 11 ["_law_thing"] (spD K (wF tmd1 fun ds => .bl true)))
    (C__law_put_right : Cal P w K mg base "_law_put_right" 15 ["_law_stream", "_law_body"] (spR (Strm (T2 PP PL)) K (mPutRight (T2 PP PL))))
    (C__law_same : Cal P w K mg base "_law_same" 10 ["_law_found", "_law_due"] (spD K (mSame 9)))
    {A : Around} {outer : List Env} {s : Shared} {H F0 H0 : Hp} {Z0 : Addr → Prop} {E : XK} (hr : Room 17 (A.deeper (envOfC "law" (defScope s_law) s.heap.objs.size f (.ref co)))) :
    ∃ w' : WS (Strm (T2 PP PL)), DSs (bodyX P w K mg base N_sc_law "law" s_law f (.ref co) A outer s H E) ⟨K, Strm (T2 PP PL), H0, F0, Z0⟩ false ((defBody s_law).drop 1) w' ∧
      ∀ (Dk : DEnds (Strm (T2 PP PL))) (st L a0 : Addr), (∀ g', Dk.rt (.bl true) g') → w' Dk (mk9 st L a0 0 none none none none none none none) := by
  have tr : ∀ {params : Arguments} {body : Expr} {scope : Scope} {w' : WEX (Strm (T2 PP PL))} {p lpos pos : Pos}, LamX.LamS (defScope s_law) scope → defaultsOf params (bodyX P w K mg base N_sc_law "law" s_law f (.ref co) A outer s H E).env = ([], []) →
      (∀ (q : Str) (cl : List (Str × Addr)) (pm cv ctv : Value), bindArgs (PySem.W.kla_fn "<lambda>" q params body scope cl pm cv ctv) ⟨[], []⟩ = pure []) →
      (∀ (A' : Around) (outer' : List Env) (s' : Shared) (H' : Hp) (E' : XK) (f' c' : Addr), Room 15 (A'.deeper (LamX.lamEnv (bodyX P w K mg base N_sc_law "law" s_law f (.ref co) A outer s H E) scope s'.heap.objs.size f' c')) →
        DX (LamX.lamCx (bodyX P w K mg base N_sc_law "law" s_law f (.ref co) A outer s H E) A' outer' s' H' E' scope f' c') ⟨K, Strm (T2 PP PL), H0, F0, Z0⟩ body w' E') →
      DE (bodyX P w K mg base N_sc_law "law" s_law f (.ref co) A outer s H E) ⟨K, Strm (T2 PP PL), H0, F0, Z0⟩ false false (.Call (.Name "_law_tried" p) [.Lambda params body scope lpos] [] pos) (wTold (clsL CB CC) "told" w') := fun L nodef hbind hbody =>
    de_told (n := 0) (k := 15) (cs := clsL CB CC) (T := T2 PP PL) hmT FT bT sc_L_tried rfl (by first | exact .inl rfl | exact .inr (.inl rfl) | exact .inr (.inr rfl)) rfl (fun cdg s H => clauses_L RE cdg s H) (fun f => rfl) (fun k hk => by
      simp only [clsL, List.mem_cons, List.not_mem_nil, or_false] at hk
      rcases hk with rfl | rfl <;> (show 1 < 2; decide)) (fun k hk k' hk' => RE.kd k.C (by
      simp only [clsL, List.mem_cons, List.not_mem_nil, or_false] at hk
      rcases hk with rfl | rfl <;> simp) k'.C (by
      simp only [clsL, List.mem_cons, List.not_mem_nil, or_false] at hk'
      rcases hk' with rfl | rfl <;> simp)) TB rfl (List.mem_cons_of_mem _ List.mem_cons_self) (fun p hp e => by
        rcases List.mem_cons.mp hp with rfl | hp
        · exact absurd e hPP
        · rw [List.mem_singleton.mp hp]; rfl) (lam_strm _) hr L nodef hbind hbody
  refine ⟨_, 
(ds_cons (ds_for (di_rng T.b_range de_int) (dg_name (i := 2) sc_law.nd)
  (ds_cons (ds_new (i := 3) sc_law.nd (fe_addL (FE.de (fe_lc (own := [("_law_k", 4)]) sc_law.nd (di_rng T.b_range de_int) (blkOk_by (own := [("_law_k", 4)]) (N := N_sc_law) (sc := defScope s_law) (by decide +kernel)) (fun _ _ _ _ _ => (dg_name (i := 4) sc_law.nd)) (fun _ _ _ _ _ => dts_nil) (fun _ _ _ _ _ => (de_callR C__law_word hr (da_cons (de_v (i := 1)) da_nil))))) (FE.de (fe_lc (own := [("_law_k", 4)]) sc_law.nd (di_rng T.b_range de_int) (blkOk_by (own := [("_law_k", 4)]) (N := N_sc_law) (sc := defScope s_law) (by decide +kernel)) (fun _ _ _ _ _ => (dg_name (i := 4) sc_law.nd)) (fun _ _ _ _ _ => dts_nil) (fun _ _ _ _ _ => (de_callR C__law_term hr (da_cons (de_v (i := 1)) da_nil)))))))
 (ds_cons (ds_ext (i := 3) (FE.de (fe_lc (own := [("_law_k", 4)]) sc_law.nd (di_rng T.b_range de_int) (blkOk_by (own := [("_law_k", 4)]) (N := N_sc_law) (sc := defScope s_law) (by decide +kernel)) (fun _ _ _ _ _ => (dg_name (i := 4) sc_law.nd)) (fun _ _ _ _ _ => dts_nil) (fun _ _ _ _ _ => (de_callR C__law_atom hr (da_cons (de_v (i := 1)) da_nil))))))
 (ds_cons (ds_ext (i := 3) (FE.de (fe_lc (own := [("_law_k", 4)]) sc_law.nd (di_rng T.b_range de_int) (blkOk_by (own := [("_law_k", 4)]) (N := N_sc_law) (sc := defScope s_law) (by decide +kernel)) (fun _ _ _ _ _ => (dg_name (i := 4) sc_law.nd)) (fun _ _ _ _ _ => dts_nil) (fun _ _ _ _ _ => (de_callR C__law_part hr (da_cons (de_v (i := 1)) da_nil))))))
 (ds_cons (ds_ext (i := 3) (FE.de (fe_lc (own := [("_law_k", 4)]) sc_law.nd (di_rng T.b_range de_int) (blkOk_by (own := [("_law_k", 4)]) (N := N_sc_law) (sc := defScope s_law) (by decide +kernel)) (fun _ _ _ _ _ => (dg_name (i := 4) sc_law.nd)) (fun _ _ _ _ _ => dts_nil) (fun _ _ _ _ _ => (de_callR C__law_bodies hr (da_cons (de_v (i := 1)) da_nil))))))
 (ds_cons (ds_ext (i := 3) (FE.de (fe_lst (da_cons (de_tup (da_cons (de_callR C__law_atom hr (da_cons (de_v (i := 1)) da_nil)) (da_cons (de_callR C__law_bodies hr (da_cons (de_v (i := 1)) da_nil)) da_nil))) (da_cons (FE.de (fe_lst (da_cons (de_callR C__law_atom hr (da_cons (de_v (i := 1)) da_nil)) (da_cons (de_callR C__law_bodies hr (da_cons (de_v (i := 1)) da_nil)) (da_cons (de_tup da_nil) da_nil))))) da_nil)))))
 (ds_cons (ds_ext (i := 3) (FE.de (fe_lst (da_cons de_non (da_cons de_bl (da_cons de_int (da_cons (de_neg de_int) (da_cons (FE.de fe_d0) (da_cons (FE.de (fe_lst da_nil)) (da_cons (de_tup da_nil) (da_cons de_str (da_cons de_str (da_cons (de_tup (da_cons de_str da_nil)) da_nil)))))))))))))
 (ds_cons (ds_if (dt_not (dt_truth (de_all T.b_all (FE.de (fe_lc (own := [("_law_thing", 8)]) sc_law.nd (di_seq (de_o (i := 3))) (blkOk_by (own := [("_law_thing", 8)]) (N := N_sc_law) (sc := defScope s_law) (by decide +kernel)) (fun _ _ _ _ _ => (dg_name (i := 8) sc_law.nd)) (fun _ _ _ _ _ => dts_nil) (fun _ _ _ _ _ => (de_call C__law_looks_right hr (da_cons (de_v (i := 8)) da_nil)))))))) (ds_one (ds_ret de_bl)) ds_nil)
 (ds_cons (ds_for (di_rng T.b_range de_int) (dg_name (i := 4) sc_law.nd)
  (ds_one (ds_if (dt_not (dt_truth (de_callR C__law_put_right hr (da_cons (de_v (i := 1)) (da_cons (de_callR C__law_bodies hr (da_cons (de_v (i := 1)) da_nil)) da_nil))))) (ds_one (ds_ret de_bl)) ds_nil)))
 (ds_one (ds_for (di_seq (de_tup (da_cons de_non (da_cons de_int (da_cons de_str (da_cons (FE.de (fe_d0M (w := w))) (da_cons de_bl da_nil))))))) (dg_name (i := 5) sc_law.nd)
  (ds_cons (ds_new (i := 6) sc_law.nd (fe_lst (da_cons (tr (LamX.lamS_by (by decide +kernel)) rfl (fun _ _ _ _ _ => rfl) (fun A outer s H E f c' room => (dx_call C_letters_of pass_lam room (da_cons (de_v (i := 5)) da_nil)))) da_nil)))
 (ds_cons (ds_app (i := 6) (tr (LamX.lamS_by (by decide +kernel)) rfl (fun _ _ _ _ _ => rfl) (fun A outer s H E f c' room => (dx_call C_put_in pass_lam room (da_cons (de_v (i := 5)) (da_cons de_non da_nil))))))
 (ds_cons (ds_app (i := 6) (tr (LamX.lamS_by (by decide +kernel)) rfl (fun _ _ _ _ _ => rfl) (fun A outer s H E f c' room => (dx_call C_put_in pass_lam room (da_cons (FE.de (fe_lst (da_cons (de_tup (da_cons de_str (da_cons de_str da_nil))) da_nil))) (da_cons (de_v (i := 5)) da_nil))))))
 (ds_cons (ds_set (i := 7) sc_law.nd (FE.de (fe_lst (da_cons (de_tup (da_cons de_str (da_cons de_int da_nil))) (da_cons (de_tup (da_cons de_str (da_cons de_int da_nil))) (da_cons (de_if (dt_cm (c_eqE hr) (de_v (i := 5)) (FE.de fe_d0)) (de_tup (da_cons de_str (da_cons (FE.de (fe_lst (da_cons (de_tup (da_cons de_str (da_cons de_str da_nil))) da_nil))) da_nil))) (de_tup (da_cons de_str (da_cons (de_v (i := 5)) da_nil)))) da_nil))))))
 (ds_one (ds_if (dt_not (dt_truth (de_call C__law_same hr (da_cons (de_o (i := 6)) (da_cons (de_v (i := 7)) da_nil))))) (ds_one (ds_ret de_bl)) ds_nil)))))))))))))))))
 (ds_one (ds_ret de_bl)))
  , fun Dk st L a0 k => ?_⟩
  let I : Nat → DS (Strm (T2 PP PL)) → Prop := fun b ρ => ∃ n x2 x3 x4 x5 x6 x7, n ≤ b ∧ (∀ d, x4 ≠ some (.own d)) ∧ ρ = mk9 st L a0 n x2 x3 x4 x5 x6 x7 none
  refine ⟨3, rfl, by decide, by decide, ?_⟩
  have hlr : (rngD 0 (3 : Int).toNat).length = 3 := by decide
  refine forGo_ind (fun rest ρ => I (30000 - 10000 * rest.length) ρ ∧ rest.length ≤ 3) ?_ ?_ _ _ ⟨⟨0, none, none, none, none, none, none, Nat.zero_le _, (fun _ h => by cases h), rfl⟩, by rw [hlr]; decide⟩
  · rintro d rest N ρ hN ⟨⟨n, x2, x3, x4, x5, x6, x7, hn, h4, rfl⟩, hl⟩
    rw [List.length_cons] at hl hn
    refine gNm_i (seq_i (new_i (op_i ?_)))
    refine wLc_drawn (m := 6) (N := 20) (n := n) h4 (by decide) (by omega) fun ws n1 hws hwl hn1 => ?_
    refine wLc_drawn  (m := 4) (N := 25) (n := n1) h4 (by decide) (by omega) fun ts n2 hts htl hn2 => ?_
    refine ⟨.lst (ws ++ ts), (by show (if ws.length + ts.length ≤ 100000 then _ else _) = _; rw [if_pos (by omega)]), ?_⟩
    refine seq_i (ext_i ⟨_, rfl⟩ ?_)
    refine wLc_drawn  (m := 5) (N := 200) (n := n2) h4 (by decide) (by omega) fun as n3 has hal hn3 => ?_
    refine ⟨_, _, rfl, rfl, (by simp only [List.length_append]; omega), ?_⟩
    refine seq_i (ext_i ⟨_, rfl⟩ ?_)
    refine wLc_drawn  (m := 5) (N := 210) (n := n3) h4 (by decide) (by omega) fun ps n4 hps hpl hn4 => ?_
    refine ⟨_, _, rfl, rfl, (by simp only [List.length_append]; omega), ?_⟩
    refine seq_i (ext_i ⟨_, rfl⟩ ?_)
    refine wLc_drawn  (m := 3) (N := 700) (n := n4) h4 (by decide) (by omega) fun bs n5 hbs hbl hn5 => ?_
    refine ⟨_, _, rfl, rfl, (by simp only [List.length_append]; omega), ?_⟩
    refine seq_i (ext_i ⟨_, rfl⟩ ?_)
    refine ⟨_, rfl, rfl, (by show n5 + 200 ≤ 900000; omega), fun y1 c1 hy1 hc1 => ?_⟩
    have hc1 : c1 ≤ n5 + 200 := hc1
    refine ⟨_, rfl, rfl, (by show c1 + 700 ≤ 900000; omega), fun y2 c2 hy2 hc2 => ?_⟩
    have hc2 : c2 ≤ c1 + 700 := hc2
    refine ⟨by simp, _, rfl, rfl, (by show c2 + 200 ≤ 900000; omega), fun y3 c3 hy3 hc3 => ?_⟩
    have hc3 : c3 ≤ c2 + 200 := hc3
    refine ⟨_, rfl, rfl, (by show c3 + 700 ≤ 900000; omega), fun y4 c4 hy4 hc4 => ?_⟩
    have hc4 : c4 ≤ c3 + 700 := hc4
    refine ⟨by simp, by simp, by simp, _, _, rfl, rfl, (by simp only [List.length_append, List.length_cons, List.length_nil]; omega), ?_⟩
    refine seq_i (ext_i ⟨_, rfl⟩ ?_)
    refine ⟨_, rfl, by simp, by simp, by simp, by simp, _, _, rfl, rfl, (by simp only [List.length_append, List.length_cons, List.length_nil]; omega), ?_⟩
    dsimp only
    refine seq_i ?_
    let ls : List D := ws ++ ts ++ as ++ ps ++ bs ++ [.tup [y1, y2], .lst [y3, y4, .tup []]] ++ [.non, .bl true, .int 5, .int (-1), .dct [] [], .lst [], .tup [], .str "X", .str "p", .tup [.str "p"]]
    have hlz : ls.length ≤ 100 := by simp only [ls, List.length_append, List.length_cons, List.length_nil]; omega
    have hls : ∀ x ∈ ls, tmB x = true := fun x hx => by
      simp only [ls, List.mem_append, List.mem_cons, List.not_mem_nil, or_false] at hx
      rcases hx with (((((h | h) | h) | h) | h) | h) | h
      · obtain ⟨z, rfl, hz⟩ := hws x h
        rw [tmB_str]
        exact decide_eq_true (by omega)
      · exact hts x h
      · exact has x h
      · exact hps x h
      · exact (hbs x h).1
      · have t1 : tmB y1 = true := hy1
        have t3 : tmB y3 = true := hy3
        rcases h with rfl | rfl <;> simp [t1, t3, hy2.1, hy4.1]
      · rcases h with rfl | rfl | rfl | rfl | rfl | rfl | rfl | rfl | rfl | rfl <;> first | decide +kernel | simp
    show sIf _ _ _ _ (mk9 st L a0 c4 (some (.fz d)) (some (.own (.lst ls))) x4 x5 x6 x7 none)
    clear_value ls
    refine if_i ?_
    refine (bnot_i (truth_i (un_i ?_)))
    refine wLc_via (ds := ls) (ρ' := mk9 st L a0 c4 (some (.fz d)) (some (.fz (.lst ls))) x4 x5 x6 x7 none) (fun K k => .inr ⟨_, rfl, _, rfl, k⟩) _ ?_
    refine wLc_map (f := fun _ => .bl true) (ds := ls) (fun K k => k) (by omega) rfl (fun _ h => by cases h) (fun x hx K k => ⟨_, rfl, ⟨_, rfl, hls x hx⟩, k⟩) _ ?_
    refine ⟨_, all_true (fun a ha => by obtain ⟨_, _, rfl⟩ := List.mem_map.mp ha; rfl), true, rfl, itF ?_⟩
    dsimp only [sNext]
    refine seq_i ?_
    refine ⟨4, rfl, by decide, by decide, ?_⟩
    have hl4 : (rngD 0 (4 : Int).toNat).length = 4 := by decide
    refine forGo_ind (fun rest ρ => ∃ n' x4', n' + 720 * rest.length ≤ c4 + 2880 ∧ (∀ d, x4' ≠ some (.own d)) ∧ ρ = mk9 st L a0 n' (some (.fz d)) (some (.fz (.lst ls))) x4' x5 x6 x7 none) ?_ ?_ _ _ ⟨c4, x4, by rw [hl4]; omega, h4, rfl⟩
    · rintro e rest' N' ρ hN' ⟨n', x4', hn', h4', rfl⟩
      rw [List.length_cons] at hn'
      refine ⟨_, rfl, _, rfl, rfl, (by show n' + 700 ≤ 900000; omega), fun b c hb hc => ?_⟩
      have hc : c ≤ n' + 700 := hc
      refine ⟨b, rfl, hb, (by show c + 20 ≤ 900000; omega), fun c' hc' => ?_⟩
      have hc' : c' ≤ c + 20 := hc'
      exact ⟨true, rfl, itF (hN' _ ⟨c', some (.fz e), by omega, (fun _ h => by cases h), rfl⟩)⟩
    · rintro ρ ⟨n', x4', hn', h4', rfl⟩
      rw [List.length_nil] at hn'
      refine ⟨by simp, _, rfl, ?_⟩
      refine forGo_ind (fun rest ρ => (∀ y ∈ rest, okOdd w y) ∧ ∃ x5 x6 x7, ρ = mk9 st L a0 n' (some (.fz d)) (some (.fz (.lst ls))) x4' x5 x6 x7 none) ?_ ?_ _ _ ⟨odd_all w, x5, x6, x7, rfl⟩
      · rintro x rest' N' ρ hN' ⟨ho, x5', x6', x7', rfl⟩
        have nx : ∀ x5 x6 x7, N' (mk9 st L a0 n' (some (.fz d)) (some (.fz (.lst ls))) x4' x5 x6 x7 none) := fun x5 x6 x7 => hN' _ ⟨fun y hy => ho y (List.mem_cons_of_mem _ hy), x5, x6, x7, rfl⟩
        obtain ⟨hs, hin, hcase⟩ := ho x List.mem_cons_self
        refine ⟨_, rfl, x, rfl, hin, bodyRes_no hs (cl_body ?_)⟩
        refine ⟨by simp, ⟨_, rfl⟩, _, rfl, x, .non, rfl, hin, bodyRes_no hs (cl_body ⟨_, rfl, by simp, ?_⟩)⟩
        refine ⟨⟨_, rfl⟩, by simp, by simp, _, rfl, bdOne, x, rfl, one_in, bodyRes_good rfl one_part ?_⟩
        rcases hcase with ⟨rfl, he⟩ | ⟨hne, hm, he, hz⟩
        · refine .inl ⟨[], rfl, ⟨by simp, fun p h => nomatch h⟩, ?_⟩
          have hf0 : List.find? badRow ([] : Rows) = none := rfl
          rw [hf0]
          refine ⟨_, rfl, by simp, ?_⟩
          refine ⟨by simp, by simp, _, rfl, _, he, true, rfl, itT ?_⟩
          let found : D := .lst [.tup [.str "body", .int 0], .tup [.str "body", .int 0], .tup [.str "told", .lst [.tup [.str "p", .str "X"]]]]
          have szf : sz 4 found := sz_lst (by simp) fun y hy => by
            simp only [List.mem_cons, List.not_mem_nil, or_false] at hy
            rcases hy with rfl | rfl | rfl
            · exact sz_le (sz_two (sz_int _)) (by omega)
            · exact sz_le (sz_two (sz_int _)) (by omega)
            · exact sz_two (sz_lst (by simp) fun y hy => by
                rw [List.mem_singleton.mp hy]
                exact sz_two (sz_str _))
          refine ⟨by simp, by simp, by simp, by simp, .inr ⟨_, rfl, _, rfl, found, ?_, by have := szf.1; omega, szf.2.1, szf.2.2, true, rfl, itF (nx _ _ _)⟩⟩
          rfl
        · refine .inr ⟨hne, hm, cl_calls RE.bc ?_⟩
          refine ⟨_, rfl, by simp, ?_⟩
          refine ⟨by simp, by simp, _, rfl, _, he, false, rfl, itF ?_⟩
          let found : D := .lst [.tup [.str "body", .int 0], .tup [.str "body", .int 0], .tup [.str "calls", x]]
          have szf : sz 2 found := sz_lst (by simp) fun y hy => by
            simp only [List.mem_cons, List.not_mem_nil, or_false] at hy
            rcases hy with rfl | rfl | rfl
            · exact sz_two (sz_int _)
            · exact sz_two (sz_int _)
            · exact sz_two hz
          exact ⟨_, rfl, by simp, by simp, .inr ⟨_, rfl, _, rfl, found, rfl, by have := szf.1; omega, szf.2.1, szf.2.2, true, rfl, itF (nx _ _ _)⟩⟩
      · rintro ρ ⟨_, x5', x6', x7', rfl⟩
        exact hN _ ⟨⟨n', _, _, x4', x5', x6', x7', by omega, h4', rfl⟩, by omega⟩
  · rintro ρ ⟨⟨n, x2, x3, x4, x5, x6, x7, hn, h4, rfl⟩, hl⟩
    exact k _
end
end K01

set_option Elab.async false
set_option linter.all false
set_option maxRecDepth 100000
set_option maxHeartbeats 8000000
namespace K01
open PySem PySem.Spec PyProof.Rows L2 Q
/-- the tuples that lie there -/
def tupF (H : Hp) : Hp := fun b => match H b with
  | some (.tup xs) => some (.tup xs)
  | _ => none
theorem tupF_some {H : Hp} {b : Addr} {o : HO} (h : tupF H b = some o) : H b = some o ∧ ∃ xs, o = .tup xs := by
  unfold tupF at h
  split at h
  · rename_i xs e
    cases h
    exact ⟨e, xs, rfl⟩
  · cases h
theorem tupF_at {H : Hp} {b : Addr} {xs : List V} (h : H b = some (.tup xs)) : tupF H b = some (.tup xs) := by
  unfold tupF
  rw [h]
theorem tupF_no {H : Hp} {b : Addr} (h : ∀ xs, H b ≠ some (.tup xs)) : tupF H b = none := by
  cases e : tupF H b with
  | none => rfl
  | some o =>
    obtain ⟨h1, xs, rfl⟩ := tupF_some e
    exact absurd h1 (h xs)
/-- the law, its tables empty -/
def spLaw (K : PySem.W.Frag) (PP PL : Addr) : Sp := fun vs H Q _ => ∃ (a : Addr) (ns : List Int), vs = [.ref a] ∧ SqL K H a (ns.map V.int) ∧ ns.length ≤ 63 ∧ H PP = some (.tbl #[]) ∧ H PL = some (.tbl #[]) ∧ ∀ H', Q (.bl true) H'
abbrev slS (a0 st : Addr) : List (Option DV) := [some (.fz (.raw (.ref a0))), some (.fz (.raw (.ref st))), none, none, none, none, none, none, none]
theorem slS_own {a0 st : Addr} (i : Nat) (d : D) (h : (slS a0 st)[i]? = some (some (.own d))) : False := by
  have m := List.mem_of_getElem? h
  simp at m
section
variable {P : Program} {w : World} {K : PySem.W.Frag} {mg : Str → Option Value} {base : Heap} {f g : Addr} {fd gd : FuncData} {CB CC co PP PL : Addr}
theorem ok_law (F : FnP K "law" "law" s_law f fd) (hco : fd.code = .ref co) (T : Tx K mg) (RE : Er K mg CB CC)
    (C_letters_of : CalX P w K mg base "letters_of" 8 ["body"] (spX K (mLetters CB))) (C_put_in : CalX P w K mg base "put_in" 8 ["body", "calls"] (spX K (mPutIn w CB CC)))
    (hmT : mg "_law_tried" = some (.ref g)) (FT : FnP K "_law_tried" "_law_tried" s_L_tried g gd) (bT : L2.Binds K gd ["_law_ask"] []) (TB : LamX.TabB base mg co PL) (hPP : PP ≠ PL)
    (C__law_start : Cal P w K mg base "_law_start" 1 ["_law_script"] (spStart K))
    (C__law_word : Cal P w K mg base "_law_word" 3 ["_law_stream"] (spR (Strm (T2 PP PL)) K (mDrawn (T2 PP PL) 20 isWord))) (C__law_term : Cal P w K mg base "_law_term" 4 ["_law_stream"] (spR (Strm (T2 PP PL)) K (mDrawn (T2 PP PL) 25 isTmB)))
    (C__law_atom : Cal P w K mg base "_law_atom" 5 ["_law_stream"] (spR (Strm (T2 PP PL)) K (mDrawn (T2 PP PL) 200 isTmB))) (C__law_part : Cal P w K mg base "_law_part" 6 ["_law_stream"] (spR (Strm (T2 PP PL)) K (mDrawn (T2 PP PL) 210 isTmB)))
    (C__law_bodies : Cal P w K mg base "_law_bodies" 7 ["_law_stream"] (spR (Strm (T2 PP PL)) K (mDrawn (T2 PP PL) 700 isBody)))
    (C__law_looks_right : Cal P w K mg base "_law_looks_right" 11 ["_law_thing"] (spD K (wF tmd1 fun ds => .bl true)))
    (C__law_put_right : Cal P w K mg base "_law_put_right" 15 ["_law_stream", "_law_body"] (spR (Strm (T2 PP PL)) K (mPutRight (T2 PP PL))))
    (C__law_same : Cal P w K mg base "_law_same" 10 ["_law_found", "_law_due"] (spD K (mSame 9))) :
    FnOk P w K mg base CX0 18 f fd ["_law_script"] (spLaw K PP PL) := by
  obtain ⟨oc, od, dV, kV, doc, pm, an, cdv, ct, osl, rfl, lk, hcd, _, _⟩ := F.ex
  have hco : cdv = .ref co := hco
  subst hco
  refine fn_of lk hcd sc_law (fun vs H Q E h => ?_) fun A outer s H vs QQ E hr h => ?_
  · obtain ⟨_, _, rfl, _⟩ := h
    rfl
  · obtain ⟨a, ns, rfl, hS, hl, hT1, hT2, k⟩ := h
    let Z0 : Addr → Prop := fun b => b = PP ∨ b = PL
    obtain ⟨w', hw, run⟩ := law_rest (co := co) (f := f) (H0 := H) (F0 := tupF H) (Z0 := Z0) T RE C_letters_of C_put_in hmT FT bT TB hPP C__law_word C__law_term C__law_atom C__law_part C__law_bodies C__law_looks_right C__law_put_right C__law_same (A := A) (outer := outer) (s := s) (H := H) (E := E) hr
    let c : Q.Ctx := ⟨K, Strm (T2 PP PL), H, tupF H, Z0⟩
    refine ⟨_, PSs.nox (pss_cons (ps_set (i := 1) sc_law.nd rfl (by first | exact Or.inl rfl | exact Or.inr rfl) (pe_cal C__law_start hr (pa_cons (pv 0) pa_nil))) hw.ps), ?_⟩
    refine ⟨_, rfl, a, ns, rfl, hS, hl, fun H' st L e nnt sm hst hL => ?_⟩
    have t1 : H' PP = some (.tbl #[]) := (dat_sub (e _ _ hT1)).1
    have t2 : H' PL = some (.tbl #[]) := (dat_sub (e _ _ hT2)).1
    have keep : ∀ b o, H b = some o → H' b = some o := fun b o q => (dat_sub (e _ _ q)).1
    obtain ⟨ne, cell, n0, seed, cs, h1, h2, _⟩ := id sm
    have okTb : ∀ p ∈ T2 PP PL, H' p.1 = some (.tbl #[]) := fun p hp => by
      rcases List.mem_cons.mp hp with rfl | hp
      · exact t1
      · rw [List.mem_singleton.mp hp]; exact t2
    have ok : SmOk (T2 PP PL) ⟨st, L, 0⟩ (fun b => Z0 b ∨ b = st ∨ b = L) H' := by
      refine ⟨sm, .inr (.inl rfl), .inr (.inr rfl), fun p hp => ⟨#[], okTb p hp, by simp [TriplesOk], fun pos cv am => by simp [codeAmong] at am⟩, fun p hp => ?_, fun p hp ps pos d q am => ?_, fun b hb => ?_⟩
      · rcases List.mem_cons.mp hp with rfl | hp
        · exact .inl (.inl rfl)
        · rw [List.mem_singleton.mp hp]; exact .inl (.inr rfl)
      · have := okTb p hp
        rw [q] at this
        cases this
        simp [codeAmong] at am
      · rcases hb with (rfl | rfl) | rfl | rfl
        · rw [t1]; exact fun z => by cases z
        · rw [t2]; exact fun z => by cases z
        · rw [h1]; exact fun z => by cases z
        · rw [h2]; exact fun z => by cases z
    have noOwn : ∀ σ i b, ¬ Owns σ (slS a st) i b := fun σ i b ⟨_, d, q⟩ => slS_own i d q
    have zF : ∀ b, (Z0 b ∨ b = st ∨ b = L) → tupF H b = none := fun b hb => tupF_no fun xs q => by
      rcases hb with (rfl | rfl) | rfl | rfl
      · rw [hT1] at q
        cases q
      · rw [hT2] at q
        cases q
      · rw [hst] at q; cases q
      · rw [hL] at q; cases q
    have S : Q.St c (tupF H) [] ((L2.start N_sc_law [.ref a]).set 1 (some (.ref st))) ⟨(⟨st, L, 0⟩ : SG), slS a st⟩ H' := by
      refine ⟨rfl, (fun b o q => keep b o (tupF_some q).1), (fun b xs q => tupF_at (nnt b xs q)), Same.refl _, fun b n e => absurd e n, fun b o q _ => keep b o q, fun b n => ?_, fun i => ?_, fun i b h => absurd h (noOwn _ i b), fun i j b h => absurd h (noOwn _ i b), (fun b h => by cases h), ⟨_, ok, zF, fun b hb n => ?_, (fun b h => by cases h), fun i b h => absurd h (noOwn _ i b)⟩⟩
      · cases q : H b with
        | none => exact absurd q n
        | some o => rw [keep b o q]; exact fun z => by cases z
      · match i with
        | 0 => exact ⟨.ref a, rfl, .raw _⟩
        | 1 => exact ⟨.ref st, rfl, .raw _⟩
        | 2 => trivial
        | 3 => trivial
        | 4 => trivial
        | 5 => trivial
        | 6 => trivial
        | 7 => trivial
        | 8 => trivial
        | i + 9 => trivial
      · rcases hb with hb | rfl | rfl
        · exact absurd hb n
        · exact hst
        · exact hL
    refine ⟨_, _, { nx := fun _ => False, rt := fun d _ => d = .bl true }, S, run _ st L a (fun _ => rfl), (fun _ _ _ _ h => h.elim), (fun _ _ _ _ h => h.elim), (fun _ _ _ _ h => h.elim), fun d g hd v F' H2 _ rp => ?_⟩
    have hd : d = .bl true := hd
    subst hd
    cases rp
    exact k _
end
end K01

set_option Elab.async false
set_option linter.all false
set_option maxRecDepth 100000
set_option maxHeartbeats 4000000
namespace K01
open PySem PySem.Spec PyProof.Rows L2 Q
/-! the inits of the errors -/
def spEx1 (C : Addr) (m : Str) : Sp := fun vs H Q _ => ∃ a v, vs = [.ref a, v] ∧ H a = some (exo a C none) ∧ ∀ d, H d = none → d ≠ a → Q .non (upd (upd H d (exd d [(m, v)])) a (exo a C (some d)))
section
variable {P : Program} {w : World} {K : PySem.W.Frag} {mg : Str → Option Value} {base : Heap} {f : Addr} {fd : FuncData} {C : Addr}
theorem two_upd {H : Hp} {d a : Addr} {x y z : HO} (nd : d ≠ a) : upd (upd (upd H d x) a z) d y = upd (upd H d y) a z := by
  funext b
  by_cases e : b = d
  · rw [e, upd_same, upd_ne nd, upd_same]
  · rw [upd_ne e]
    by_cases i : b = a
    · rw [i, upd_same, upd_same]
    · rw [upd_ne i, upd_ne i, upd_ne e, upd_ne e]
-- BadBody.__init__: slots 0 self, 1 index
abbrev s_BadBody___init__ : Stmt := (inClass (top 2) 0)
abbrev N_sc_BadBody___init__ : List Str := ["self", "index"]
theorem sc_BadBody___init__ : FnScope N_sc_BadBody___init__ ["self", "index"] (defScope s_BadBody___init__) := ⟨rfl, rfl, rfl, by decide +kernel, rfl, by decide +kernel, by decide +kernel⟩
theorem ok_BadBody_init (F : FnP K "__init__" "BadBody.__init__" s_BadBody___init__ f fd) (O : OexC K C) (n1 : PySem.W.findIn K (.ref C) "index" = some none) : FnOk P w K mg base CX0 1 f fd ["self", "index"] (spEx1 C "index") := by
  refine F.ok sc_BadBody___init__ (fun vs H Q E h => ?_) (fun cdv A outer s H vs Q E hr h => ?_)
  · obtain ⟨_, _, rfl, _⟩ := h
    rfl
  · obtain ⟨a, v, rfl, ha, k⟩ := h
    exact ⟨_, PSs.nox (pss_one (ps_ost (pv 0) (pv 1))), _, rfl, _, rfl, a, C, rfl, O, n1, .inl ⟨ha, fun d hd nd => k d hd nd⟩⟩
-- BadCalls.__init__: slots 0 self, 1 thing
abbrev s_BadCalls___init__ : Stmt := (inClass (top 3) 0)
abbrev N_sc_BadCalls___init__ : List Str := ["self", "thing"]
theorem sc_BadCalls___init__ : FnScope N_sc_BadCalls___init__ ["self", "thing"] (defScope s_BadCalls___init__) := ⟨rfl, rfl, rfl, by decide +kernel, rfl, by decide +kernel, by decide +kernel⟩
theorem ok_BadCalls_init (F : FnP K "__init__" "BadCalls.__init__" s_BadCalls___init__ f fd) (O : OexC K C) (n1 : PySem.W.findIn K (.ref C) "thing" = some none) : FnOk P w K mg base CX0 1 f fd ["self", "thing"] (spEx1 C "thing") := by
  refine F.ok sc_BadCalls___init__ (fun vs H Q E h => ?_) (fun cdv A outer s H vs Q E hr h => ?_)
  · obtain ⟨_, _, rfl, _⟩ := h
    rfl
  · obtain ⟨a, v, rfl, ha, k⟩ := h
    exact ⟨_, PSs.nox (pss_one (ps_ost (pv 0) (pv 1))), _, rfl, _, rfl, a, C, rfl, O, n1, .inl ⟨ha, fun d hd nd => k d hd nd⟩⟩
theorem ex1 {x m : Str} (O : OexC K C) (hm : mg x = some (.ref C)) (h1 : PySem.W.findIn K (.ref C) "__init__" = some (some (.ref f))) (h2 : PySem.W.typeIn K (.ref f) = some (.type "function")) (G : FnOk P w K mg base CX0 1 f fd ["self", m] (spEx1 C m)) (hb : Binds K fd ["self", m] []) : ExCl P w K mg base x C 1 [m] :=
  ⟨O, hm, f, fd, _, _, h1, h2, G, hb, fun a us H Q hl ha k => by
    match us, hl with
    | [v], _ => exact ⟨a, v, rfl, ha, k⟩⟩
end
end K01

set_option Elab.async false
set_option linter.all false
set_option maxRecDepth 100000
set_option maxHeartbeats 4000000
namespace K01
open PySem PySem.Spec PyProof.Rows L2 Q
/-! facts of the top, by names -/
theorem gld_str {K : PySem.W.Frag} {mg : Str → Option Value} {x z : Str} (h : ∃ t, mg x = some (.str z t)) : GlD K mg x (.str z) := by
  obtain ⟨t, e⟩ := h
  exact ⟨_, .str z, e, ⟨t, rfl⟩, fun F => .str z⟩
theorem gld_int {K : PySem.W.Frag} {mg : Str → Option Value} {x : Str} {i : Int} (h : ∃ t, mg x = some (.int i t)) : GlD K mg x (.int i) := by
  obtain ⟨t, e⟩ := h
  exact ⟨_, .int i, e, ⟨t, rfl⟩, fun F => .int i⟩
theorem dp_strs {K : PySem.W.Frag} {H : Hp} : ∀ zs : List Str, DpAll K H (zs.map V.str) (zs.map PyData.str)
  | [] => .nil
  | z :: zs => .cons (.str z) (dp_strs zs)
theorem pyDs_map {α : Type} {f : α → D} {g : α → PyData} (h : ∀ a, pyD (f a) = some (g a)) : ∀ as : List α, pyDs (as.map f) = some (as.map g)
  | [] => rfl
  | a :: as => by rw [List.map_cons, pyDs, h, pyDs_map h as]; rfl
theorem gcs {K : PySem.W.Frag} {mg : Str → Option Value} {x : Str} {a : Addr} {zs : List Str} (e : mg x = some (.ref a)) (h : ∀ H, SqT K H a (zs.map V.str)) : CsD K mg x (zs.map .str) :=
  ⟨a, zs.map PyData.str, e, fun H => .tup (h H) (dp_strs zs), pyDs_map (fun _ => rfl) zs⟩
/-- an error class, as it lies there -/
def errB (K : PySem.W.Frag) (C : Addr) : Bool := (match K.lookup C with
  | some ⟨.type k, _, .cls d, sl⟩ => decide (k = "type") && (match d.mro, sl.toList with
    | .ref C1 :: up, [_, _, _, _, some (.builtin mk), _] => decide (C1 = C) && (decide (mk = "ValueError.__new__") && (!d.hasDel && (d.hasDict && PySem.HandSPX.refsVE up)))
    | _, _ => false)
  | _ => false) && (decide (PySem.W.findIn K (.ref C) "__setattr__" = some (some (.builtin "object.__setattr__"))) && (decide (PySem.W.subIn K (.ref C) (.type "BaseException") = some true) && (decide (PySem.W.typeIn K (.ref C) = some (.type "type")) && PySem.W.keepIn K (.ref C))))
theorem errB_ok {K : PySem.W.Frag} {C : Addr} (b : errB K C = true) : OexC K C := by
  obtain ⟨b1, b⟩ := Bool.and_eq_true_iff.mp b
  obtain ⟨b2, b⟩ := Bool.and_eq_true_iff.mp b
  obtain ⟨b3, b⟩ := Bool.and_eq_true_iff.mp b
  obtain ⟨b4, b5⟩ := Bool.and_eq_true_iff.mp b
  refine ⟨?_, of_decide_eq_true b2, of_decide_eq_true b3, of_decide_eq_true b4, b5⟩
  split at b1
  · rename_i k dd d sl at_
    obtain ⟨e1, b1⟩ := Bool.and_eq_true_iff.mp b1
    have e1 := of_decide_eq_true e1
    subst e1
    split at b1
    · rename_i C1 up k0 k1 k2 k3 mk k5 hm hs
      simp only [Bool.and_eq_true, decide_eq_true_eq, Bool.not_eq_true'] at b1
      obtain ⟨_, rfl, rfl, hdel, hdict, hv⟩ := b1
      obtain ⟨nm, bs, mro, ns, qn, hd, sn, sub, ab, col, del⟩ := d
      dsimp only at hm hdel hdict
      subst hm hdel hdict
      have hsl : sl = #[k0, k1, k2, k3, some (.builtin "ValueError.__new__"), k5] := by
        obtain ⟨l⟩ := sl
        simp only at hs
        rw [hs]
      subst hsl
      exact ⟨nm, qn, ns, bs, up, sn, sub, ab, col, dd, k0, k1, k2, k3, k5, at_, hv⟩
    · cases b1
  · cases b1
def allTy : List Ty := [.non, .bool, .int, .str, .list, .tuple, .dict]
theorem allTy_mem (t : Ty) : t ∈ allTy := by cases t <;> decide

/-- what more one wants of the classes, the tables and the tuples -/
def extra (K : PySem.W.Frag) : Bool := (He.tupB K "BARRED_NAMES" [.str "not", .str "unlike", .str "if"] && (errB K (He.ga K "BadBody") && (errB K (He.ga K "BadCalls") && (xfB K (He.ga K "BadBody") && (xfB K (He.ga K "BadCalls") && (decide ((He.ga K "BadBody") ≠ (He.ga K "BadCalls")) && (decide (PySem.W.findIn K (.ref (He.ga K "BadBody")) "__init__" = some (some (.ref (He.ma K (He.ga K "BadBody") "__init__")))) && (decide (PySem.W.typeIn K (.ref (He.ma K (He.ga K "BadBody") "__init__")) = some (.type "function")) && (decide (PySem.W.findIn K (.ref (He.ga K "BadCalls")) "__init__" = some (some (.ref (He.ma K (He.ga K "BadCalls") "__init__")))) && (decide (PySem.W.typeIn K (.ref (He.ma K (He.ga K "BadCalls") "__init__")) = some (.type "function")) && decide ((He.cT K ("_law_put_right", none)).2 ≠ (He.cT K ("law", none)).2)))))))))))
def d_BadBody___init__ : He.DefD := ⟨("BadBody", some "__init__"), "__init__", "BadBody.__init__", defArgs (inClass (top 2) 0), defBody (inClass (top 2) 0), defScope (inClass (top 2) 0), [], []⟩
def d_BadCalls___init__ : He.DefD := ⟨("BadCalls", some "__init__"), "__init__", "BadCalls.__init__", defArgs (inClass (top 3) 0), defBody (inClass (top 3) 0), defScope (inClass (top 3) 0), [], []⟩
def d_is_integer : He.DefD := ⟨("is_integer", none), "is_integer", "is_integer", defArgs (top 12), defBody (top 12), defScope (top 12), [], []⟩
def d_is_name : He.DefD := ⟨("is_name", none), "is_name", "is_name", defArgs (top 13), defBody (top 13), defScope (top 13), [], []⟩
def d_is_thing : He.DefD := ⟨("is_thing", none), "is_thing", "is_thing", defArgs (top 14), defBody (top 14), defScope (top 14), [], []⟩
def d_is_letter : He.DefD := ⟨("is_letter", none), "is_letter", "is_letter", defArgs (top 15), defBody (top 15), defScope (top 15), [], []⟩
def d_is_term : He.DefD := ⟨("is_term", none), "is_term", "is_term", defArgs (top 16), defBody (top 16), defScope (top 16), [], []⟩
def d__is_row : He.DefD := ⟨("_is_row", none), "_is_row", "_is_row", defArgs (top 19), defBody (top 19), defScope (top 19), [], []⟩
def d_as_atom : He.DefD := ⟨("as_atom", none), "as_atom", "as_atom", defArgs (top 20), defBody (top 20), defScope (top 20), [], []⟩
def d_as_fact : He.DefD := ⟨("as_fact", none), "as_fact", "as_fact", defArgs (top 21), defBody (top 21), defScope (top 21), [], []⟩
def d__as_not : He.DefD := ⟨("_as_not", none), "_as_not", "_as_not", defArgs (top 22), defBody (top 22), defScope (top 22), [], []⟩
def d__as_unlike : He.DefD := ⟨("_as_unlike", none), "_as_unlike", "_as_unlike", defArgs (top 23), defBody (top 23), defScope (top 23), [], []⟩
def d_as_part : He.DefD := ⟨("as_part", none), "as_part", "as_part", defArgs (top 24), defBody (top 24), defScope (top 24), [], []⟩
def d_checked_body : He.DefD := ⟨("checked_body", none), "checked_body", "checked_body", defArgs (top 25), defBody (top 25), defScope (top 25), [], []⟩
def d_as_body : He.DefD := ⟨("as_body", none), "as_body", "as_body", defArgs (top 26), defBody (top 26), defScope (top 26), [], []⟩
def d_as_rule : He.DefD := ⟨("as_rule", none), "as_rule", "as_rule", defArgs (top 27), defBody (top 27), defScope (top 27), [], []⟩
def d_is_atom : He.DefD := ⟨("is_atom", none), "is_atom", "is_atom", defArgs (top 28), defBody (top 28), defScope (top 28), [], []⟩
def d_is_fact : He.DefD := ⟨("is_fact", none), "is_fact", "is_fact", defArgs (top 29), defBody (top 29), defScope (top 29), [], []⟩
def d_is_part : He.DefD := ⟨("is_part", none), "is_part", "is_part", defArgs (top 30), defBody (top 30), defScope (top 30), [], []⟩
def d_is_body : He.DefD := ⟨("is_body", none), "is_body", "is_body", defArgs (top 31), defBody (top 31), defScope (top 31), [], []⟩
def d_is_rule : He.DefD := ⟨("is_rule", none), "is_rule", "is_rule", defArgs (top 32), defBody (top 32), defScope (top 32), [], []⟩
def d_terms_of : He.DefD := ⟨("terms_of", none), "terms_of", "terms_of", defArgs (top 33), defBody (top 33), defScope (top 33), [], []⟩
def d_letters_in : He.DefD := ⟨("letters_in", none), "letters_in", "letters_in", defArgs (top 34), defBody (top 34), defScope (top 34), [], []⟩
def d_filled_part : He.DefD := ⟨("filled_part", none), "filled_part", "filled_part", defArgs (top 35), defBody (top 35), defScope (top 35), [], []⟩
def d_letters_of : He.DefD := ⟨("letters_of", none), "letters_of", "letters_of", defArgs (top 36), defBody (top 36), defScope (top 36), [], []⟩
def d_put_in : He.DefD := ⟨("put_in", none), "put_in", "put_in", defArgs (top 37), defBody (top 37), defScope (top 37), [], []⟩
def d__law_start : He.DefD := ⟨("_law_start", none), "_law_start", "_law_start", defArgs (top 39), defBody (top 39), defScope (top 39), [], []⟩
def d__law_draw : He.DefD := ⟨("_law_draw", none), "_law_draw", "_law_draw", defArgs (top 40), defBody (top 40), defScope (top 40), [], []⟩
def d__law_pick : He.DefD := ⟨("_law_pick", none), "_law_pick", "_law_pick", defArgs (top 41), defBody (top 41), defScope (top 41), [], []⟩
def d__law_same : He.DefD := ⟨("_law_same", none), "_law_same", "_law_same", defArgs (top 42), defBody (top 42), defScope (top 42), [], []⟩
def d__law_each_once : He.DefD := ⟨("_law_each_once", none), "_law_each_once", "_law_each_once", defArgs (top 43), defBody (top 43), defScope (top 43), [], []⟩
def d__law_is_letter : He.DefD := ⟨("_law_is_letter", none), "_law_is_letter", "_law_is_letter", defArgs (top 44), defBody (top 44), defScope (top 44), [], []⟩
def d__law_letters : He.DefD := ⟨("_law_letters", none), "_law_letters", "_law_letters", defArgs (top 45), defBody (top 45), defScope (top 45), [], []⟩
def d__law_put : He.DefD := ⟨("_law_put", none), "_law_put", "_law_put", defArgs (top 46), defBody (top 46), defScope (top 46), [], []⟩
def d__law_is_list : He.DefD := ⟨("_law_is_list", none), "_law_is_list", "_law_is_list", defArgs (top 47), defBody (top 47), defScope (top 47), [], []⟩
def d__law_has_signs : He.DefD := ⟨("_law_has_signs", none), "_law_has_signs", "_law_has_signs", defArgs (top 48), defBody (top 48), defScope (top 48), [], []⟩
def d__law_is_name : He.DefD := ⟨("_law_is_name", none), "_law_is_name", "_law_is_name", defArgs (top 49), defBody (top 49), defScope (top 49), [], []⟩
def d__law_is_thing : He.DefD := ⟨("_law_is_thing", none), "_law_is_thing", "_law_is_thing", defArgs (top 50), defBody (top 50), defScope (top 50), [], []⟩
def d__law_is_a_letter : He.DefD := ⟨("_law_is_a_letter", none), "_law_is_a_letter", "_law_is_a_letter", defArgs (top 51), defBody (top 51), defScope (top 51), [], []⟩
def d__law_is_term : He.DefD := ⟨("_law_is_term", none), "_law_is_term", "_law_is_term", defArgs (top 52), defBody (top 52), defScope (top 52), [], []⟩
def d__law_is_atom : He.DefD := ⟨("_law_is_atom", none), "_law_is_atom", "_law_is_atom", defArgs (top 53), defBody (top 53), defScope (top 53), [], []⟩
def d__law_is_fact : He.DefD := ⟨("_law_is_fact", none), "_law_is_fact", "_law_is_fact", defArgs (top 54), defBody (top 54), defScope (top 54), [], []⟩
def d__law_is_part : He.DefD := ⟨("_law_is_part", none), "_law_is_part", "_law_is_part", defArgs (top 55), defBody (top 55), defScope (top 55), [], []⟩
def d__law_is_body : He.DefD := ⟨("_law_is_body", none), "_law_is_body", "_law_is_body", defArgs (top 56), defBody (top 56), defScope (top 56), [], []⟩
def d__law_is_rule : He.DefD := ⟨("_law_is_rule", none), "_law_is_rule", "_law_is_rule", defArgs (top 57), defBody (top 57), defScope (top 57), [], []⟩
def d__law_word : He.DefD := ⟨("_law_word", none), "_law_word", "_law_word", defArgs (top 58), defBody (top 58), defScope (top 58), [], []⟩
def d__law_term : He.DefD := ⟨("_law_term", none), "_law_term", "_law_term", defArgs (top 59), defBody (top 59), defScope (top 59), [], []⟩
def d__law_atom : He.DefD := ⟨("_law_atom", none), "_law_atom", "_law_atom", defArgs (top 60), defBody (top 60), defScope (top 60), [], []⟩
def d__law_part : He.DefD := ⟨("_law_part", none), "_law_part", "_law_part", defArgs (top 61), defBody (top 61), defScope (top 61), [], []⟩
def d__law_bodies : He.DefD := ⟨("_law_bodies", none), "_law_bodies", "_law_bodies", defArgs (top 62), defBody (top 62), defScope (top 62), [], []⟩
def d__law_looks_right : He.DefD := ⟨("_law_looks_right", none), "_law_looks_right", "_law_looks_right", defArgs (top 63), defBody (top 63), defScope (top 63), [], []⟩
def d__law_tried : He.DefD := ⟨("_law_tried", none), "_law_tried", "_law_tried", defArgs (top 64), defBody (top 64), defScope (top 64), [], []⟩
def d__law_kept : He.DefD := ⟨("_law_kept", none), "_law_kept", "_law_kept", defArgs (top 65), defBody (top 65), defScope (top 65), [], []⟩
def d__law_calls : He.DefD := ⟨("_law_calls", none), "_law_calls", "_law_calls", defArgs (top 66), defBody (top 66), defScope (top 66), [], []⟩
def d__law_put_right : He.DefD := ⟨("_law_put_right", none), "_law_put_right", "_law_put_right", defArgs (top 67), defBody (top 67), defScope (top 67), [], []⟩
def d_law : He.DefD := ⟨("law", none), "law", "law", defArgs (top 68), defBody (top 68), defScope (top 68), [], []⟩
def fn0 : List He.DefD := [d_BadBody___init__, d_BadCalls___init__, d_is_integer, d_is_name, d_is_thing, d_is_letter, d_is_term, d__is_row, d_as_atom, d_as_fact, d__as_not, d__as_unlike, d_as_part, d_checked_body, d_as_body, d_as_rule, d_is_atom, d_is_fact, d_is_part, d_is_body]
def fn1 : List He.DefD := [d_is_rule, d_terms_of, d_letters_in, d_filled_part, d_letters_of, d_put_in, d__law_start, d__law_draw, d__law_pick, d__law_same, d__law_each_once, d__law_is_letter, d__law_letters, d__law_put, d__law_is_list, d__law_has_signs, d__law_is_name, d__law_is_thing, d__law_is_a_letter, d__law_is_term, d__law_is_atom, d__law_is_fact, d__law_is_part, d__law_is_body, d__law_is_rule, d__law_word, d__law_term, d__law_atom, d__law_part, d__law_bodies, d__law_looks_right, d__law_tried, d__law_kept, d__law_calls, d__law_put_right, d_law]
def fn : List He.DefD := fn0 ++ fn1
def fa0 : List He.Fa := [.glo "is_integer", .glo "is_name", .glo "is_thing", .glo "is_letter", .glo "is_term", .glo "_is_row", .glo "as_atom", .glo "as_fact", .glo "_as_not", .glo "_as_unlike", .glo "as_part", .glo "checked_body", .glo "as_body", .glo "as_rule", .glo "is_atom", .glo "is_fact", .glo "is_part", .glo "is_body", .glo "is_rule", .glo "terms_of", .glo "letters_in", .glo "filled_part", .glo "letters_of", .glo "put_in", .glo "_law_start", .glo "_law_draw", .glo "_law_pick", .glo "_law_same", .glo "_law_each_once", .glo "_law_is_letter", .glo "_law_letters", .glo "_law_put", .glo "_law_is_list", .glo "_law_has_signs", .glo "_law_is_name", .glo "_law_is_thing", .glo "_law_is_a_letter", .glo "_law_is_term", .glo "_law_is_atom", .glo "_law_is_fact", .glo "_law_is_part", .glo "_law_is_body", .glo "_law_is_rule", .glo "_law_word", .glo "_law_term", .glo "_law_atom", .glo "_law_part", .glo "_law_bodies", .glo "_law_looks_right", .glo "_law_tried", .glo "_law_kept", .glo "_law_calls", .glo "_law_put_right", .glo "law", .glo "BadBody", .glo "BadCalls", .glo "BARRED_NAMES", .free "len", .free "isinstance", .free "list"]
def fa1 : List He.Fa := [.free "tuple", .free "int", .free "str", .free "bool", .free "dict", .free "all", .free "any", .free "range", .free "enumerate", .free "zip", .free "sorted", .str "SMALL" "abcdefghijklmnopqrstuvwxyz", .str "CAPITALS" "ABCDEFGHIJKLMNOPQRSTUVWXYZ", .str "FIGURES" "0123456789", .str "NAME_SIGNS" "abcdefghijklmnopqrstuvwxyz0123456789", .int "LONGEST_NAME" 12, .int "LONGEST_LETTER" 4, .int "MOST_TERMS" 6, .noat "BadBody" "index", .noat "BadCalls" "thing", .exm "BadBody" "BadBody" true, .exm "BadBody" "BadCalls" false, .exm "BadCalls" "BadBody" false, .exm "BadCalls" "BadCalls" true]
def fa : List He.Fa := fa0 ++ fa1
abbrev laws : List He.Defn := [("_law_put_right", none), ("law", none)]
theorem facts {l : PySem.W.OpenLaw} {w : World} {K : PySem.W.Frag} {h : Heap} {mg : Str → Option Value} {f : Addr} (X : K.In h) (G : h.Ns mainGlobals mg) (hfa : mg ("law" : Str) = some (.ref f)) (s : He.SaysX fa fn [] laws extra w h K) : LamX.LawAtS l w K CX0 18 63 "_law_script" mg f h := by
  have c : He.SaysD fa fn K := s.t.d
  have x := s.more
  obtain ⟨y_t1, x⟩ := He.ba x
  obtain ⟨y_e_BadBody, x⟩ := He.ba x
  obtain ⟨y_e_BadCalls, x⟩ := He.ba x
  obtain ⟨y_xf_BadBody, x⟩ := He.ba x
  obtain ⟨y_xf_BadCalls, x⟩ := He.ba x
  obtain ⟨y_bc, x⟩ := He.ba x
  obtain ⟨y_fi_BadBody, x⟩ := He.ba x
  obtain ⟨y_ti_BadBody, x⟩ := He.ba x
  obtain ⟨y_fi_BadCalls, x⟩ := He.ba x
  obtain ⟨y_ti_BadCalls, x⟩ := He.ba x
  have y_cc := x
  have z_len := He.free_ok X G (c.fact 57 (f := .free "len") rfl)
  have z_isinstance := He.free_ok X G (c.fact 58 (f := .free "isinstance") rfl)
  have z_list := He.free_ok X G (c.fact 59 (f := .free "list") rfl)
  have z_tuple := He.free_ok X G (c.fact 60 (f := .free "tuple") rfl)
  have z_int := He.free_ok X G (c.fact 61 (f := .free "int") rfl)
  have z_str := He.free_ok X G (c.fact 62 (f := .free "str") rfl)
  have z_bool := He.free_ok X G (c.fact 63 (f := .free "bool") rfl)
  have z_dict := He.free_ok X G (c.fact 64 (f := .free "dict") rfl)
  have z_all := He.free_ok X G (c.fact 65 (f := .free "all") rfl)
  have z_any := He.free_ok X G (c.fact 66 (f := .free "any") rfl)
  have z_range := He.free_ok X G (c.fact 67 (f := .free "range") rfl)
  have z_enumerate := He.free_ok X G (c.fact 68 (f := .free "enumerate") rfl)
  have z_zip := He.free_ok X G (c.fact 69 (f := .free "zip") rfl)
  have z_sorted := He.free_ok X G (c.fact 70 (f := .free "sorted") rfl)
  have T : Tx K mg := { b_len := z_len, b_isinstance := z_isinstance, b_list := z_list, b_tuple := z_tuple, b_int := z_int, b_str := z_str, b_bool := z_bool, b_dict := z_dict, b_all := z_all, b_any := z_any, b_range := z_range, b_enumerate := z_enumerate, b_zip := z_zip, b_sorted := z_sorted, g_SMALL := gld_str (He.str_ok X G (c.fact 71 (f := .str "SMALL" "abcdefghijklmnopqrstuvwxyz") rfl)), g_CAPITALS := gld_str (He.str_ok X G (c.fact 72 (f := .str "CAPITALS" "ABCDEFGHIJKLMNOPQRSTUVWXYZ") rfl)), g_FIGURES := gld_str (He.str_ok X G (c.fact 73 (f := .str "FIGURES" "0123456789") rfl)), g_NAME_SIGNS := gld_str (He.str_ok X G (c.fact 74 (f := .str "NAME_SIGNS" "abcdefghijklmnopqrstuvwxyz0123456789") rfl)), g_LONGEST_NAME := gld_int (He.int_ok X G (c.fact 75 (f := .int "LONGEST_NAME" 12) rfl)), g_LONGEST_LETTER := gld_int (He.int_ok X G (c.fact 76 (f := .int "LONGEST_LETTER" 4) rfl)), g_MOST_TERMS := gld_int (He.int_ok X G (c.fact 77 (f := .int "MOST_TERMS" 6) rfl)), t_BARRED_NAMES := gcs (zs := ["not", "unlike", "if"]) (He.glo_ok X G (c.fact 56 (f := .glo "BARRED_NAMES") rfl)) fun H => He.tupB_ok y_t1 H }
  have m_BadBody := He.glo_ok X G (c.fact 54 (f := .glo "BadBody") rfl)
  have m_BadCalls := He.glo_ok X G (c.fact 55 (f := .glo "BadCalls") rfl)
  have O_BadBody : OexC K (He.ga K "BadBody") := errB_ok y_e_BadBody
  have O_BadCalls : OexC K (He.ga K "BadCalls") := errB_ok y_e_BadCalls
  have n_BadBody_index := He.noat_ok (c.fact 78 (f := .noat "BadBody" "index") rfl)
  have n_BadCalls_thing := He.noat_ok (c.fact 79 (f := .noat "BadCalls" "thing") rfl)
  have x_BadBody_BadBody : PySem.W.exmOne K (.ref (He.ga K "BadBody")) (.ref (He.ga K "BadBody")) = some true := He.exm_ok (c.fact 80 (f := .exm "BadBody" "BadBody" true) rfl)
  have x_BadBody_BadCalls : PySem.W.exmOne K (.ref (He.ga K "BadBody")) (.ref (He.ga K "BadCalls")) = some false := He.exm_ok (c.fact 81 (f := .exm "BadBody" "BadCalls" false) rfl)
  have x_BadCalls_BadBody : PySem.W.exmOne K (.ref (He.ga K "BadCalls")) (.ref (He.ga K "BadBody")) = some false := He.exm_ok (c.fact 82 (f := .exm "BadCalls" "BadBody" false) rfl)
  have x_BadCalls_BadCalls : PySem.W.exmOne K (.ref (He.ga K "BadCalls")) (.ref (He.ga K "BadCalls")) = some true := He.exm_ok (c.fact 83 (f := .exm "BadCalls" "BadCalls" true) rfl)
  have d_bc : (He.ga K "BadBody") ≠ (He.ga K "BadCalls") := of_decide_eq_true y_bc
  have kd : ∀ k ∈ [(He.ga K "BadBody"), (He.ga K "BadCalls")], ∀ k' ∈ [(He.ga K "BadBody"), (He.ga K "BadCalls")], PySem.W.exmOne K (.ref k) (.ref k') = some (decide (k = k')) := fun k hk k' hk' => by
    simp only [List.mem_cons, List.not_mem_nil, or_false] at hk hk'
    rcases hk with rfl | rfl <;> rcases hk' with rfl | rfl
    · rw [decide_eq_true rfl]; exact x_BadBody_BadBody
    · rw [decide_eq_false d_bc]; exact x_BadBody_BadCalls
    · rw [decide_eq_false (fun e => d_bc e.symm)]; exact x_BadCalls_BadBody
    · rw [decide_eq_true rfl]; exact x_BadCalls_BadCalls
  have RE : Er K mg (He.ga K "BadBody") (He.ga K "BadCalls") := ⟨m_BadBody, m_BadCalls, xfB_ok y_xf_BadBody, xfB_ok y_xf_BadCalls, n_BadBody_index, n_BadCalls_thing, d_bc, kd⟩
  obtain ⟨w_BadBody___init__, F_BadBody___init__⟩ := c.def_ 0 (d := d_BadBody___init__) rfl
  have F_BadBody___init__ : FnP K "__init__" "BadBody.__init__" (inClass (top 2) 0) (He.ma K (He.ga K "BadBody") "__init__") w_BadBody___init__ := F_BadBody___init__
  have b_BadBody___init__ := FunD.bindsN (ps := ["self", "index"]) F_BadBody___init__ fun _ _ _ _ _ _ us hl => match us, hl with | [_, _], _ => rfl
  obtain ⟨w_BadCalls___init__, F_BadCalls___init__⟩ := c.def_ 1 (d := d_BadCalls___init__) rfl
  have F_BadCalls___init__ : FnP K "__init__" "BadCalls.__init__" (inClass (top 3) 0) (He.ma K (He.ga K "BadCalls") "__init__") w_BadCalls___init__ := F_BadCalls___init__
  have b_BadCalls___init__ := FunD.bindsN (ps := ["self", "thing"]) F_BadCalls___init__ fun _ _ _ _ _ _ us hl => match us, hl with | [_, _], _ => rfl
  obtain ⟨w_is_integer, F_is_integer⟩ := c.def_ 2 (d := d_is_integer) rfl
  have F_is_integer : FnP K "is_integer" "is_integer" (top 12) (He.ga K "is_integer") w_is_integer := F_is_integer
  have g_is_integer := He.glo_ok X G (c.fact 0 (f := .glo "is_integer") rfl)
  have b_is_integer := FunD.bindsN (ps := ["thing"]) F_is_integer fun _ _ _ _ _ _ us hl => match us, hl with | [_], _ => rfl
  obtain ⟨w_is_name, F_is_name⟩ := c.def_ 3 (d := d_is_name) rfl
  have F_is_name : FnP K "is_name" "is_name" (top 13) (He.ga K "is_name") w_is_name := F_is_name
  have g_is_name := He.glo_ok X G (c.fact 1 (f := .glo "is_name") rfl)
  have b_is_name := FunD.bindsN (ps := ["thing"]) F_is_name fun _ _ _ _ _ _ us hl => match us, hl with | [_], _ => rfl
  obtain ⟨w_is_thing, F_is_thing⟩ := c.def_ 4 (d := d_is_thing) rfl
  have F_is_thing : FnP K "is_thing" "is_thing" (top 14) (He.ga K "is_thing") w_is_thing := F_is_thing
  have g_is_thing := He.glo_ok X G (c.fact 2 (f := .glo "is_thing") rfl)
  have b_is_thing := FunD.bindsN (ps := ["thing"]) F_is_thing fun _ _ _ _ _ _ us hl => match us, hl with | [_], _ => rfl
  obtain ⟨w_is_letter, F_is_letter⟩ := c.def_ 5 (d := d_is_letter) rfl
  have F_is_letter : FnP K "is_letter" "is_letter" (top 15) (He.ga K "is_letter") w_is_letter := F_is_letter
  have g_is_letter := He.glo_ok X G (c.fact 3 (f := .glo "is_letter") rfl)
  have b_is_letter := FunD.bindsN (ps := ["thing"]) F_is_letter fun _ _ _ _ _ _ us hl => match us, hl with | [_], _ => rfl
  obtain ⟨w_is_term, F_is_term⟩ := c.def_ 6 (d := d_is_term) rfl
  have F_is_term : FnP K "is_term" "is_term" (top 16) (He.ga K "is_term") w_is_term := F_is_term
  have g_is_term := He.glo_ok X G (c.fact 4 (f := .glo "is_term") rfl)
  have b_is_term := FunD.bindsN (ps := ["thing"]) F_is_term fun _ _ _ _ _ _ us hl => match us, hl with | [_], _ => rfl
  obtain ⟨w__is_row, F__is_row⟩ := c.def_ 7 (d := d__is_row) rfl
  have F__is_row : FnP K "_is_row" "_is_row" (top 19) (He.ga K "_is_row") w__is_row := F__is_row
  have g__is_row := He.glo_ok X G (c.fact 5 (f := .glo "_is_row") rfl)
  have b__is_row := FunD.bindsN (ps := ["thing"]) F__is_row fun _ _ _ _ _ _ us hl => match us, hl with | [_], _ => rfl
  obtain ⟨w_as_atom, F_as_atom⟩ := c.def_ 8 (d := d_as_atom) rfl
  have F_as_atom : FnP K "as_atom" "as_atom" (top 20) (He.ga K "as_atom") w_as_atom := F_as_atom
  have g_as_atom := He.glo_ok X G (c.fact 6 (f := .glo "as_atom") rfl)
  have b_as_atom := FunD.bindsN (ps := ["thing"]) F_as_atom fun _ _ _ _ _ _ us hl => match us, hl with | [_], _ => rfl
  obtain ⟨w_as_fact, F_as_fact⟩ := c.def_ 9 (d := d_as_fact) rfl
  have F_as_fact : FnP K "as_fact" "as_fact" (top 21) (He.ga K "as_fact") w_as_fact := F_as_fact
  have g_as_fact := He.glo_ok X G (c.fact 7 (f := .glo "as_fact") rfl)
  have b_as_fact := FunD.bindsN (ps := ["thing"]) F_as_fact fun _ _ _ _ _ _ us hl => match us, hl with | [_], _ => rfl
  obtain ⟨w__as_not, F__as_not⟩ := c.def_ 10 (d := d__as_not) rfl
  have F__as_not : FnP K "_as_not" "_as_not" (top 22) (He.ga K "_as_not") w__as_not := F__as_not
  have g__as_not := He.glo_ok X G (c.fact 8 (f := .glo "_as_not") rfl)
  have b__as_not := FunD.bindsN (ps := ["thing"]) F__as_not fun _ _ _ _ _ _ us hl => match us, hl with | [_], _ => rfl
  obtain ⟨w__as_unlike, F__as_unlike⟩ := c.def_ 11 (d := d__as_unlike) rfl
  have F__as_unlike : FnP K "_as_unlike" "_as_unlike" (top 23) (He.ga K "_as_unlike") w__as_unlike := F__as_unlike
  have g__as_unlike := He.glo_ok X G (c.fact 9 (f := .glo "_as_unlike") rfl)
  have b__as_unlike := FunD.bindsN (ps := ["thing"]) F__as_unlike fun _ _ _ _ _ _ us hl => match us, hl with | [_], _ => rfl
  obtain ⟨w_as_part, F_as_part⟩ := c.def_ 12 (d := d_as_part) rfl
  have F_as_part : FnP K "as_part" "as_part" (top 24) (He.ga K "as_part") w_as_part := F_as_part
  have g_as_part := He.glo_ok X G (c.fact 10 (f := .glo "as_part") rfl)
  have b_as_part := FunD.bindsN (ps := ["thing"]) F_as_part fun _ _ _ _ _ _ us hl => match us, hl with | [_], _ => rfl
  obtain ⟨w_checked_body, F_checked_body⟩ := c.def_ 13 (d := d_checked_body) rfl
  have F_checked_body : FnP K "checked_body" "checked_body" (top 25) (He.ga K "checked_body") w_checked_body := F_checked_body
  have g_checked_body := He.glo_ok X G (c.fact 11 (f := .glo "checked_body") rfl)
  have b_checked_body := FunD.bindsN (ps := ["thing"]) F_checked_body fun _ _ _ _ _ _ us hl => match us, hl with | [_], _ => rfl
  obtain ⟨w_as_body, F_as_body⟩ := c.def_ 14 (d := d_as_body) rfl
  have F_as_body : FnP K "as_body" "as_body" (top 26) (He.ga K "as_body") w_as_body := F_as_body
  have g_as_body := He.glo_ok X G (c.fact 12 (f := .glo "as_body") rfl)
  have b_as_body := FunD.bindsN (ps := ["thing"]) F_as_body fun _ _ _ _ _ _ us hl => match us, hl with | [_], _ => rfl
  obtain ⟨w_as_rule, F_as_rule⟩ := c.def_ 15 (d := d_as_rule) rfl
  have F_as_rule : FnP K "as_rule" "as_rule" (top 27) (He.ga K "as_rule") w_as_rule := F_as_rule
  have g_as_rule := He.glo_ok X G (c.fact 13 (f := .glo "as_rule") rfl)
  have b_as_rule := FunD.bindsN (ps := ["thing"]) F_as_rule fun _ _ _ _ _ _ us hl => match us, hl with | [_], _ => rfl
  obtain ⟨w_is_atom, F_is_atom⟩ := c.def_ 16 (d := d_is_atom) rfl
  have F_is_atom : FnP K "is_atom" "is_atom" (top 28) (He.ga K "is_atom") w_is_atom := F_is_atom
  have g_is_atom := He.glo_ok X G (c.fact 14 (f := .glo "is_atom") rfl)
  have b_is_atom := FunD.bindsN (ps := ["thing"]) F_is_atom fun _ _ _ _ _ _ us hl => match us, hl with | [_], _ => rfl
  obtain ⟨w_is_fact, F_is_fact⟩ := c.def_ 17 (d := d_is_fact) rfl
  have F_is_fact : FnP K "is_fact" "is_fact" (top 29) (He.ga K "is_fact") w_is_fact := F_is_fact
  have g_is_fact := He.glo_ok X G (c.fact 15 (f := .glo "is_fact") rfl)
  have b_is_fact := FunD.bindsN (ps := ["thing"]) F_is_fact fun _ _ _ _ _ _ us hl => match us, hl with | [_], _ => rfl
  obtain ⟨w_is_part, F_is_part⟩ := c.def_ 18 (d := d_is_part) rfl
  have F_is_part : FnP K "is_part" "is_part" (top 30) (He.ga K "is_part") w_is_part := F_is_part
  have g_is_part := He.glo_ok X G (c.fact 16 (f := .glo "is_part") rfl)
  have b_is_part := FunD.bindsN (ps := ["thing"]) F_is_part fun _ _ _ _ _ _ us hl => match us, hl with | [_], _ => rfl
  obtain ⟨w_is_body, F_is_body⟩ := c.def_ 19 (d := d_is_body) rfl
  have F_is_body : FnP K "is_body" "is_body" (top 31) (He.ga K "is_body") w_is_body := F_is_body
  have g_is_body := He.glo_ok X G (c.fact 17 (f := .glo "is_body") rfl)
  have b_is_body := FunD.bindsN (ps := ["thing"]) F_is_body fun _ _ _ _ _ _ us hl => match us, hl with | [_], _ => rfl
  obtain ⟨w_is_rule, F_is_rule⟩ := c.def_ 20 (d := d_is_rule) rfl
  have F_is_rule : FnP K "is_rule" "is_rule" (top 32) (He.ga K "is_rule") w_is_rule := F_is_rule
  have g_is_rule := He.glo_ok X G (c.fact 18 (f := .glo "is_rule") rfl)
  have b_is_rule := FunD.bindsN (ps := ["thing"]) F_is_rule fun _ _ _ _ _ _ us hl => match us, hl with | [_], _ => rfl
  obtain ⟨w_terms_of, F_terms_of⟩ := c.def_ 21 (d := d_terms_of) rfl
  have F_terms_of : FnP K "terms_of" "terms_of" (top 33) (He.ga K "terms_of") w_terms_of := F_terms_of
  have g_terms_of := He.glo_ok X G (c.fact 19 (f := .glo "terms_of") rfl)
  have b_terms_of := FunD.bindsN (ps := ["part"]) F_terms_of fun _ _ _ _ _ _ us hl => match us, hl with | [_], _ => rfl
  obtain ⟨w_letters_in, F_letters_in⟩ := c.def_ 22 (d := d_letters_in) rfl
  have F_letters_in : FnP K "letters_in" "letters_in" (top 34) (He.ga K "letters_in") w_letters_in := F_letters_in
  have g_letters_in := He.glo_ok X G (c.fact 20 (f := .glo "letters_in") rfl)
  have b_letters_in := FunD.bindsN (ps := ["parts"]) F_letters_in fun _ _ _ _ _ _ us hl => match us, hl with | [_], _ => rfl
  obtain ⟨w_filled_part, F_filled_part⟩ := c.def_ 23 (d := d_filled_part) rfl
  have F_filled_part : FnP K "filled_part" "filled_part" (top 35) (He.ga K "filled_part") w_filled_part := F_filled_part
  have g_filled_part := He.glo_ok X G (c.fact 21 (f := .glo "filled_part") rfl)
  have b_filled_part := FunD.bindsN (ps := ["part", "calls"]) F_filled_part fun _ _ _ _ _ _ us hl => match us, hl with | [_, _], _ => rfl
  obtain ⟨w_letters_of, F_letters_of⟩ := c.def_ 24 (d := d_letters_of) rfl
  have F_letters_of : FnP K "letters_of" "letters_of" (top 36) (He.ga K "letters_of") w_letters_of := F_letters_of
  have g_letters_of := He.glo_ok X G (c.fact 22 (f := .glo "letters_of") rfl)
  have b_letters_of := FunD.bindsN (ps := ["body"]) F_letters_of fun _ _ _ _ _ _ us hl => match us, hl with | [_], _ => rfl
  obtain ⟨w_put_in, F_put_in⟩ := c.def_ 25 (d := d_put_in) rfl
  have F_put_in : FnP K "put_in" "put_in" (top 37) (He.ga K "put_in") w_put_in := F_put_in
  have g_put_in := He.glo_ok X G (c.fact 23 (f := .glo "put_in") rfl)
  have b_put_in := FunD.bindsN (ps := ["body", "calls"]) F_put_in fun _ _ _ _ _ _ us hl => match us, hl with | [_, _], _ => rfl
  obtain ⟨w__law_start, F__law_start⟩ := c.def_ 26 (d := d__law_start) rfl
  have F__law_start : FnP K "_law_start" "_law_start" (top 39) (He.ga K "_law_start") w__law_start := F__law_start
  have g__law_start := He.glo_ok X G (c.fact 24 (f := .glo "_law_start") rfl)
  have b__law_start := FunD.bindsN (ps := ["_law_script"]) F__law_start fun _ _ _ _ _ _ us hl => match us, hl with | [_], _ => rfl
  obtain ⟨w__law_draw, F__law_draw⟩ := c.def_ 27 (d := d__law_draw) rfl
  have F__law_draw : FnP K "_law_draw" "_law_draw" (top 40) (He.ga K "_law_draw") w__law_draw := F__law_draw
  have g__law_draw := He.glo_ok X G (c.fact 25 (f := .glo "_law_draw") rfl)
  have b__law_draw := FunD.bindsN (ps := ["_law_stream", "_law_many"]) F__law_draw fun _ _ _ _ _ _ us hl => match us, hl with | [_, _], _ => rfl
  obtain ⟨w__law_pick, F__law_pick⟩ := c.def_ 28 (d := d__law_pick) rfl
  have F__law_pick : FnP K "_law_pick" "_law_pick" (top 41) (He.ga K "_law_pick") w__law_pick := F__law_pick
  have g__law_pick := He.glo_ok X G (c.fact 26 (f := .glo "_law_pick") rfl)
  have b__law_pick := FunD.bindsN (ps := ["_law_stream", "_law_some"]) F__law_pick fun _ _ _ _ _ _ us hl => match us, hl with | [_, _], _ => rfl
  obtain ⟨w__law_same, F__law_same⟩ := c.def_ 29 (d := d__law_same) rfl
  have F__law_same : FnP K "_law_same" "_law_same" (top 42) (He.ga K "_law_same") w__law_same := F__law_same
  have g__law_same := He.glo_ok X G (c.fact 27 (f := .glo "_law_same") rfl)
  have b__law_same := FunD.bindsN (ps := ["_law_found", "_law_due"]) F__law_same fun _ _ _ _ _ _ us hl => match us, hl with | [_, _], _ => rfl
  obtain ⟨w__law_each_once, F__law_each_once⟩ := c.def_ 30 (d := d__law_each_once) rfl
  have F__law_each_once : FnP K "_law_each_once" "_law_each_once" (top 43) (He.ga K "_law_each_once") w__law_each_once := F__law_each_once
  have g__law_each_once := He.glo_ok X G (c.fact 28 (f := .glo "_law_each_once") rfl)
  have b__law_each_once := FunD.bindsN (ps := ["_law_things"]) F__law_each_once fun _ _ _ _ _ _ us hl => match us, hl with | [_], _ => rfl
  obtain ⟨w__law_is_letter, F__law_is_letter⟩ := c.def_ 31 (d := d__law_is_letter) rfl
  have F__law_is_letter : FnP K "_law_is_letter" "_law_is_letter" (top 44) (He.ga K "_law_is_letter") w__law_is_letter := F__law_is_letter
  have g__law_is_letter := He.glo_ok X G (c.fact 29 (f := .glo "_law_is_letter") rfl)
  have b__law_is_letter := FunD.bindsN (ps := ["_law_term_here"]) F__law_is_letter fun _ _ _ _ _ _ us hl => match us, hl with | [_], _ => rfl
  obtain ⟨w__law_letters, F__law_letters⟩ := c.def_ 32 (d := d__law_letters) rfl
  have F__law_letters : FnP K "_law_letters" "_law_letters" (top 45) (He.ga K "_law_letters") w__law_letters := F__law_letters
  have g__law_letters := He.glo_ok X G (c.fact 30 (f := .glo "_law_letters") rfl)
  have b__law_letters := FunD.bindsN (ps := ["_law_body"]) F__law_letters fun _ _ _ _ _ _ us hl => match us, hl with | [_], _ => rfl
  obtain ⟨w__law_put, F__law_put⟩ := c.def_ 33 (d := d__law_put) rfl
  have F__law_put : FnP K "_law_put" "_law_put" (top 46) (He.ga K "_law_put") w__law_put := F__law_put
  have g__law_put := He.glo_ok X G (c.fact 31 (f := .glo "_law_put") rfl)
  have b__law_put := FunD.bindsN (ps := ["_law_atom_here", "_law_calls_here"]) F__law_put fun _ _ _ _ _ _ us hl => match us, hl with | [_, _], _ => rfl
  obtain ⟨w__law_is_list, F__law_is_list⟩ := c.def_ 34 (d := d__law_is_list) rfl
  have F__law_is_list : FnP K "_law_is_list" "_law_is_list" (top 47) (He.ga K "_law_is_list") w__law_is_list := F__law_is_list
  have g__law_is_list := He.glo_ok X G (c.fact 32 (f := .glo "_law_is_list") rfl)
  have b__law_is_list := FunD.bindsN (ps := ["_law_thing"]) F__law_is_list fun _ _ _ _ _ _ us hl => match us, hl with | [_], _ => rfl
  obtain ⟨w__law_has_signs, F__law_has_signs⟩ := c.def_ 35 (d := d__law_has_signs) rfl
  have F__law_has_signs : FnP K "_law_has_signs" "_law_has_signs" (top 48) (He.ga K "_law_has_signs") w__law_has_signs := F__law_has_signs
  have g__law_has_signs := He.glo_ok X G (c.fact 33 (f := .glo "_law_has_signs") rfl)
  have b__law_has_signs := FunD.bindsN (ps := ["_law_thing", "_law_least", "_law_most", "_law_signs"]) F__law_has_signs fun _ _ _ _ _ _ us hl => match us, hl with | [_, _, _, _], _ => rfl
  obtain ⟨w__law_is_name, F__law_is_name⟩ := c.def_ 36 (d := d__law_is_name) rfl
  have F__law_is_name : FnP K "_law_is_name" "_law_is_name" (top 49) (He.ga K "_law_is_name") w__law_is_name := F__law_is_name
  have g__law_is_name := He.glo_ok X G (c.fact 34 (f := .glo "_law_is_name") rfl)
  have b__law_is_name := FunD.bindsN (ps := ["_law_thing"]) F__law_is_name fun _ _ _ _ _ _ us hl => match us, hl with | [_], _ => rfl
  obtain ⟨w__law_is_thing, F__law_is_thing⟩ := c.def_ 37 (d := d__law_is_thing) rfl
  have F__law_is_thing : FnP K "_law_is_thing" "_law_is_thing" (top 50) (He.ga K "_law_is_thing") w__law_is_thing := F__law_is_thing
  have g__law_is_thing := He.glo_ok X G (c.fact 35 (f := .glo "_law_is_thing") rfl)
  have b__law_is_thing := FunD.bindsN (ps := ["_law_thing"]) F__law_is_thing fun _ _ _ _ _ _ us hl => match us, hl with | [_], _ => rfl
  obtain ⟨w__law_is_a_letter, F__law_is_a_letter⟩ := c.def_ 38 (d := d__law_is_a_letter) rfl
  have F__law_is_a_letter : FnP K "_law_is_a_letter" "_law_is_a_letter" (top 51) (He.ga K "_law_is_a_letter") w__law_is_a_letter := F__law_is_a_letter
  have g__law_is_a_letter := He.glo_ok X G (c.fact 36 (f := .glo "_law_is_a_letter") rfl)
  have b__law_is_a_letter := FunD.bindsN (ps := ["_law_thing"]) F__law_is_a_letter fun _ _ _ _ _ _ us hl => match us, hl with | [_], _ => rfl
  obtain ⟨w__law_is_term, F__law_is_term⟩ := c.def_ 39 (d := d__law_is_term) rfl
  have F__law_is_term : FnP K "_law_is_term" "_law_is_term" (top 52) (He.ga K "_law_is_term") w__law_is_term := F__law_is_term
  have g__law_is_term := He.glo_ok X G (c.fact 37 (f := .glo "_law_is_term") rfl)
  have b__law_is_term := FunD.bindsN (ps := ["_law_thing"]) F__law_is_term fun _ _ _ _ _ _ us hl => match us, hl with | [_], _ => rfl
  obtain ⟨w__law_is_atom, F__law_is_atom⟩ := c.def_ 40 (d := d__law_is_atom) rfl
  have F__law_is_atom : FnP K "_law_is_atom" "_law_is_atom" (top 53) (He.ga K "_law_is_atom") w__law_is_atom := F__law_is_atom
  have g__law_is_atom := He.glo_ok X G (c.fact 38 (f := .glo "_law_is_atom") rfl)
  have b__law_is_atom := FunD.bindsN (ps := ["_law_thing"]) F__law_is_atom fun _ _ _ _ _ _ us hl => match us, hl with | [_], _ => rfl
  obtain ⟨w__law_is_fact, F__law_is_fact⟩ := c.def_ 41 (d := d__law_is_fact) rfl
  have F__law_is_fact : FnP K "_law_is_fact" "_law_is_fact" (top 54) (He.ga K "_law_is_fact") w__law_is_fact := F__law_is_fact
  have g__law_is_fact := He.glo_ok X G (c.fact 39 (f := .glo "_law_is_fact") rfl)
  have b__law_is_fact := FunD.bindsN (ps := ["_law_thing"]) F__law_is_fact fun _ _ _ _ _ _ us hl => match us, hl with | [_], _ => rfl
  obtain ⟨w__law_is_part, F__law_is_part⟩ := c.def_ 42 (d := d__law_is_part) rfl
  have F__law_is_part : FnP K "_law_is_part" "_law_is_part" (top 55) (He.ga K "_law_is_part") w__law_is_part := F__law_is_part
  have g__law_is_part := He.glo_ok X G (c.fact 40 (f := .glo "_law_is_part") rfl)
  have b__law_is_part := FunD.bindsN (ps := ["_law_thing"]) F__law_is_part fun _ _ _ _ _ _ us hl => match us, hl with | [_], _ => rfl
  obtain ⟨w__law_is_body, F__law_is_body⟩ := c.def_ 43 (d := d__law_is_body) rfl
  have F__law_is_body : FnP K "_law_is_body" "_law_is_body" (top 56) (He.ga K "_law_is_body") w__law_is_body := F__law_is_body
  have g__law_is_body := He.glo_ok X G (c.fact 41 (f := .glo "_law_is_body") rfl)
  have b__law_is_body := FunD.bindsN (ps := ["_law_thing"]) F__law_is_body fun _ _ _ _ _ _ us hl => match us, hl with | [_], _ => rfl
  obtain ⟨w__law_is_rule, F__law_is_rule⟩ := c.def_ 44 (d := d__law_is_rule) rfl
  have F__law_is_rule : FnP K "_law_is_rule" "_law_is_rule" (top 57) (He.ga K "_law_is_rule") w__law_is_rule := F__law_is_rule
  have g__law_is_rule := He.glo_ok X G (c.fact 42 (f := .glo "_law_is_rule") rfl)
  have b__law_is_rule := FunD.bindsN (ps := ["_law_thing"]) F__law_is_rule fun _ _ _ _ _ _ us hl => match us, hl with | [_], _ => rfl
  obtain ⟨w__law_word, F__law_word⟩ := c.def_ 45 (d := d__law_word) rfl
  have F__law_word : FnP K "_law_word" "_law_word" (top 58) (He.ga K "_law_word") w__law_word := F__law_word
  have g__law_word := He.glo_ok X G (c.fact 43 (f := .glo "_law_word") rfl)
  have b__law_word := FunD.bindsN (ps := ["_law_stream"]) F__law_word fun _ _ _ _ _ _ us hl => match us, hl with | [_], _ => rfl
  obtain ⟨w__law_term, F__law_term⟩ := c.def_ 46 (d := d__law_term) rfl
  have F__law_term : FnP K "_law_term" "_law_term" (top 59) (He.ga K "_law_term") w__law_term := F__law_term
  have g__law_term := He.glo_ok X G (c.fact 44 (f := .glo "_law_term") rfl)
  have b__law_term := FunD.bindsN (ps := ["_law_stream"]) F__law_term fun _ _ _ _ _ _ us hl => match us, hl with | [_], _ => rfl
  obtain ⟨w__law_atom, F__law_atom⟩ := c.def_ 47 (d := d__law_atom) rfl
  have F__law_atom : FnP K "_law_atom" "_law_atom" (top 60) (He.ga K "_law_atom") w__law_atom := F__law_atom
  have g__law_atom := He.glo_ok X G (c.fact 45 (f := .glo "_law_atom") rfl)
  have b__law_atom := FunD.bindsN (ps := ["_law_stream"]) F__law_atom fun _ _ _ _ _ _ us hl => match us, hl with | [_], _ => rfl
  obtain ⟨w__law_part, F__law_part⟩ := c.def_ 48 (d := d__law_part) rfl
  have F__law_part : FnP K "_law_part" "_law_part" (top 61) (He.ga K "_law_part") w__law_part := F__law_part
  have g__law_part := He.glo_ok X G (c.fact 46 (f := .glo "_law_part") rfl)
  have b__law_part := FunD.bindsN (ps := ["_law_stream"]) F__law_part fun _ _ _ _ _ _ us hl => match us, hl with | [_], _ => rfl
  obtain ⟨w__law_bodies, F__law_bodies⟩ := c.def_ 49 (d := d__law_bodies) rfl
  have F__law_bodies : FnP K "_law_bodies" "_law_bodies" (top 62) (He.ga K "_law_bodies") w__law_bodies := F__law_bodies
  have g__law_bodies := He.glo_ok X G (c.fact 47 (f := .glo "_law_bodies") rfl)
  have b__law_bodies := FunD.bindsN (ps := ["_law_stream"]) F__law_bodies fun _ _ _ _ _ _ us hl => match us, hl with | [_], _ => rfl
  obtain ⟨w__law_looks_right, F__law_looks_right⟩ := c.def_ 50 (d := d__law_looks_right) rfl
  have F__law_looks_right : FnP K "_law_looks_right" "_law_looks_right" (top 63) (He.ga K "_law_looks_right") w__law_looks_right := F__law_looks_right
  have g__law_looks_right := He.glo_ok X G (c.fact 48 (f := .glo "_law_looks_right") rfl)
  have b__law_looks_right := FunD.bindsN (ps := ["_law_thing"]) F__law_looks_right fun _ _ _ _ _ _ us hl => match us, hl with | [_], _ => rfl
  obtain ⟨w__law_tried, F__law_tried⟩ := c.def_ 51 (d := d__law_tried) rfl
  have F__law_tried : FnP K "_law_tried" "_law_tried" (top 64) (He.ga K "_law_tried") w__law_tried := F__law_tried
  have g__law_tried := He.glo_ok X G (c.fact 49 (f := .glo "_law_tried") rfl)
  have b__law_tried := FunD.bindsN (ps := ["_law_ask"]) F__law_tried fun _ _ _ _ _ _ us hl => match us, hl with | [_], _ => rfl
  obtain ⟨w__law_kept, F__law_kept⟩ := c.def_ 52 (d := d__law_kept) rfl
  have F__law_kept : FnP K "_law_kept" "_law_kept" (top 65) (He.ga K "_law_kept") w__law_kept := F__law_kept
  have g__law_kept := He.glo_ok X G (c.fact 50 (f := .glo "_law_kept") rfl)
  have b__law_kept := FunD.bindsN (ps := ["_law_part_here", "_law_calls_here"]) F__law_kept fun _ _ _ _ _ _ us hl => match us, hl with | [_, _], _ => rfl
  obtain ⟨w__law_calls, F__law_calls⟩ := c.def_ 53 (d := d__law_calls) rfl
  have F__law_calls : FnP K "_law_calls" "_law_calls" (top 66) (He.ga K "_law_calls") w__law_calls := F__law_calls
  have g__law_calls := He.glo_ok X G (c.fact 51 (f := .glo "_law_calls") rfl)
  have b__law_calls := FunD.bindsN (ps := ["_law_stream"]) F__law_calls fun _ _ _ _ _ _ us hl => match us, hl with | [_], _ => rfl
  obtain ⟨w__law_put_right, F__law_put_right⟩ := c.def_ 54 (d := d__law_put_right) rfl
  have F__law_put_right : FnP K "_law_put_right" "_law_put_right" (top 67) (He.ga K "_law_put_right") w__law_put_right := F__law_put_right
  have g__law_put_right := He.glo_ok X G (c.fact 52 (f := .glo "_law_put_right") rfl)
  have b__law_put_right := FunD.bindsN (ps := ["_law_stream", "_law_body"]) F__law_put_right fun _ _ _ _ _ _ us hl => match us, hl with | [_, _], _ => rfl
  obtain ⟨w_law, F_law⟩ := c.def_ 55 (d := d_law) rfl
  have F_law : FnP K "law" "law" (top 68) (He.ga K "law") w_law := F_law
  have g_law := He.glo_ok X G (c.fact 53 (f := .glo "law") rfl)
  have e := hfa.symm.trans g_law
  cases e
  have b := FunD.bindsA (ps := ["_law_script"]) F_law fun _ _ _ _ _ _ us hl => match us, hl with | [_], _ => rfl

  have hco_law : w_law.code = .ref (He.cT K ("law", none)).1 := by
    obtain ⟨oc, od, dV, kV, doc, pm, an, cdv, ct, osl, hw, lk, hcd, _, _⟩ := F_law.ex
    obtain ⟨co, rfl⟩ := He.codeIn_ref hcd
    have q : w_law.code = .ref co := by rw [hw]
    have lk2 : K.lookup (He.fAd K ("law", none)) = some ⟨oc, od, .func w_law, osl⟩ := lk
    show w_law.code = .ref (He.codeOf K ("law", none))
    rw [He.codeOf_eq lk2 q]
    exact q
  have hco__law_put_right : w__law_put_right.code = .ref (He.cT K ("_law_put_right", none)).1 := by
    obtain ⟨oc, od, dV, kV, doc, pm, an, cdv, ct, osl, hw, lk, hcd, _, _⟩ := F__law_put_right.ex
    obtain ⟨co, rfl⟩ := He.codeIn_ref hcd
    have q : w__law_put_right.code = .ref co := by rw [hw]
    have lk2 : K.lookup (He.fAd K ("_law_put_right", none)) = some ⟨oc, od, .func w__law_put_right, osl⟩ := lk
    show w__law_put_right.code = .ref (He.codeOf K ("_law_put_right", none))
    rw [He.codeOf_eq lk2 q]
    exact q
  refine ⟨w_law, [(He.cT K ("_law_put_right", none)), (He.cT K ("law", none))], spLaw K (He.cT K ("_law_put_right", none)).2 (He.cT K ("law", none)).2, (fun p hp => by
    rcases List.mem_cons.mp hp with rfl | hp
    · exact s.empty _ List.mem_cons_self
    · rw [List.mem_singleton.mp hp]
      exact s.empty _ (List.mem_cons_of_mem _ List.mem_cons_self)), (fun p hp => by
    rcases List.mem_cons.mp hp with rfl | hp
    · exact s.out _ List.mem_cons_self
    · rw [List.mem_singleton.mp hp]
      exact s.out _ (List.mem_cons_of_mem _ List.mem_cons_self)), (fun p hp => by
    rcases List.mem_cons.mp hp with rfl | hp
    · exact PySem.W.codeHd_of_K X (s.hd _ List.mem_cons_self)
    · rw [List.mem_singleton.mp hp]
      exact PySem.W.codeHd_of_K X (s.hd _ (List.mem_cons_of_mem _ List.mem_cons_self))), fun s v => b s [v] rfl, fun H a ns hl _ hT hS => ⟨a, ns, rfl, hS, hl, hT _ List.mem_cons_self, hT _ (List.mem_cons_of_mem _ List.mem_cons_self), fun _ => rfl⟩, fun base hK hG hTB => ?_⟩
  have E_BadBody : ExCl l.prog w K mg base "BadBody" (He.ga K "BadBody") 1 ["index"] := ex1 O_BadBody m_BadBody (of_decide_eq_true y_fi_BadBody) (of_decide_eq_true y_ti_BadBody) (ok_BadBody_init F_BadBody___init__ O_BadBody n_BadBody_index) b_BadBody___init__
  have E_BadCalls : ExCl l.prog w K mg base "BadCalls" (He.ga K "BadCalls") 1 ["thing"] := ex1 O_BadCalls m_BadCalls (of_decide_eq_true y_fi_BadCalls) (of_decide_eq_true y_ti_BadCalls) (ok_BadCalls_init F_BadCalls___init__ O_BadCalls n_BadCalls_thing) b_BadCalls___init__
  have Cal_is_integer : Cal l.prog w K mg base "is_integer" _ _ _ := ⟨⟨_, _, g_is_integer, F_is_integer.kp, (ok_is_integer F_is_integer T), b_is_integer⟩⟩
  have Cal_is_name : Cal l.prog w K mg base "is_name" _ _ _ := ⟨⟨_, _, g_is_name, F_is_name.kp, (ok_is_name F_is_name T), b_is_name⟩⟩
  have Cal_is_thing : Cal l.prog w K mg base "is_thing" _ _ _ := ⟨⟨_, _, g_is_thing, F_is_thing.kp, (ok_is_thing F_is_thing T Cal_is_integer Cal_is_name), b_is_thing⟩⟩
  have Cal_is_letter : Cal l.prog w K mg base "is_letter" _ _ _ := ⟨⟨_, _, g_is_letter, F_is_letter.kp, (ok_is_letter F_is_letter T), b_is_letter⟩⟩
  have Cal_is_term : Cal l.prog w K mg base "is_term" _ _ _ := ⟨⟨_, _, g_is_term, F_is_term.kp, (ok_is_term F_is_term T Cal_is_thing Cal_is_letter), b_is_term⟩⟩
  have Cal__is_row : Cal l.prog w K mg base "_is_row" _ _ _ := ⟨⟨_, _, g__is_row, F__is_row.kp, (ok_is_row F__is_row T Cal_is_name), b__is_row⟩⟩
  have Cal_as_atom : Cal l.prog w K mg base "as_atom" _ _ _ := ⟨⟨_, _, g_as_atom, F_as_atom.kp, (ok_as_atom F_as_atom T Cal__is_row Cal_is_term), b_as_atom⟩⟩
  have Cal_as_fact : Cal l.prog w K mg base "as_fact" _ _ _ := ⟨⟨_, _, g_as_fact, F_as_fact.kp, (ok_as_fact F_as_fact T Cal__is_row Cal_is_thing), b_as_fact⟩⟩
  have Cal__as_not : Cal l.prog w K mg base "_as_not" _ _ _ := ⟨⟨_, _, g__as_not, F__as_not.kp, (ok_as_not F__as_not T Cal_as_atom), b__as_not⟩⟩
  have Cal__as_unlike : Cal l.prog w K mg base "_as_unlike" _ _ _ := ⟨⟨_, _, g__as_unlike, F__as_unlike.kp, (ok_as_unlike F__as_unlike T Cal_is_term), b__as_unlike⟩⟩
  have Cal_as_part : Cal l.prog w K mg base "as_part" _ _ _ := ⟨⟨_, _, g_as_part, F_as_part.kp, (ok_as_part F_as_part T Cal_as_atom Cal__as_not Cal__as_unlike), b_as_part⟩⟩
  have Cal_checked_body : CalX l.prog w K mg base "checked_body" 7 ["thing"] (spX K (mBody (He.ga K "BadBody"))) := ⟨⟨_, _, g_checked_body, F_checked_body.kp, (ok_checked_body F_checked_body T Cal_as_part E_BadBody), b_checked_body⟩⟩
  have Cal_as_body : Cal l.prog w K mg base "as_body" _ _ _ := ⟨⟨_, _, g_as_body, F_as_body.kp, (ok_as_body F_as_body T Cal_as_part), b_as_body⟩⟩
  have Cal_as_rule : Cal l.prog w K mg base "as_rule" _ _ _ := ⟨⟨_, _, g_as_rule, F_as_rule.kp, (ok_as_rule F_as_rule T Cal_as_atom Cal_as_body), b_as_rule⟩⟩
  have Cal_is_atom : Cal l.prog w K mg base "is_atom" _ _ _ := ⟨⟨_, _, g_is_atom, F_is_atom.kp, (ok_is_atom F_is_atom T Cal_as_atom), b_is_atom⟩⟩
  have Cal_is_fact : Cal l.prog w K mg base "is_fact" _ _ _ := ⟨⟨_, _, g_is_fact, F_is_fact.kp, (ok_is_fact F_is_fact T Cal_as_fact), b_is_fact⟩⟩
  have Cal_is_part : Cal l.prog w K mg base "is_part" _ _ _ := ⟨⟨_, _, g_is_part, F_is_part.kp, (ok_is_part F_is_part T Cal_as_part), b_is_part⟩⟩
  have Cal_is_body : Cal l.prog w K mg base "is_body" _ _ _ := ⟨⟨_, _, g_is_body, F_is_body.kp, (ok_is_body F_is_body T Cal_as_body), b_is_body⟩⟩
  have Cal_is_rule : Cal l.prog w K mg base "is_rule" _ _ _ := ⟨⟨_, _, g_is_rule, F_is_rule.kp, (ok_is_rule F_is_rule T Cal_as_rule), b_is_rule⟩⟩
  have Cal_terms_of : Cal l.prog w K mg base "terms_of" _ _ _ := ⟨⟨_, _, g_terms_of, F_terms_of.kp, (ok_terms_of F_terms_of T), b_terms_of⟩⟩
  have Cal_letters_in : Cal l.prog w K mg base "letters_in" _ _ _ := ⟨⟨_, _, g_letters_in, F_letters_in.kp, (ok_letters_in F_letters_in T Cal_terms_of Cal_is_letter), b_letters_in⟩⟩
  have Cal_filled_part : Cal l.prog w K mg base "filled_part" 3 ["part", "calls"] (spD K (mFill w 2)) := ⟨⟨_, _, g_filled_part, F_filled_part.kp, ok_filled_part F_filled_part T g_filled_part F_filled_part.kp b_filled_part 2, b_filled_part⟩⟩
  have Cal_letters_of : CalX l.prog w K mg base "letters_of" 8 ["body"] (spX K (mLetters (He.ga K "BadBody"))) := ⟨⟨_, _, g_letters_of, F_letters_of.kp, (ok_letters_of F_letters_of T Cal_checked_body Cal_letters_in), b_letters_of⟩⟩
  have Cal_put_in : CalX l.prog w K mg base "put_in" 8 ["body", "calls"] (spX K (mPutIn w (He.ga K "BadBody") (He.ga K "BadCalls"))) := ⟨⟨_, _, g_put_in, F_put_in.kp, (ok_put_in F_put_in T Cal_checked_body Cal_is_letter Cal_is_term Cal_filled_part E_BadCalls), b_put_in⟩⟩
  have Cal__law_start : Cal l.prog w K mg base "_law_start" _ _ _ := ⟨⟨_, _, g__law_start, F__law_start.kp, (ok_start F__law_start T), b__law_start⟩⟩
  have Cal__law_draw : Cal l.prog w K mg base "_law_draw" 1 ["_law_stream", "_law_many"] (spR (Strm (T2 (He.cT K ("_law_put_right", none)).2 (He.cT K ("law", none)).2)) K (mDraw (T2 (He.cT K ("_law_put_right", none)).2 (He.cT K ("law", none)).2))) := ⟨⟨_, _, g__law_draw, F__law_draw.kp, FnOk.imp (ok_draw F__law_draw T) draw_R, b__law_draw⟩⟩
  have Cal__law_pick : Cal l.prog w K mg base "_law_pick" _ _ _ := ⟨⟨_, _, g__law_pick, F__law_pick.kp, (ok_L_pick F__law_pick T Cal__law_draw), b__law_pick⟩⟩
  have Cal__law_same : Cal l.prog w K mg base "_law_same" 10 ["_law_found", "_law_due"] (spD K (mSame 9)) := ⟨⟨_, _, g__law_same, F__law_same.kp, ok_L_same F__law_same T g__law_same F__law_same.kp b__law_same 9, b__law_same⟩⟩
  have Cal__law_each_once : Cal l.prog w K mg base "_law_each_once" _ _ _ := ⟨⟨_, _, g__law_each_once, F__law_each_once.kp, (ok_L_each_once F__law_each_once T), b__law_each_once⟩⟩
  have Cal__law_is_letter : Cal l.prog w K mg base "_law_is_letter" _ _ _ := ⟨⟨_, _, g__law_is_letter, F__law_is_letter.kp, (ok_L_is_letter F__law_is_letter T), b__law_is_letter⟩⟩
  have Cal__law_letters : Cal l.prog w K mg base "_law_letters" _ _ _ := ⟨⟨_, _, g__law_letters, F__law_letters.kp, (ok_L_letters F__law_letters T Cal__law_each_once Cal__law_is_letter), b__law_letters⟩⟩
  have Cal__law_put : Cal l.prog w K mg base "_law_put" _ _ _ := ⟨⟨_, _, g__law_put, F__law_put.kp, (ok_L_put F__law_put T Cal__law_is_letter), b__law_put⟩⟩
  have Cal__law_is_list : Cal l.prog w K mg base "_law_is_list" _ _ _ := ⟨⟨_, _, g__law_is_list, F__law_is_list.kp, (ok_L_is_list F__law_is_list T), b__law_is_list⟩⟩
  have Cal__law_has_signs : Cal l.prog w K mg base "_law_has_signs" _ _ _ := ⟨⟨_, _, g__law_has_signs, F__law_has_signs.kp, (ok_L_has_signs F__law_has_signs T), b__law_has_signs⟩⟩
  have Cal__law_is_name : Cal l.prog w K mg base "_law_is_name" _ _ _ := ⟨⟨_, _, g__law_is_name, F__law_is_name.kp, (ok_L_is_name F__law_is_name T Cal__law_has_signs), b__law_is_name⟩⟩
  have Cal__law_is_thing : Cal l.prog w K mg base "_law_is_thing" _ _ _ := ⟨⟨_, _, g__law_is_thing, F__law_is_thing.kp, (ok_L_is_thing F__law_is_thing T Cal__law_is_name), b__law_is_thing⟩⟩
  have Cal__law_is_a_letter : Cal l.prog w K mg base "_law_is_a_letter" _ _ _ := ⟨⟨_, _, g__law_is_a_letter, F__law_is_a_letter.kp, (ok_L_is_a_letter F__law_is_a_letter T Cal__law_has_signs), b__law_is_a_letter⟩⟩
  have Cal__law_is_term : Cal l.prog w K mg base "_law_is_term" _ _ _ := ⟨⟨_, _, g__law_is_term, F__law_is_term.kp, (ok_L_is_term F__law_is_term T Cal__law_is_thing Cal__law_is_a_letter), b__law_is_term⟩⟩
  have Cal__law_is_atom : Cal l.prog w K mg base "_law_is_atom" _ _ _ := ⟨⟨_, _, g__law_is_atom, F__law_is_atom.kp, (ok_L_is_atom F__law_is_atom T Cal__law_is_list Cal__law_is_name Cal__law_is_term), b__law_is_atom⟩⟩
  have Cal__law_is_fact : Cal l.prog w K mg base "_law_is_fact" _ _ _ := ⟨⟨_, _, g__law_is_fact, F__law_is_fact.kp, (ok_L_is_fact F__law_is_fact T Cal__law_is_atom Cal__law_is_thing), b__law_is_fact⟩⟩
  have Cal__law_is_part : Cal l.prog w K mg base "_law_is_part" _ _ _ := ⟨⟨_, _, g__law_is_part, F__law_is_part.kp, (ok_L_is_part F__law_is_part T Cal__law_is_atom Cal__law_is_list Cal__law_is_term), b__law_is_part⟩⟩
  have Cal__law_is_body : Cal l.prog w K mg base "_law_is_body" _ _ _ := ⟨⟨_, _, g__law_is_body, F__law_is_body.kp, (ok_L_is_body F__law_is_body T Cal__law_is_part Cal__law_is_list), b__law_is_body⟩⟩
  have Cal__law_is_rule : Cal l.prog w K mg base "_law_is_rule" _ _ _ := ⟨⟨_, _, g__law_is_rule, F__law_is_rule.kp, (ok_L_is_rule F__law_is_rule T Cal__law_is_atom Cal__law_is_list Cal__law_is_body), b__law_is_rule⟩⟩
  have Cal__law_word : Cal l.prog w K mg base "_law_word" _ _ _ := ⟨⟨_, _, g__law_word, F__law_word.kp, (ok_L_word F__law_word T Cal__law_draw Cal__law_pick), b__law_word⟩⟩
  have Cal__law_term : Cal l.prog w K mg base "_law_term" _ _ _ := ⟨⟨_, _, g__law_term, F__law_term.kp, (ok_L_term F__law_term T Cal__law_draw Cal__law_pick Cal__law_word), b__law_term⟩⟩
  have Cal__law_atom : Cal l.prog w K mg base "_law_atom" _ _ _ := ⟨⟨_, _, g__law_atom, F__law_atom.kp, (ok_L_atom F__law_atom T Cal__law_draw Cal__law_pick Cal__law_word Cal__law_term), b__law_atom⟩⟩
  have Cal__law_part : Cal l.prog w K mg base "_law_part" _ _ _ := ⟨⟨_, _, g__law_part, F__law_part.kp, (ok_L_part F__law_part T Cal__law_draw Cal__law_pick Cal__law_atom Cal__law_term), b__law_part⟩⟩
  have Cal__law_bodies : Cal l.prog w K mg base "_law_bodies" _ _ _ := ⟨⟨_, _, g__law_bodies, F__law_bodies.kp, (ok_L_bodies F__law_bodies T Cal__law_draw Cal__law_pick Cal__law_part), b__law_bodies⟩⟩
  have Cal__law_looks_right : Cal l.prog w K mg base "_law_looks_right" _ _ _ := ⟨⟨_, _, g__law_looks_right, F__law_looks_right.kp, (ok_L_looks_right F__law_looks_right T Cal_is_name Cal_is_thing Cal_is_letter Cal_is_term Cal_is_atom Cal_is_fact Cal_is_part Cal_is_body Cal_is_rule Cal__law_is_name Cal__law_is_thing Cal__law_is_a_letter Cal__law_is_term Cal__law_is_atom Cal__law_is_fact Cal__law_is_part Cal__law_is_body Cal__law_is_rule Cal__law_same), b__law_looks_right⟩⟩
  have Cal__law_kept : Cal l.prog w K mg base "_law_kept" _ _ _ := ⟨⟨_, _, g__law_kept, F__law_kept.kp, (ok_L_kept F__law_kept T Cal__law_put), b__law_kept⟩⟩
  have Cal__law_calls : Cal l.prog w K mg base "_law_calls" _ _ _ := ⟨⟨_, _, g__law_calls, F__law_calls.kp, (ok_L_calls F__law_calls T Cal__law_draw Cal__law_pick Cal__law_is_a_letter Cal__law_is_term), b__law_calls⟩⟩
  have hPP : (He.cT K ("_law_put_right", none)).2 ≠ (He.cT K ("law", none)).2 := of_decide_eq_true y_cc
  have Cal__law_put_right : Cal l.prog w K mg base "_law_put_right" 15 ["_law_stream", "_law_body"] (spR (Strm (T2 (He.cT K ("_law_put_right", none)).2 (He.cT K ("law", none)).2)) K (mPutRight (T2 (He.cT K ("_law_put_right", none)).2 (He.cT K ("law", none)).2))) := ⟨⟨_, _, g__law_put_right, F__law_put_right.kp, ok_L_put_right F__law_put_right hco__law_put_right T RE Cal_letters_of Cal_put_in g__law_tried F__law_tried b__law_tried (hTB _ List.mem_cons_self) hPP Cal__law_is_part Cal__law_calls Cal__law_kept Cal__law_letters Cal__law_same, b__law_put_right⟩⟩
  exact ok_law F_law hco_law T RE Cal_letters_of Cal_put_in g__law_tried F__law_tried b__law_tried (hTB _ (List.mem_cons_of_mem _ List.mem_cons_self)) hPP Cal__law_start Cal__law_word Cal__law_term Cal__law_atom Cal__law_part Cal__law_bodies Cal__law_looks_right Cal__law_put_right Cal__law_same
end K01

set_option Elab.async false
set_option linter.all false
set_option maxRecDepth 100000
set_option maxHeartbeats 0
namespace K01
open PySem PySem.Spec PyProof.Rows L2
abbrev RR : PySem.W.OpenRow := PySem.W.OpenLaw.row PySem.Challenge.rw_rulehouse_k01_words_told
abbrev hkX : PySem.W.Hook := He.hookX 5 fa fn [] laws extra
def obX (s : PySem.W.SharedT) : He.AlX := He.obsX 5 fa fn [] laws extra (HandSHeadRun.getT s)
theorem obX_eq (s : PySem.W.SharedT) : obX s = hkX.obs s.abs := He.obsX_eq (HandSHeadRun.getT_eq s)
def names0 : List PySem.Str := [PySem.Str.ofString "HouseError", PySem.Str.ofString "BadBody", PySem.Str.ofString "BadCalls", PySem.Str.ofString "SMALL", PySem.Str.ofString "CAPITALS", PySem.Str.ofString "FIGURES", PySem.Str.ofString "NAME_SIGNS", PySem.Str.ofString "BARRED_NAMES", PySem.Str.ofString "LONGEST_NAME", PySem.Str.ofString "LONGEST_LETTER", PySem.Str.ofString "is_integer", PySem.Str.ofString "is_name", PySem.Str.ofString "is_thing", PySem.Str.ofString "is_letter", PySem.Str.ofString "is_term", PySem.Str.ofString "MOST_TERMS", PySem.Str.ofString "_is_row", PySem.Str.ofString "as_atom", PySem.Str.ofString "as_fact", PySem.Str.ofString "_as_not", PySem.Str.ofString "_as_unlike", PySem.Str.ofString "as_part"]
def names1 : List PySem.Str := [PySem.Str.ofString "checked_body", PySem.Str.ofString "as_body", PySem.Str.ofString "as_rule", PySem.Str.ofString "is_atom", PySem.Str.ofString "is_fact", PySem.Str.ofString "is_part", PySem.Str.ofString "is_body", PySem.Str.ofString "is_rule", PySem.Str.ofString "terms_of", PySem.Str.ofString "letters_in", PySem.Str.ofString "filled_part", PySem.Str.ofString "letters_of", PySem.Str.ofString "put_in", PySem.Str.ofString "_law_start", PySem.Str.ofString "_law_draw", PySem.Str.ofString "_law_pick", PySem.Str.ofString "_law_same", PySem.Str.ofString "_law_each_once", PySem.Str.ofString "_law_is_letter", PySem.Str.ofString "_law_letters", PySem.Str.ofString "_law_put", PySem.Str.ofString "_law_is_list"]
def names2 : List PySem.Str := [PySem.Str.ofString "_law_has_signs", PySem.Str.ofString "_law_is_name", PySem.Str.ofString "_law_is_thing", PySem.Str.ofString "_law_is_a_letter", PySem.Str.ofString "_law_is_term", PySem.Str.ofString "_law_is_atom", PySem.Str.ofString "_law_is_fact", PySem.Str.ofString "_law_is_part", PySem.Str.ofString "_law_is_body", PySem.Str.ofString "_law_is_rule", PySem.Str.ofString "_law_word", PySem.Str.ofString "_law_term", PySem.Str.ofString "_law_atom", PySem.Str.ofString "_law_part", PySem.Str.ofString "_law_bodies", PySem.Str.ofString "_law_looks_right", PySem.Str.ofString "_law_tried", PySem.Str.ofString "_law_kept", PySem.Str.ofString "_law_calls", PySem.Str.ofString "_law_put_right"]
def names : List PySem.Str := names0 ++ names1 ++ names2
theorem run (w : World) : HandSHeadRun.RunEq RR (PySem.W.view RR.prog [68]) hkX obX 4000 names w := by
  intro os
  kernel_rfl
end K01
open PySem PySem.W PySem.Calls PyProof.Rows
theorem PySem.Challenge.cw_rulehouse_k01_words_told_holds : PySem.Challenge.rw_rulehouse_k01_words_told.Holds := by
  w_on; o_law
  refine HandSHeadRun.head_any (r := OpenLaw.row PySem.Challenge.rw_rulehouse_k01_words_told) (q := view (OpenLaw.row PySem.Challenge.rw_rulehouse_k01_words_told).prog [68]) (H := K01.hkX) (ob := K01.obX) (M := 4000) (loose := K01.names) (d := HandSHeadRun.topDef (OpenLaw.row PySem.Challenge.rw_rulehouse_k01_words_told).prog 68) (kwd := []) K01.obX_eq
    (by kernel_rfl) (fun s => by kernel_rfl) K01.run (by kernel_rfl) (by kernel_rfl) (by kernel_rfl) (by rfl) (by first | assumption | decide +kernel) (by decide +kernel) ⟨rfl, rfl, rfl, rfl, rfl, by decide +kernel⟩ ?hw ?hc
  case hw => w_witness2
  case hc =>
    refine LamX.walk_ofTsE (l := PySem.Challenge.rw_rulehouse_k01_words_told) (n := 63) (k := 18) (x := "_law_script") (CX := fun _ => L2.CX0) rfl (by decide) (by kernel_rfl) ⟨rfl, by decide, by decide⟩ ?F (fun _ _ _ _ _ z => z)
    intro w mg fa h Y G hmg0
    obtain ⟨K, KX, c⟩ := Y
    have hmg : mg ("law" : PySem.Str) = some (.ref fa) := by
      have e : (HandSHeadRun.topDef (OpenLaw.row PySem.Challenge.rw_rulehouse_k01_words_told).prog 68).name = ("law" : PySem.Str) := by kernel_rfl
      rw [← e]
      exact hmg0
    exact ⟨K, KX, K01.facts KX G hmg c⟩

