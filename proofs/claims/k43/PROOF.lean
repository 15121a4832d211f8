import PyProof.Rows.All
import Wide.All
import OpenK.AllK
import Wide.FinOn
import Lean
import PyProof.EqAt
import PyProof.EqKinds
import PyProof.TupleCall
import PyProof.NeData
import PyProof.P3In
import PyProof.ListRange
import PyProof.TupleOfStr
import PyProof.Rows.SumAny
import PyProof.Rows.Range3
import PyProof.StrCalls
import PyProof.Rows.SetFrom
import PyProof.WalksMore
import PyProof.TupleOfSeq
import KE.KRevSl
import KE.KLam
import KE.KSortKey
import KE.KNestM
import OpenK.KOwn
import KE.KIsNot
import KE.KTryMore
import PyProof.DictTable
import PyProof.Rows.TupDisplay
import PyProof.ReprLen
import PyProof.ReprRoads
import KE.KDictOf
import PyProof.AttrMissHeap
import PyProof.NeKinds
import PyProof.ZipIter
import PyProof.DictCompW
import PyProof.DictItems
import PyProof.DictWalks
import PyProof.DictDisplay
import PyProof.ExcAttrAll.ValueError
import PyProof.TupleKey
import PyProof.IsRules
import KE.KDictList
import KE.KDictSum
import PyProof.FactsAll.set_1
import PyProof.FactsAll.set_2
import PySem.Challenge.RW_cellships_k43_how_many_rest
set_option Elab.async false
set_option linter.all false
set_option bootstrap.genMatcherCode false
set_option genSizeOf false
set_option maxRecDepth 100000
set_option maxHeartbeats 4000000
namespace L2
open PySem PySem.Spec PyProof.Rows
noncomputable abbrev Key := Sum Int Str
noncomputable def ui : Key -> Value -> Bool
 | .inl k, v => Value.isInt k v
 | .inr x, v => Value.isStrOf x v
noncomputable def B1 (w : World) : Key -> Int
 | .inl k => hashInt k
 | .inr x => hashStr w x
theorem bh : ∀ {k : Key} {v : Value}, ui k v = true -> (∃ i t, k = Sum.inl i /\ v = Value.int i t) \/ (∃ x t, k = Sum.inr x /\ v = Value.str x t)
 | .inl i, v, h => by
  obtain ⟨t, e⟩ := Value.isInt_shape (k := i) (v := v) h
  exact .inl ⟨i, t, rfl, e⟩
 | .inr x, v, h => by
  obtain ⟨t, e⟩ := Value.isStrOf_shape (x := x) (v := v) h
  exact .inr ⟨x, t, rfl, e⟩
theorem vV (a b : Int) : decide ((Sum.inl a : Key) = Sum.inl b) = (a == b) := by
 by_cases e : a = b
 ·subst e; simp
 ·have h : ¬ (Sum.inl a : Key) = Sum.inl b := fun q => e (Sum.inl.inj q)
  rw [decide_eq_false h]
  exact (beq_eq_false_iff_ne.mpr e).symm
theorem vW (a b : Str) : decide ((Sum.inr a : Key) = Sum.inr b) = decide (a = b) := by
 by_cases e : a = b
 ·subst e; simp
 ·have h : ¬ (Sum.inr a : Key) = Sum.inr b := fun q => e (Sum.inr.inj q)
  rw [decide_eq_false h, decide_eq_false e]
theorem vX (a : Int) (b : Str) : decide ((Sum.inl a : Key) = Sum.inr b) = false := decide_eq_false (fun q => nomatch q)
theorem vY (a : Str) (b : Int) : decide ((Sum.inr a : Key) = Sum.inl b) = false := decide_eq_false (fun q => nomatch q)
noncomputable def ip (prog : Program) (w : World) : PySem.KeyKind prog w Key where
 is := ui
 hash := B1 w
 inj := fun v a b ha hb => by
  rcases bh ha with ⟨i, t, rfl, rfl⟩ | ⟨x, t, rfl, rfl⟩
  ·rcases bh hb with ⟨j, u, rfl, e⟩ | ⟨y, u, rfl, e⟩
   ·injection e with e1 _; rw [e1]
   ·exact nomatch e
  ·rcases bh hb with ⟨j, u, rfl, e⟩ | ⟨y, u, rfl, e⟩
   ·exact nomatch e
   ·injection e with e1 _; rw [e1]
 byValue := fun k v h => by
  rcases bh h with ⟨i, t, rfl, rfl⟩ | ⟨x, t, rfl, rfl⟩ <;> rfl
 pyHash := fun hv h => by
  rcases bh hv with ⟨i, t, rfl, rfl⟩ | ⟨x, t, rfl, rfl⟩
  ·exact wpAny_pyHash_int h
  ·exact wpAny_pyHash_str h
 eqBool := fun hu hv h => by
  rcases bh hu with ⟨i, t, rfl, rfl⟩ | ⟨x, t, rfl, rfl⟩
  ·rcases bh hv with ⟨j, u, rfl, rfl⟩ | ⟨y, u, rfl, rfl⟩
   ·rw [vV] at h; exact wpAny_eqBool_int h
   ·rw [vX] at h; exact SeqAt.EqAt.int_str i t y u _ _ _ _ h
  ·rcases bh hv with ⟨j, u, rfl, rfl⟩ | ⟨y, u, rfl, rfl⟩
   ·rw [vY] at h; exact SeqAt.EqAt.str_int x t j u _ _ _ _ h
   ·rw [vW] at h; exact wpAny_eqBool_str h
 «strs» := fun k x t v h => by
  rcases bh h with ⟨i, u, rfl, e⟩ | ⟨y, u, rfl, e⟩
  ·exact nomatch e
  ·injection e with e1 _
   subst e1
   cases v <;> rfl
end L2
namespace L2
open PySem PySem.Spec PyProof.Rows
inductive V where
 | non | bl (b : Bool) | int (i : Int) | str (x : Str) | byt (b : Array UInt8) | flt (b : UInt64) | ref (a : Addr) | ty (n : String)
 deriving DecidableEq
noncomputable def RelV : V -> Value -> Prop
 | .non, u => u = Value.none
 | .bl b, u => u = Value.bool b
 | .int i, u => ∃ t, u = Value.int i t
 | .str x, u => ∃ t, u = Value.str x t
 | .byt b, u => ∃ t, u = Value.bytes b t
 | .flt b, u => ∃ t, u = Value.float b t
 | .ref a, u => u = Value.ref a
 | .ty n, u => u = Value.type n
noncomputable abbrev Vals : List V -> List Value -> Prop := Paired RelV
theorem Vals.length {xs : List V} {us : List Value} (r : Vals xs us) : xs.length = us.length := Paired.length r
theorem Vals.get : ∀ {xs : List V} {us : List Value} {i : Nat} {x : V}, Vals xs us -> xs[i]? = some x -> ∃ u, us[i]? = some u /\ RelV x u
 | _, _, _, _, .nil, e => by simp at e
 | _, _, 0, _, .cons r _, e => by simp at e; subst e; exact ⟨_, rfl, r⟩
 | _, _, i + 1, x, .cons _ t, e => by
  obtain ⟨u, h1, h2⟩ := Vals.get (i := i) (x := x) t (by simpa using e)
  exact ⟨u, by simpa using h1, h2⟩
theorem Vals.set {x : V} {u : Value} (r : RelV x u) : ∀ {xs : List V} {us : List Value} (i : Nat), Vals xs us -> Vals (xs.set i x) (us.set i u)
 | _, _, _, .nil => .nil
 | _, _, 0, .cons _ t => .cons r t
 | _, _, i + 1, .cons q t => .cons q (Vals.set r i t)
theorem Vals.append : ∀ {xs ys : List V} {us ws : List Value}, Vals xs us -> Vals ys ws -> Vals (xs ++ ys) (us ++ ws)
 | _, _, _, _, .nil, s => s
 | _, _, _, _, .cons r t, s => .cons r (Vals.append t s)
theorem Vals.take : ∀ {xs : List V} {us : List Value} (n : Nat), Vals xs us -> Vals (xs.take n) (us.take n)
 | _, _, 0, _ => .nil
 | _, _, _ + 1, .nil => .nil
 | _, _, n + 1, .cons r t => .cons r (Vals.take n t)
theorem Vals.drop : ∀ {xs : List V} {us : List Value} (n : Nat), Vals xs us -> Vals (xs.drop n) (us.drop n)
 | _, _, 0, r => r
 | _, _, _ + 1, .nil => .nil
 | _, _, n + 1, .cons _ t => Vals.drop n t
noncomputable def RelO : Option V -> Option Value -> Prop
 | some v, some u => RelV v u
 | none, none => True
 | _, _ => False
noncomputable def KV {κ : Type} : List (κ × V) -> List (κ × Value) -> Prop := Paired fun (p : κ × V) (q : κ × Value) => p.1 = q.1 /\ RelV p.2 q.2
noncomputable def kV : Key -> V
 | .inl i => .int i
 | .inr x => .str x
inductive HO where
 /-- a list -/
 | lst (xs : List V)
 /-- a tuple (never changes) -/
 | tup (xs : List V)
 /-- a dict whose keys are ints and texts; one whose keys are tuples of ints and texts (the empty one is both) -/
 | dK (kvs : List (Key × V)) | dT (kvs : List (List Key × V))
 /-- a set of ints: its members, its size -/
 | set (S : Int -> Bool) (n : Nat)
 /-- an instance of the class at C, its dict at dx, its attributes -/
 | ins (C dx : Addr) (fs : List (Str × V))
 /-- the dict of the instance at x -/
 | own (x : Addr)
 /-- the dict of an exception -/
 | xd (fs : List (Str × V))
 /-- a bound method, f of x -/
 | met (f x : Addr)
 /-- a range object lo, lo + 1, .. below hi -/
 | rng (lo hi : Int)
 /-- a thing that is known to the object (the script; a dict while a loop walks it): read, never written while it is so -/
 | frz (o : Obj) (u : HO)
 /-- a code object's table -/
 | tbl (ps : Array Value)
 /-- any other thing, by what is true of its one object (a def of one's own: SetO a S n := HO.ext fun h => ..) -/
 | ext (φ : Heap -> Prop)
noncomputable abbrev Hp := Addr -> Option HO
noncomputable def upd (H : Hp) (a : Addr) (o : HO) : Hp := fun b => if b = a then some o else H b
theorem aw {H : Hp} {a : Addr} {o : HO} : upd H a o a = some o := by unfold upd; rw [if_pos rfl]
theorem au {H : Hp} {a b : Addr} {o : HO} (h : b ≠ a) : upd H a o b = H b := by unfold upd; rw [if_neg h]
theorem aX {H : Hp} {a b : Addr} {o : HO} (h : H a = some o) (h' : H b = none) : a ≠ b := by
 intro e; subst e; rw [h] at h'; cases h'
section
variable (P : Program) (w : World)
noncomputable def aY (H : Hp) (h : Heap) (a : Addr) : HO -> Prop
 | .lst xs => xs.length <= sizeLine /\ ∃ (its : List Value) (n : Nat), Vals xs its /\ h.get? a = some { cls := .type "list", data := .seq its.toArray n }
 | .tup xs => xs.length <= sizeLine /\ ∃ its : List Value, Vals xs its /\ IsTup h a its.toArray
 | .dK kvs => kvs.length <= sizeLine /\ (a == sysModules) = false /\ ∃ vs, KV kvs vs /\ h.DictOf (ip P w) a vs
 | .dT kvs => kvs.length <= sizeLine /\ (a == sysModules) = false /\ ∃ xs : List (List Key × Addr × Value),
   Paired (fun (p : List Key × V) (q : List Key × Addr × Value) => p.1 = q.1 /\ H q.2.1 = some (.tup (p.1.map kV)) /\ RelV p.2 q.2.2) kvs xs /\
   ∃ o es ep, h.get? a = some o /\ o.ExactDict /\ o.data = .dict es ep /\ es.toList = xs.map (entryOfKey (tupleKind (ip P w))) /\ (xs.map (·.1)).Nodup
 | .set S n => h.SetOf (intKind P w) a S n
 | .ins C dx fs => H dx = some (.own a) /\ fs.length <= 1000 /\ dx ≠ a /\ h.get? a = some (PySem.W.instObj C dx) /\
   ∃ mA, h.Ns1 dx mA /\ (∀ f, RelO (fs.lookup f) (mA f)) /\ PySem.Within mA (fs.map (·.1))
 | .own _ => ∃ o, h.get? a = some o
 | .xd fs => ∃ mA, h.Ns1 a mA /\ ∀ f, RelO (fs.lookup f) (mA f)
 | .rng lo hi => ∃ t u v, h.get? a = some { cls := .type "range", data := .fields #[.int lo t, .int hi u, .int 1 v] }
 | .frz o u => h.get? a = some o /\ aY H h a u
 | .tbl ps => ∃ qs, h.get? a = some { cls := .none, data := .fields qs } /\ TriplesOk qs.toList /\ ∀ pos cv, codeAmong pos qs.toList = some cv -> ∃ c q t, cv = .ref c /\ H c = some (.own a) /\ ps[0]? = some (.str q t) /\ h.CodeRec cv q
 | .met f x => h.get? a = some (PySem.W.methodObj (.ref f) (.ref x))
 | .ext φ => φ h /\ (∃ o, h.get? a = some o) /\ ∀ h1 h2 : Heap, φ h1 -> (∀ o, h1.get? a = some o -> h2.get? a = some o) -> φ h2
noncomputable def HOk (H : Hp) (h : Heap) : Prop := ∀ a o, H a = some o -> aY P w H h a o
end
section
variable {P : Program} {w : World} {H H' : Hp} {h h' : Heap} {a : Addr} {o : HO}
theorem aY.lt (x : aY P w H h a o) : a < h.objs.size := by
 cases o with
 | lst xs => obtain ⟨_, _, _, _, e⟩ := x; exact Heap.lt_size e
 | tup xs => obtain ⟨_, _, _, p⟩ := x; exact p.lt
 | dK kvs => obtain ⟨_, _, _, _, o, _, _, e, _⟩ := x; exact Heap.lt_size e
 | dT kvs => obtain ⟨_, _, _, _, o, _, _, e, _⟩ := x; exact Heap.lt_size e
 | set S n => obtain ⟨o, _, _, _, e, _⟩ := x; exact Heap.lt_size e
 | ins C dx fs => obtain ⟨_, _, _, e, _⟩ := x; exact Heap.lt_size e
 | own y => obtain ⟨_, e⟩ := x; exact Heap.lt_size e
 | xd fs => obtain ⟨_, ⟨_, _, _, e, _⟩, _⟩ := x; exact Heap.lt_size e
 | rng lo hi => obtain ⟨_, _, _, e⟩ := x; exact Heap.lt_size e
 | frz ob u => obtain ⟨e, _⟩ := x; exact Heap.lt_size e
 | tbl ps => obtain ⟨_, e, _⟩ := x; exact Heap.lt_size e
 | met f y => exact Heap.lt_size (show h.get? a = some _ from x)
 | ext φ => obtain ⟨_, ⟨_, e⟩, _⟩ := x; exact Heap.lt_size e
theorem Paired.mapP {α β : Type} {F G : α -> β -> Prop} : ∀ {l₁ : List α} {l₂ : List β}, Paired F l₁ l₂ -> (∀ a b, F a b -> G a b) -> Paired G l₁ l₂
 | _, _, .nil, _ => .nil
 | _, _, .cons r t, f => .cons (f _ _ r) (Paired.mapP t f)
theorem aY.stay (x : aY P w H h a o) (k : ∀ b u, (b = a \/ H b = some (.own a)) -> h.get? b = some u -> h'.get? b = some u)
  (ho : ∀ b, H b = some (.own a) -> H' b = some (.own a)) (ht : ∀ b xs, H b = some (.tup xs) -> H' b = some (.tup xs)) : aY P w H' h' a o := by
 induction o with
 | lst xs => obtain ⟨z, its, n, r, e⟩ := x; exact ⟨z, its, n, r, k _ _ (.inl rfl) e⟩
 | tup xs => obtain ⟨z, its, r, ob, e, c⟩ := x; exact ⟨z, its, r, ob, k _ _ (.inl rfl) e, c⟩
 | dK kvs => obtain ⟨z, y, vs, r, ob, es, ep, e, c⟩ := x; exact ⟨z, y, vs, r, ob, es, ep, k _ _ (.inl rfl) e, c⟩
 | dT kvs =>
  obtain ⟨z, y, xs, r, ob, es, ep, e, c⟩ := x
  exact ⟨z, y, xs, Paired.mapP r fun p q z => ⟨z.1, ht _ _ z.2.1, z.2.2⟩, ob, es, ep, k _ _ (.inl rfl) e, c⟩
 | set S n => obtain ⟨ob, es, ep, t, e, c⟩ := x; exact ⟨ob, es, ep, t, k _ _ (.inl rfl) e, c⟩
 | ins C dx fs =>
  obtain ⟨d, z, ne, e, mA, ⟨od, es, ep, e2, c⟩, r⟩ := x
  exact ⟨ho _ d, z, ne, k _ _ (.inl rfl) e, mA, ⟨od, es, ep, k _ _ (.inr d) e2, c⟩, r⟩
 | own y => obtain ⟨ob, e⟩ := x; exact ⟨ob, k _ _ (.inl rfl) e⟩
 | xd fs => obtain ⟨mA, ⟨od, es, ep, e, c⟩, r⟩ := x; exact ⟨mA, ⟨od, es, ep, k _ _ (.inl rfl) e, c⟩, r⟩
 | rng lo hi => obtain ⟨t, u, v, e⟩ := x; exact ⟨t, u, v, k _ _ (.inl rfl) e⟩
 | frz ob u ih => obtain ⟨e, q⟩ := x; exact ⟨k _ _ (.inl rfl) e, ih q⟩
 | tbl ps =>
  obtain ⟨qs, e, t, f⟩ := x
  refine ⟨qs, k _ _ (.inl rfl) e, t, fun pos cv hc => ?_⟩
  obtain ⟨c, q, tk, rfl, ho', hq, c2, oc, vs, tq, ec, e1, r⟩ := f pos cv hc
  cases ec
  exact ⟨c, q, tk, rfl, ho _ ho', hq, c, oc, vs, tq, rfl, k _ _ (.inr ho') e1, r⟩
 | met f y =>
  have e : h.get? a = some (PySem.W.methodObj (.ref f) (.ref y)) := x
  show h'.get? a = some (PySem.W.methodObj (.ref f) (.ref y))
  exact k a _ (.inl rfl) e
 | ext φ => obtain ⟨p, ⟨o, e⟩, st⟩ := x; exact ⟨st _ _ p fun o q => k _ _ (.inl rfl) q, ⟨o, k _ _ (.inl rfl) e⟩, st⟩
theorem HOk.lt (x : HOk P w H h) (e : H a = some o) : a < h.objs.size := (x a o e).lt
theorem HOk.fresh (x : HOk P w H h) (e : h.objs.size <= a) : H a = none := by
 cases q : H a with
 | none => rfl
 | some u => exact absurd (Nat.lt_of_lt_of_le (x.lt q) e) (Nat.lt_irrefl _)
theorem HOk.kept (x : HOk P w H h) (k : ∀ b u, h.get? b = some u -> h'.get? b = some u) : HOk P w H h' := fun a o e =>
 (x a o e).stay (fun b u _ q => k b u q) (fun _ q => q) fun _ _ q => q
theorem HOk.laid (x : HOk P w H h) (k : ∀ b u, h.get? b = some u -> h'.get? b = some u) (hp : h.objs.size <= a) (new : aY P w (upd H a o) h' a o) : HOk P w (upd H a o) h' := fun b u e => by
 have hn := x.fresh hp
 by_cases hb : b = a
 ·subst hb; rw [aw] at e; cases e; exact new
 ·rw [au hb] at e
  exact (x b u e).stay (fun c v _ q => k c v q) (fun c q => by rw [au (aX q hn)]; exact q) fun c xs q => by rw [au (aX q hn)]; exact q
end
noncomputable def Rd (H : Hp) (a : Addr) (u : HO) : Prop := H a = some u \/ ∃ o, H a = some (.frz o u)
theorem Rd.ok {P : Program} {w : World} {H : Hp} {h : Heap} {a : Addr} {u : HO} (r : Rd H a u) (x : HOk P w H h) : aY P w H h a u := by
 rcases r with r | ⟨o, r⟩
 ·exact x a u r
 ·obtain ⟨_, q⟩ := x a _ r
  exact q
noncomputable def Mut : Option HO -> Prop
 | some (.lst _) => True
 | some (.dK _) => True
 | some (.dT _) => True
 | some (.set _ _) => True
 | some (.ins _ _ _) => True
 | some (.ext _) => True
 | _ => False
section
variable {P : Program} {w : World} {H : Hp} {h h' : Heap} {x e : Addr} {o' : HO}
theorem HOk.write (ok : HOk P w H h) (mu : Mut (H x)) (he : e = x \/ H e = some (.own x)) (k : ∀ b u, b ≠ e -> h.get? b = some u -> h'.get? b = some u) (heo : ∃ u, h'.get? e = some u)
  (new : aY P w (upd H x o') h' x o') : HOk P w (upd H x o') h' := fun b u q => by
 have nown : ∀ c y, H c = some (.own y) -> c ≠ x := fun c y r z => by subst z; rw [r] at mu; exact mu
 have ntup : ∀ c xs, H c = some (.tup xs) -> c ≠ x := fun c xs r z => by subst z; rw [r] at mu; exact mu
 by_cases hb : b = x
 ·subst hb; rw [aw] at q; cases q; exact new
 ·rw [au hb] at q
  by_cases hbe : b = e
  ·have q' : H b = some (.own x) := by
    rcases he with z | z
    ·exact absurd (hbe.trans z) hb
    ·rw [hbe]; exact z
   rw [q] at q'; cases q'
   obtain ⟨v, hv⟩ := heo
   exact ⟨v, by rw [hbe]; exact hv⟩
  ·refine (ok b u q).stay (fun c v hc r => k c v ?_ r) (fun c r => by rw [au (nown c b r)]; exact r) fun c xs r => by rw [au (ntup c xs r)]; exact r
   rcases hc with rfl | hc
   ·exact hbe
   ·rintro rfl
    rcases he with z | z
    ·exact nown c b hc z
    ·rw [hc] at z; cases z; exact hb rfl
end
structure Un (fs ex : List Addr) (H H' : Hp) (h h' : Heap) : Prop where
 keep : ∀ b o, h.get? b = some o -> H b = none -> b ∉ fs -> b ∉ ex -> h'.get? b = some o
 slot : ∀ b o, h.get? b = some o -> H b = none -> b ∈ fs -> b ∉ ex -> ∃ sl, h'.get? b = some { o with slots := sl }
 free : ∀ b o, h.get? b = some o -> H b = none -> b ∉ ex -> H' b = none
 there : ∀ b o, h.get? b = some o -> b ∉ ex -> ∃ o', h'.get? b = some o'
 tups : ∀ b xs, H b = some (.tup xs) -> H' b = some (.tup xs)
 frzs : ∀ b o u, H b = some (.frz o u) -> H' b = some (.frz o u)
 tbls : ∀ b ps, H b = some (.tbl ps) -> ∃ more, H' b = some (.tbl (ps ++ more))
section
variable {fs fs' ex ex' : List Addr} {H H1 H2 : Hp} {h h1 h2 h' : Heap} {a x e : Addr} {o : HO}
theorem Un.any (u : Un fs ex H H1 h h1) {b : Addr} {ob : Obj} (q : h.get? b = some ob) (n : H b = none) (hx : b ∉ ex) : ∃ sl, h1.get? b = some { ob with slots := sl } := by
 by_cases hb : b ∈ fs
 ·exact u.slot b ob q n hb hx
 ·exact ⟨ob.slots, u.keep b ob q n hb hx⟩
theorem Un.kept (k : ∀ b u, h.get? b = some u -> h'.get? b = some u) : Un fs ex H H h h' :=
 ⟨fun b ob q _ _ _ => k b ob q, fun b ob q _ _ _ => ⟨ob.slots, k b ob q⟩, fun _ _ _ n _ => n, fun b ob q _ => ⟨ob, k b ob q⟩, fun _ _ q => q, fun _ _ _ q => q, fun _ ps q => ⟨#[], by rw [q]; simp⟩⟩
theorem Un.refl : Un fs ex H H h h := Un.kept fun _ _ q => q
theorem Un.laid (k : ∀ b u, h.get? b = some u -> h'.get? b = some u) (hp : h.objs.size <= a) (hn : H a = none) : Un fs ex H (upd H a o) h h' where
 keep := fun b u q _ _ _ => k b u q
 slot := fun b u q _ _ _ => ⟨u.slots, k b u q⟩
 free := fun b u q n _ => by rw [au (Nat.ne_of_lt (Nat.lt_of_lt_of_le (Heap.lt_size q) hp))]; exact n
 there := fun b u q _ => ⟨u, k b u q⟩
 tups := fun b xs q => by rw [au (aX q hn)]; exact q
 frzs := fun b u xs q => by rw [au (aX q hn)]; exact q
 tbls := fun b ps q => ⟨#[], by rw [au (aX q hn), q]; simp⟩
theorem Un.write (mu : Mut (H x)) (he : e = x \/ H e = some (.own x)) (k : ∀ b u, b ≠ e -> h.get? b = some u -> h'.get? b = some u) (heo : ∃ u, h'.get? e = some u) : Un fs ex H (upd H x o) h h' := by
 have hx : ∀ b, H b = none -> b ≠ x := fun b n z => by subst z; rw [n] at mu; exact mu
 have hb : ∀ b, H b = none -> b ≠ e := fun b n z => by
  subst z
  rcases he with r | r
  ·exact hx b n r
  ·rw [n] at r; cases r
 have hm : ∀ b u, H b = some u -> ¬ Mut (some u) -> b ≠ x := fun b u q nm z => by subst z; rw [q] at mu; exact nm mu
 refine ⟨fun b u q n _ _ => k b u (hb b n) q, fun b u q n _ _ => ⟨u.slots, k b u (hb b n) q⟩, fun b u q n _ => by rw [au (hx b n)]; exact n, fun b u q _ => ?_,
  fun b xs q => by rw [au (hm b _ q fun z => z)]; exact q, fun b u xs q => by rw [au (hm b _ q fun z => z)]; exact q, fun b ps q => ⟨#[], by rw [au (hm b _ q fun z => z), q]; simp⟩⟩
 by_cases hbe : b = e
 ·subst hbe; exact heo
 ·exact ⟨u, k b u hbe q⟩
end
noncomputable def trk (h : Heap) (H : Hp) : List Addr := (List.range h.objs.size).filter fun a => (H a).isSome
noncomputable def iq (h : Heap) (H : Hp) : Heap := PySem.W.hideAll h (trk h H)
theorem mB (h : Heap) (H : Hp) : (iq h H).objs.size = h.objs.size := PySem.W.hideAll_size _ _
theorem nJ {h : Heap} {H : Hp} {b : Addr} {o : Obj} (e : h.get? b = some o) (n : H b = none) : (iq h H).get? b = some o :=
 PySem.W.hideAll_get _ e fun hm => by
  have q : (H b).isSome = true := (List.mem_filter.mp hm).2
  rw [n] at q; simp at q
theorem qU {h : Heap} {H : Hp} {b : Addr} {o : Obj} (e : (iq h H).get? b = some o) : h.get? b = some o /\ H b = none := by
 have e' : h.get? b = some o := PySem.W.of_hideAll (trk h H) e
 refine ⟨e', ?_⟩
 cases q : H b with
 | none => rfl
 | some x =>
  have hm : b ∈ trk h H := List.mem_filter.mpr ⟨List.mem_range.mpr (Heap.lt_size e'), by simp [q]⟩
  have z : (iq h H).get? b = none := PySem.W.hideAll_none (trk h H) hm
  rw [z] at e; cases e
end L2
namespace L2
open PySem PySem.Spec PyProof.Rows
structure Mod (K : PySem.W.Frag) (mg : Str -> Option Value) (base : Heap) : Prop where
 kin : K.In base
 glob : base.Ns mainGlobals mg
 blt : ∃ mb, base.Ns builtinsNs mb /\ ∀ x : Str, x ≠ "__name__" -> mb x = bootBuiltins x
 nolimit : base.NoLimit
structure Cx where
 prog : Program
 w : World
 K : PySem.W.Frag
 mg : Str -> Option Value
 base : Heap
 A : Around
 N : List Str
 s₀ : Shared
 H₀ : Hp
 env : Env
 outer : List Env
 stack : List Env
 ex : List Addr
 fn : Str -> Bool
 calm : Bool
 pn : List (Addr × Obj)
 xe : Value -> Shared -> Prop
noncomputable def frs (l : List Env) : List Addr := l.filterMap (·.frame)
noncomputable abbrev Cx.fs (X : Cx) : List Addr := frs X.outer
noncomputable def Vis (sc : Scope) (x : Str) : Prop := sc.names.lookup x = some .local \/ sc.names.lookup x = some .cell \/ sc.names.lookup x = some .free
noncomputable def Loc (sc : Scope) (x : Str) : Prop := sc.names.lookup x = some .local \/ sc.names.lookup x = some .cell
noncomputable def Look (env : Env) (h : Heap) (m : Str -> Option Value) (x : Str) (u : Value) : Prop :=
 (env.kindOf x = some .local /\ m x = some u) \/ ((env.kindOf x = some .cell \/ env.kindOf x = some .free) /\ ∃ c, env.cells.lookup x = some c /\ h.IsCell c (some u))
structure Cx.Ok (X : Cx) : Prop where
 mod : Mod X.K X.mg X.base
 kind : X.env.scope.kind = .function
 glob : X.env.globals = mainGlobals
 blt : X.env.builtins = builtinsNs
 above : X.s₀.heap.objs.size <= X.env.locals
 inj : ∀ x y c, X.env.cells.lookup x = some c -> X.env.cells.lookup y = some c -> x = y
 has : ∀ x, (X.env.kindOf x = some .cell \/ X.env.kindOf x = some .free) -> ∃ c, X.env.cells.lookup x = some c
 cab : ∀ x c, X.fn x = true -> X.env.cells.lookup x = some c -> X.s₀.heap.objs.size <= c
 hd : X.calm = true -> X.A.handled = none
 frames : X.A.frames = some X.stack
 stk : X.stack = X.outer \/ (X.stack = X.env :: X.outer /\ X.env.frame = some X.env.locals)
 exf : ∀ b ∈ X.ex, b ≠ X.env.locals /\ ∀ x c, X.env.cells.lookup x = some c -> c ≠ b
 bs : ∀ b o, X.base.get? b = some o -> X.s₀.heap.get? b = some o /\ X.H₀ b = none
 bsz : X.base.objs.size <= X.s₀.heap.objs.size
 noex : ∀ b o, X.base.get? b = some o -> b ∉ X.ex
 exfs : ∀ b ∈ X.ex, b ∉ X.fs
 funs : X.s₀.heap.FunFrames X.base X.outer
 frf : ∀ b ∈ X.fs, X.H₀ b = none
structure Inv (X : Cx) (pins : List (Addr × Obj)) (σ : List (Option V)) (H : Hp) (s : Shared) : Prop where
 ok : X.Ok
 os : s.os = X.s₀.os
 bare : AllBare s.gens
 base : Un X.fs X.ex X.H₀ H X.s₀.heap s.heap
 loc : ∃ m, s.heap.Ns X.env.locals m /\ ∀ (i : Nat) (x : Str) (v : V), X.N[i]? = some x -> σ[i]? = some (some v) -> Vis X.env.scope x -> ∃ u, RelV v u /\ Look X.env s.heap m x u
 cell : ∀ x c, X.env.cells.lookup x = some c -> ∃ v, s.heap.IsCell c v
 free : H X.env.locals = none
 freeC : ∀ x c, X.env.cells.lookup x = some c -> H c = none
 pin : ∀ p ∈ X.pn ++ pins, s.heap.get? p.1 = some p.2 /\ H p.1 = none /\ p.1 ≠ X.env.locals /\ p.1 ∉ X.fs /\ ∀ v, p.2.data ≠ .cell v
 hok : HOk X.prog X.w H s.heap
 len : σ.length = X.N.length
section
variable {X : Cx} {pins : List (Addr × Obj)} {σ : List (Option V)} {H H' : Hp} {s : Shared} {h' : Heap}
theorem Cx.Ok.nofr (ok : X.Ok) {b : Addr} {o : Obj} (e : X.base.get? b = some o) : b ∉ X.fs := fun hb => by
 have := (ok.funs.mem hb).1
 rw [e] at this; cases this
theorem Inv.bs (I : Inv X pins σ H s) : ∀ b o, X.base.get? b = some o -> s.heap.get? b = some o /\ H b = none := fun b o e =>
 ⟨I.base.keep b o (I.ok.bs b o e).1 (I.ok.bs b o e).2 (I.ok.nofr e) (I.ok.noex b o e), I.base.free b o (I.ok.bs b o e).1 (I.ok.bs b o e).2 (I.ok.noex b o e)⟩
theorem Inv.bk (I : Inv X pins σ H s) : ∀ b o, X.base.get? b = some o -> s.heap.get? b = some o := fun b o e => (I.bs b o e).1
theorem Inv.mod (I : Inv X pins σ H s) : Mod X.K X.mg X.base := I.ok.mod
theorem Inv.kIn (I : Inv X pins σ H s) : X.K.In s.heap := I.ok.mod.kin.keeps I.bk
theorem Inv.fr (I : Inv X pins σ H s) : ∃ m, Fr X.base X.env.locals s.heap m :=
 let ⟨m, hn, _⟩ := I.loc
 ⟨m, hn, I.bk, Nat.le_trans I.ok.bsz I.ok.above⟩
theorem Inv.lt (I : Inv X pins σ H s) : X.env.locals < s.heap.objs.size := let ⟨_, hn, _⟩ := I.loc; hn.lt
theorem Inv.sz (I : Inv X pins σ H s) : X.s₀.heap.objs.size <= s.heap.objs.size := Nat.le_trans I.ok.above (Nat.le_of_lt I.lt)
theorem Inv.nofs (I : Inv X pins σ H s) {a : Addr} (h : s.heap.objs.size <= a) : a ∉ X.fs := fun hb => by
 obtain ⟨_, o, ho, _⟩ := I.ok.funs.mem hb
 exact absurd (Nat.lt_of_lt_of_le (Heap.lt_size ho) (Nat.le_trans I.sz h)) (Nat.lt_irrefl _)
theorem Inv.cne (I : Inv X pins σ H s) : ∀ x c, X.env.cells.lookup x = some c -> c ≠ X.env.locals := fun x c e z => by
 obtain ⟨v, o, ho, hd⟩ := I.cell x c e
 obtain ⟨m, ⟨o', es, ep, ho', hd', _⟩, _⟩ := I.loc
 rw [z, ho'] at ho; cases ho; rw [hd'] at hd; cases hd
theorem Inv.funs (I : Inv X pins σ H s) : s.heap.FunFrames X.base X.outer := by
 have all : ∀ (l : List Env), (∀ b ∈ frs l, b ∈ X.fs) -> X.s₀.heap.FunFrames X.base l -> s.heap.FunFrames X.base l := by
  intro l
  induction l with
  | nil => intro _ _; trivial
  | cons env r ih =>
   intro hs hl
   obtain ⟨hk, ⟨L, o, hf, hn, ho, hd⟩, hr⟩ := hl
   have hL : L ∈ X.fs := hs L (by unfold frs; rw [List.filterMap_cons, hf]; exact List.mem_cons_self)
   obtain ⟨sl, e⟩ := I.base.slot L o ho (I.ok.frf L hL) hL fun z => I.ok.exfs L z hL
   exact ⟨hk, ⟨L, _, hf, hn, e, hd⟩, ih (fun b hb => hs b (by unfold frs; rw [List.filterMap_cons, hf]; exact List.mem_cons_of_mem _ hb)) hr⟩
 exact all X.outer (fun _ hb => hb) I.ok.funs
theorem Inv.stack (I : Inv X pins σ H s) : s.heap.FunFrames X.base X.stack := by
 rcases I.ok.stk with e | ⟨e, hf⟩
 ·rw [e]; exact I.funs
 ·rw [e]
  obtain ⟨m, hn, _⟩ := I.loc
  refine .cons (by rw [I.ok.kind]; decide) hf hn ?_ I.funs
  exact Heap.get?_none_of_le (Nat.le_trans I.ok.bsz I.ok.above)
theorem Inv.stkSub (I : Inv X pins σ H s) : ∀ b ∈ frs X.stack, b ∈ X.env.locals :: X.fs := fun b hb => by
 rcases I.ok.stk with e | ⟨e, hf⟩
 ·rw [e] at hb; exact List.mem_cons_of_mem _ hb
 ·rw [e] at hb
  unfold frs at hb
  rw [List.filterMap_cons, hf] at hb
  exact hb
theorem Inv.stkFree (I : Inv X pins σ H s) : ∀ b ∈ frs X.stack, H b = none := fun b hb => by
 rcases List.mem_cons.mp (I.stkSub b hb) with e | hb
 ·rw [e]; exact I.free
 ·obtain ⟨_, o, ho, _⟩ := I.ok.funs.mem hb
  exact I.base.free b o ho (I.ok.frf b hb) fun z => I.ok.exfs b z hb
theorem Inv.step {g' : Array GenState} {t' : Nat} {d' : Drawn} {ch : List Addr} (I : Inv X pins σ H s)
  (hch : ∀ b ∈ ch, (b ∈ X.ex \/ X.s₀.heap.objs.size <= b) /\ b ≠ X.env.locals /\ (∀ x c, X.env.cells.lookup x = some c -> c ≠ b) /\ ∀ p ∈ X.pn ++ pins, p.1 ≠ b)
  (keep : ∀ b o, b ≠ X.env.locals -> b ∉ X.fs -> b ∉ ch -> s.heap.get? b = some o -> H b = none -> h'.get? b = some o)
  (slot : ∀ b o, b ≠ X.env.locals -> b ∈ X.fs -> b ∉ ch -> s.heap.get? b = some o -> H b = none -> ∃ sl, h'.get? b = some { o with slots := sl }) (free : ∀ b o, b ∉ ch -> s.heap.get? b = some o -> H b = none -> H' b = none)
  (there : ∀ b o, b ∉ ch -> s.heap.get? b = some o -> ∃ o', h'.get? b = some o')
  (tups : ∀ b xs, H b = some (.tup xs) -> H' b = some (.tup xs)) (frzs : ∀ b o u, H b = some (.frz o u) -> H' b = some (.frz o u)) (tbls : ∀ b ps, H b = some (.tbl ps) -> ∃ more, H' b = some (.tbl (ps ++ more)))
  (ns : ∀ m, s.heap.Ns X.env.locals m -> h'.Ns X.env.locals m) (hok : HOk X.prog X.w H' h') (hg : AllBare g') :
  Inv X pins σ H' { s with heap := h', gens := g', drawn := d', toks := t' } := by
 have neL : ∀ b o, X.s₀.heap.get? b = some o -> b ≠ X.env.locals := fun b o e => Nat.ne_of_lt (Nat.lt_of_lt_of_le (Heap.lt_size e) I.ok.above)
 have neC : ∀ b o, X.s₀.heap.get? b = some o -> b ∉ X.ex -> b ∉ ch := fun b o e hx hb => by
  rcases (hch b hb).1 with z | z
  ·exact hx z
  ·exact absurd (Nat.lt_of_lt_of_le (Heap.lt_size e) z) (Nat.lt_irrefl _)
 have cellK : ∀ x c, X.env.cells.lookup x = some c -> ∀ v, s.heap.IsCell c v -> h'.IsCell c v := fun x c e v ⟨o, ho, hd⟩ => by
  have nch : c ∉ ch := fun z => (hch c z).2.2.1 x c e rfl
  by_cases hc : c ∈ X.fs
  ·obtain ⟨sl, q⟩ := slot c o (I.cne x c e) hc nch ho (I.freeC x c e)
   exact ⟨_, q, hd⟩
  ·exact ⟨o, keep c o (I.cne x c e) hc nch ho (I.freeC x c e), hd⟩
 refine ⟨I.ok, I.os, hg, ⟨fun b o e n hb hx => ?_, fun b o e n hb hx => ?_, fun b o e n hx => ?_, fun b o e hx => ?_, fun b xs e => tups b xs (I.base.tups b xs e), fun b o xs e => frzs b o xs (I.base.frzs b o xs e), fun b ps e => ?_⟩, ?_, fun x c e => ?_, ?_, fun x c e => ?_, fun p hp => ?_, hok, I.len⟩
 ·exact keep b o (neL b o e) hb (neC b o e hx) (I.base.keep b o e n hb hx) (I.base.free b o e n hx)
 ·obtain ⟨sl, e1⟩ := I.base.slot b o e n hb hx
  obtain ⟨sl', e2⟩ := slot b _ (neL b o e) hb (neC b o e hx) e1 (I.base.free b o e n hx)
  exact ⟨sl', e2⟩
 ·obtain ⟨o', e1⟩ := I.base.there b o e hx
  exact free b o' (neC b o e hx) e1 (I.base.free b o e n hx)
 ·obtain ⟨o', e1⟩ := I.base.there b o e hx
  exact there b o' (neC b o e hx) e1
 ·obtain ⟨m1, e1⟩ := I.base.tbls b ps e
  obtain ⟨m2, e2⟩ := tbls b _ e1
  exact ⟨m1 ++ m2, by rw [e2, Array.append_assoc]⟩
 ·obtain ⟨m, hn, hl⟩ := I.loc
  refine ⟨m, ns m hn, fun i x v e1 e2 e3 => ?_⟩
  obtain ⟨u, r, l⟩ := hl i x v e1 e2 e3
  refine ⟨u, r, ?_⟩
  rcases l with l | ⟨k, c, e, z⟩
  ·exact .inl l
  ·exact .inr ⟨k, c, e, cellK x c e _ z⟩
 ·obtain ⟨v, z⟩ := I.cell x c e
  exact ⟨v, cellK x c e v z⟩
 ·obtain ⟨m, ⟨o, _, _, ho, _⟩, _⟩ := I.loc
  exact free _ o (fun z => (hch _ z).2.1 rfl) ho I.free
 ·obtain ⟨v, o, ho, hd⟩ := I.cell x c e
  exact free c o (fun z => (hch c z).2.2.1 x c e rfl) ho (I.freeC x c e)
 ·obtain ⟨e, n, ne, nf, d⟩ := I.pin p hp
  have nch : p.1 ∉ ch := fun z => (hch p.1 z).2.2.2 p hp rfl
  exact ⟨keep p.1 p.2 ne nf nch e n, free p.1 p.2 nch e n, ne, nf, d⟩
theorem Inv.un {t' : Nat} (I : Inv X pins σ H s) (u : Un X.fs [] H H' s.heap h') (hok : HOk X.prog X.w H' h') : Inv X pins σ H' { s with heap := h', toks := t' } := by
 obtain ⟨m, ⟨o, es, ep, ho, r⟩, _⟩ := id I.loc
 obtain ⟨sl, hL⟩ := u.any ho I.free (by simp)
 exact I.step (g' := s.gens) (d' := s.drawn) (ch := []) (fun _ z => nomatch z) (fun b o _ hb _ e n => u.keep b o e n hb (by simp)) (fun b o _ hb _ e n => u.slot b o e n hb (by simp)) (fun b o _ e n => u.free b o e n (by simp)) (fun b o _ e => u.there b o e (by simp)) u.tups u.frzs u.tbls (fun m' hm => by
  obtain ⟨o', es', ep', ho', r'⟩ := hm
  rw [ho] at ho'; cases ho'
  exact ⟨_, es', ep', hL, r'⟩) hok I.bare
theorem Inv.call {g' : Array GenState} {t' : Nat} {d' : Drawn} {ch : List Addr} (I : Inv X pins σ H s) (u : Un (frs X.stack) ch H H' s.heap h') (hok : HOk X.prog X.w H' h') (hg : AllBare g')
  (hch : ∀ b ∈ ch, (b ∈ X.ex \/ X.s₀.heap.objs.size <= b) /\ b ≠ X.env.locals /\ (∀ x c, X.env.cells.lookup x = some c -> c ≠ b) /\ ∀ p ∈ X.pn ++ pins, p.1 ≠ b) :
  Inv X pins σ H' { s with heap := h', gens := g', drawn := d', toks := t' } := by
 obtain ⟨m, ⟨o, es, ep, ho, r⟩, _⟩ := id I.loc
 obtain ⟨sl, hL⟩ := u.any ho I.free fun z => (hch _ z).2.1 rfl
 exact I.step (ch := ch) hch (fun b o hL hb hc e n => u.keep b o e n (fun z => (List.mem_cons.mp (I.stkSub b z)).elim hL hb) hc) (fun b o _ _ hc e n => u.any e n hc) (fun b o hc e n => u.free b o e n hc) (fun b o hc e => u.there b o e hc) u.tups u.frzs u.tbls (fun m' hm => by
  obtain ⟨o', es', ep', ho', r'⟩ := hm
  rw [ho] at ho'; cases ho'
  exact ⟨_, es', ep', hL, r'⟩) hok hg
theorem Inv.turned {t' : Nat} {it : Addr} (I : Inv X pins σ H s) (k : ∀ b o, b ≠ it -> s.heap.get? b = some o -> h'.get? b = some o) (hn : H it = none) (hL : it ≠ X.env.locals)
  (h1 : it ∈ X.ex \/ X.s₀.heap.objs.size <= it) (h2 : ∀ x c, X.env.cells.lookup x = some c -> c ≠ it) (h3 : ∀ p ∈ X.pn ++ pins, p.1 ≠ it) : Inv X pins σ H { s with heap := h', toks := t' } := by
 have nit : ∀ b u, H b = some u -> b ≠ it := fun b u e z => by rw [z, hn] at e; cases e
 refine I.step (g' := s.gens) (d' := s.drawn) (ch := [it]) (fun b hb => ?_) (fun b o _ _ hc e _ => k b o (fun z => hc (by simp [z])) e) (fun b o _ _ hc e _ => ⟨o.slots, k b o (fun z => hc (by simp [z])) e⟩) (fun _ _ _ _ n => n)
  (fun b o hc e => ⟨o, k b o (fun z => hc (by simp [z])) e⟩) (fun _ _ e => e) (fun _ _ _ e => e) (fun b ps e => ⟨#[], by rw [e]; simp⟩) (fun m hm => ?_) (fun b u e => ?_) I.bare
 ·have e : b = it := by simpa using hb
  subst e
  exact ⟨h1, hL, h2, h3⟩
 ·obtain ⟨o, es, ep, ho, r⟩ := hm
  exact ⟨o, es, ep, k _ o (Ne.symm hL) ho, r⟩
 ·refine (I.hok b u e).stay (fun c v hc q => k c v ?_ q) (fun _ q => q) fun _ _ q => q
  rcases hc with z | z
  ·rw [z]; exact nit b u e
  ·exact nit c _ z
theorem Inv.tok (I : Inv X pins σ H s) (t : Nat) : Inv X pins σ H { s with toks := t } := I.un (h' := s.heap) (t' := t) Un.refl I.hok
theorem Inv.kept {t' : Nat} (I : Inv X pins σ H s) (k : ∀ b u, s.heap.get? b = some u -> h'.get? b = some u) : Inv X pins σ H { s with heap := h', toks := t' } := I.un (Un.kept k) (I.hok.kept k)
theorem Inv.laid {a : Addr} {o : HO} {t' : Nat} (I : Inv X pins σ H s) (k : ∀ b u, s.heap.get? b = some u -> h'.get? b = some u) (hp : s.heap.objs.size <= a) (new : aY X.prog X.w (upd H a o) h' a o) :
  Inv X pins σ (upd H a o) { s with heap := h', toks := t' } := I.un (Un.laid k hp (I.hok.fresh hp)) (I.hok.laid k hp new)
theorem Inv.write {x e : Addr} {o : HO} {t' : Nat} (I : Inv X pins σ H s) (mu : Mut (H x)) (he : e = x \/ H e = some (.own x)) (k : ∀ b u, b ≠ e -> s.heap.get? b = some u -> h'.get? b = some u) (heo : ∃ u, h'.get? e = some u)
  (new : aY X.prog X.w (upd H x o) h' x o) : Inv X pins σ (upd H x o) { s with heap := h', toks := t' } := I.un (Un.write mu he k heo) (I.hok.write mu he k heo new)
theorem Inv.weak {σ' : List (Option V)} (I : Inv X pins σ H s) (hl : σ'.length = σ.length) (w : ∀ (i : Nat) v, σ'[i]? = some (some v) -> σ[i]? = some (some v)) : Inv X pins σ' H s :=
 ⟨I.ok, I.os, I.bare, I.base, let ⟨m, hn, hl'⟩ := I.loc; ⟨m, hn, fun i x v e1 e2 e3 => hl' i x v e1 (w i v e2) e3⟩, I.cell, I.free, I.freeC, I.pin, I.hok, hl.trans I.len⟩
theorem Inv.pins_of {pins' : List (Addr × Obj)} (I : Inv X pins σ H s) (h : ∀ p ∈ pins', s.heap.get? p.1 = some p.2 /\ H p.1 = none /\ p.1 ≠ X.env.locals /\ p.1 ∉ X.fs /\ ∀ v, p.2.data ≠ .cell v) : Inv X pins' σ H s :=
 ⟨I.ok, I.os, I.bare, I.base, I.loc, I.cell, I.free, I.freeC, fun p hp => (List.mem_append.mp hp).elim (fun z => I.pin p (List.mem_append_left _ z)) (h p), I.hok, I.len⟩
theorem fN {N : List Str} (hN : N.Nodup) {i j : Nat} {x : Str} (a : N[i]? = some x) (b : N[j]? = some x) : i = j := by
 obtain ⟨h1, e1⟩ := List.getElem?_eq_some_iff.mp a
 obtain ⟨h2, e2⟩ := List.getElem?_eq_some_iff.mp b
 exact (List.getElem_inj hN).mp (e1.trans e2.symm)
theorem eM {M : Model} {A : Around} {E : Value -> Shared -> Prop} {i : Nat} {x : Str} {v : V} {u : Value} {Q : Unit -> Shared -> Prop} (I : Inv X pins σ H s) (hN : X.N.Nodup) (hi : X.N[i]? = some x) (hx : Loc X.env.scope x) (r : RelV v u)
  (h : ∀ s', Inv X pins (σ.set i (some v)) H s' -> (∃ a, Heap.SameBut a s.heap s'.heap /\ (a = X.env.locals \/ X.env.cells.lookup x = some a)) -> Q () s') (hf : X.fn x = true \/ X.env.scope.names.lookup x = some .local := by first | exact .inl rfl | exact .inr rfl | assumption) : wpAny M A (storeName X.env x u) Q E s := by
 obtain ⟨m, hn, hl⟩ := id I.loc
 have hcls : (X.env.scope.kind == .class || (X.env.scope.kind == .module && X.env.locals != X.env.globals)) = false := by rw [I.ok.kind]; rfl
 have hiσ : i < σ.length := by rw [I.len]; exact (List.getElem?_eq_some_iff.mp hi).1
 have cne := I.cne
 have tracked : ∀ {a : Addr} {h' : Heap}, (∃ o, s.heap.get? a = some o /\ H a = none) -> Heap.SameBut a s.heap h' -> HOk X.prog X.w H h' := fun {a h'} ha hs b ob e => by
  obtain ⟨_, _, hfree⟩ := ha
  refine (I.hok b ob e).stay (fun c w' hc q => (hs.2 c ?_).trans q) (fun _ q => q) fun _ _ q => q
  rintro rfl
  rcases hc with rfl | hc
  ·rw [hfree] at e; cases e
  ·rw [hfree] at hc; cases hc
 rcases hx with hk | hk
 ·refine wpAny_storeName_local hk hn (fun h' hn' hs => ?_) hcls
  obtain ⟨oL, _, _, hoL, _⟩ := id hn
  refine h _ ⟨I.ok, I.os, I.bare, ⟨fun b o e n hb hx => ?_, fun b o e n hb hx => ?_, I.base.free, fun b o e hx => ?_, I.base.tups, I.base.frzs, I.base.tbls⟩, ⟨_, hn', fun j y v' e1 e2 e3 => ?_⟩, fun y c e => ?_, I.free, I.freeC, fun p hp => ?_, tracked ⟨oL, hoL, I.free⟩ hs, by simpa using I.len⟩ ⟨_, hs, .inl rfl⟩
  ·exact (hs.2 b (Nat.ne_of_lt (Nat.lt_of_lt_of_le (Heap.lt_size e) I.ok.above))).trans (I.base.keep b o e n hb hx)
  ·obtain ⟨sl, e1⟩ := I.base.slot b o e n hb hx
   exact ⟨sl, (hs.2 b (Nat.ne_of_lt (Nat.lt_of_lt_of_le (Heap.lt_size e) I.ok.above))).trans e1⟩
  ·obtain ⟨o', e1⟩ := I.base.there b o e hx
   exact ⟨o', (hs.2 b (Nat.ne_of_lt (Nat.lt_of_lt_of_le (Heap.lt_size e) I.ok.above))).trans e1⟩
  ·by_cases hj : j = i
   ·subst hj
    rw [hi] at e1; cases e1
    rw [List.getElem?_set_self hiσ] at e2
    cases e2
    exact ⟨u, r, .inl ⟨hk, by simp⟩⟩
   ·rw [List.getElem?_set_ne (Ne.symm hj)] at e2
    obtain ⟨u', r', q⟩ := hl j y v' e1 e2 e3
    refine ⟨u', r', ?_⟩
    rcases q with ⟨k, e⟩ | ⟨k, c, e, z⟩
    ·refine .inl ⟨k, ?_⟩
     have : y ≠ x := fun e => hj (fN hN e1 (e ▸ hi))
     simp [this, e]
    ·exact .inr ⟨k, c, e, z.sameBut hs (cne y c e)⟩
  ·obtain ⟨w', z⟩ := I.cell y c e
   exact ⟨w', z.sameBut hs (cne y c e)⟩
  ·obtain ⟨e, n, ne, nf, d⟩ := I.pin p hp
   exact ⟨(hs.2 p.1 ne).trans e, n, ne, nf, d⟩
 ·have hfn : X.fn x = true := by
   rcases hf with z | z
   ·exact z
   ·rw [z] at hk; cases hk
  obtain ⟨c, hc⟩ := I.ok.has x (.inl hk)
  obtain ⟨w', z⟩ := I.cell x c hc
  refine wpAny_storeName_cell I.ok.kind hk hc z (fun h' hc' hs => ?_)
  obtain ⟨oc, hoc, hocd⟩ := id z
  refine h { s with heap := h' } ⟨I.ok, I.os, I.bare, ⟨fun b o e n hb hx => ?_, fun b o e n hb hx => ?_, I.base.free, fun b o e hx => ?_, I.base.tups, I.base.frzs, I.base.tbls⟩, ⟨m, hn.sameBut hs (Ne.symm (cne x c hc)), fun j y v' e1 e2 e3 => ?_⟩, fun y c' e => ?_, I.free, I.freeC, fun p hp => ?_, tracked ⟨oc, hoc, I.freeC x c hc⟩ hs, by simpa using I.len⟩ ⟨c, hs, .inr hc⟩
  ·exact (hs.2 b (Nat.ne_of_lt (Nat.lt_of_lt_of_le (Heap.lt_size e) (I.ok.cab x c hfn hc)))).trans (I.base.keep b o e n hb hx)
  ·obtain ⟨sl, e1⟩ := I.base.slot b o e n hb hx
   exact ⟨sl, (hs.2 b (Nat.ne_of_lt (Nat.lt_of_lt_of_le (Heap.lt_size e) (I.ok.cab x c hfn hc)))).trans e1⟩
  ·obtain ⟨o', e1⟩ := I.base.there b o e hx
   exact ⟨o', (hs.2 b (Nat.ne_of_lt (Nat.lt_of_lt_of_le (Heap.lt_size e) (I.ok.cab x c hfn hc)))).trans e1⟩
  ·by_cases hj : j = i
   ·subst hj
    rw [hi] at e1; cases e1
    rw [List.getElem?_set_self hiσ] at e2
    cases e2
    exact ⟨u, r, .inr ⟨.inl hk, c, hc, hc'⟩⟩
   ·rw [List.getElem?_set_ne (Ne.symm hj)] at e2
    obtain ⟨u', r', q⟩ := hl j y v' e1 e2 e3
    refine ⟨u', r', ?_⟩
    rcases q with q | ⟨k, c', e, z'⟩
    ·exact .inl q
    ·refine .inr ⟨k, c', e, z'.sameBut hs ?_⟩
     rintro rfl
     exact hj (fN hN e1 (I.ok.inj _ _ _ e hc ▸ hi))
  ·by_cases hcc : c' = c
   ·subst hcc; exact ⟨_, hc'⟩
   ·obtain ⟨w2, z2⟩ := I.cell y c' e
    exact ⟨w2, z2.sameBut hs hcc⟩
  ·obtain ⟨e, n, ne, nf, d⟩ := I.pin p hp
   refine ⟨(hs.2 p.1 ?_).trans e, n, ne, nf, d⟩
   intro q
   rw [q, hoc] at e
   have q' : oc = p.2 := Option.some.inj e
   exact d w' (by rw [<- q']; exact hocd)
theorem cT {M : Model} {A : Around} {E : Value -> Shared -> Prop} {i : Nat} {x : Str} {v : V} {u : Value} {Q : Unit -> Shared -> Prop} (I : Inv X pins σ H s) (hN : X.N.Nodup) (hi : X.N[i]? = some x) (hx : Loc X.env.scope x) (r : RelV v u)
  (h : ∀ s', Inv X pins (σ.set i (some v)) H s' -> Q () s') (hf : X.fn x = true \/ X.env.scope.names.lookup x = some .local := by first | exact .inl rfl | exact .inr rfl | assumption) : wpAny M A (storeName X.env x u) Q E s :=
 eM I hN hi hx r (fun s' I' _ => h s' I') hf
theorem Inv.call' {s' : Shared} {ch : List Addr} (I : Inv X pins σ H s) (ho : s'.os = s.os) (u : Un (frs X.stack) ch H H' s.heap s'.heap) (hok : HOk X.prog X.w H' s'.heap) (hg : AllBare s'.gens)
  (hch : ∀ b ∈ ch, (b ∈ X.ex \/ X.s₀.heap.objs.size <= b) /\ b ≠ X.env.locals /\ (∀ x c, X.env.cells.lookup x = some c -> c ≠ b) /\ ∀ p ∈ X.pn ++ pins, p.1 ≠ b) : Inv X pins σ H' s' := by
 obtain ⟨h', g', d', t', o'⟩ := s'
 have e : o' = s.os := ho
 subst e
 exact I.call (g' := g') (t' := t') (d' := d') u hok hg hch
end
noncomputable abbrev XK := Value -> Option Addr -> Hp -> Prop
noncomputable abbrev St := List (Option V)
noncomputable abbrev VK := V -> Hp -> Prop
noncomputable abbrev TE := St -> Hp -> VK -> Prop
noncomputable abbrev TT := St -> Hp -> (Bool -> Hp -> Prop) -> Prop
noncomputable abbrev TA := St -> Hp -> (List V -> Hp -> Prop) -> Prop
structure Ends where
 nx : St -> Hp -> Prop
 rt : VK
 bk : St -> Hp -> Prop := fun _ _ => False
 ct : St -> Hp -> Prop := fun _ _ => False
noncomputable abbrev TS := Ends -> St -> Hp -> Prop
noncomputable def EP (X : Cx) (pins : List (Addr × Obj)) (σ : St) (Q : VK) (u : Value) (s' : Shared) : Prop := ∃ v H', Inv X pins σ H' s' /\ RelV v u /\ Q v H'
noncomputable def TP (X : Cx) (pins : List (Addr × Obj)) (σ : St) (Q : Bool -> Hp -> Prop) (b : Bool) (s' : Shared) : Prop := ∃ H', Inv X pins σ H' s' /\ Q b H'
noncomputable def AP (X : Cx) (pins : List (Addr × Obj)) (σ : St) (Q : List V -> Hp -> Prop) (us : List Value) (s' : Shared) : Prop := ∃ vs H', Inv X pins σ H' s' /\ Vals vs us /\ Q vs H'
noncomputable def SP (X : Cx) (pins : List (Addr × Obj)) (D : Ends) (f : Flow) (s' : Shared) : Prop :=
 match f with
 | .next => ∃ σ' H', Inv X pins σ' H' s' /\ D.nx σ' H'
 | .brk => ∃ σ' H', Inv X pins σ' H' s' /\ D.bk σ' H'
 | .cont => ∃ σ' H', Inv X pins σ' H' s' /\ D.ct σ' H'
 | .ret u => ∃ v σ' H', Inv X pins σ' H' s' /\ RelV v u /\ D.rt v H'
noncomputable def PE (X : Cx) (e : Expr) (t : TE) : Prop :=
 ∀ (pins : List (Addr × Obj)) (s : Shared) (σ : St) (H : Hp) (Q : VK), Inv X pins σ H s -> t σ H Q -> wpAny (model X.prog X.w) X.A (eval e X.env) (EP X pins σ Q) X.xe s
noncomputable def PT (X : Cx) (e : Expr) (t : TT) : Prop :=
 ∀ (pins : List (Addr × Obj)) (s : Shared) (σ : St) (H : Hp) (Q : Bool -> Hp -> Prop), Inv X pins σ H s -> t σ H Q -> wpAny (model X.prog X.w) X.A (isTrue e X.env (eval e X.env)) (TP X pins σ Q) X.xe s
noncomputable def PW (X : Cx) (e : Expr) (t : TT) : Prop :=
 ∀ (whole : Sem Value) (pins : List (Addr × Obj)) (s : Shared) (σ : St) (H : Hp) (Q : Bool -> Hp -> Prop), Inv X pins σ H s -> t σ H Q -> wpAny (model X.prog X.w) X.A (isTrue e X.env whole) (TP X pins σ Q) X.xe s
theorem PW.pt {X : Cx} {e : Expr} {t : TT} (h : PW X e t) : PT X e t := h _
noncomputable def PA (X : Cx) (es : List Expr) (t : TA) : Prop :=
 ∀ (pos : Pos) (pins : List (Addr × Obj)) (s : Shared) (σ : St) (H : Hp) (Q : List V -> Hp -> Prop), Inv X pins σ H s -> t σ H Q -> wpAny (model X.prog X.w) X.A (spliced (backTo pos (starEach es X.env))) (AP X pins σ Q) X.xe s
noncomputable def PS (X : Cx) (st : Stmt) (t : TS) : Prop :=
 ∀ (pins : List (Addr × Obj)) (s : Shared) (σ : St) (H : Hp) (D : Ends), Inv X pins σ H s -> t D σ H -> wpAny (model X.prog X.w) X.A (exec st X.env) (SP X pins D) X.xe s
noncomputable def PSs (X : Cx) (st : List Stmt) (t : TS) : Prop :=
 ∀ (pins : List (Addr × Obj)) (s : Shared) (σ : St) (H : Hp) (D : Ends), Inv X pins σ H s -> t D σ H -> wpAny (model X.prog X.w) X.A (execs st X.env) (SP X pins D) X.xe s
theorem thn {α : Type} {t : Sem α} {Q Q' : α -> Shared -> Prop} {M : Model} {A : Around} {E : Value -> Shared -> Prop} {s : Shared} (h : wpAny M A t Q E s) (hQ : ∀ a s, Q a s -> Q' a s) : wpAny M A t Q' E s := wpAny_mono h hQ fun _ _ x => x
end L2
namespace L2
open PySem PySem.Spec PyProof.Rows
section
variable {X : Cx}
noncomputable def cg (i : Nat) : TE := fun σ H Q => ∃ v, σ[i]? = some (some v) /\ Q v H
noncomputable def tC (v : V) : TE := fun _ H Q => Q v H
theorem j7 {i : Nat} {x : Str} {pos : Pos} (hN : X.N[i]? = some x) (hv : Vis X.env.scope x) (hd : (x == ("__debug__" : Str)) = false := by decide) (hcd : (x == ("__classdict__" : Str)) = false := by decide) : PE X (.Name x pos) (cg i) := by
 intro pins s σ H Q I h
 obtain ⟨v, e, h⟩ := h
 obtain ⟨m, hn, hl⟩ := I.loc
 obtain ⟨u, r, l⟩ := hl i x v hN e hv
 have fin : EP X pins σ Q u s := ⟨v, H, I, r, h⟩
 rcases l with ⟨hk, hm⟩ | ⟨hk, c, hc, hcell⟩
 ·exact wpAny_Name (wpAny_loadName_local I.ok.kind hk hn hm fin) hd
 ·rcases hk with hk | hk
  ·exact wpAny_Name (wpAny_loadName_cell I.ok.kind hk hc hcell fin) hd
  ·exact wpAny_Name (wpAny_loadName_free I.ok.kind hk hc hcell fin hcd) hd
theorem vZ {i j pos} : PE X (.Constant (.int i) j pos) (tC (.int i)) := fun _ _ _ H _ I h => wpAny_Constant_int ⟨.int i, H, I.tok _, ⟨_, rfl⟩, h⟩
theorem zB {b j pos} : PE X (.Constant (.bool b) j pos) (tC (.bl b)) := fun _ _ _ H _ I h => Constant_bool ⟨.bl b, H, I, rfl, h⟩
theorem v7 {j pos} : PE X (.Constant .none j pos) (tC .non) := fun _ _ _ H _ I h => Constant_none ⟨.non, H, I, rfl, h⟩
theorem v8 {x j pos} : PE X (.Constant (.str x) j pos) (tC (.str x)) := fun _ _ _ H _ I h => Calls.Constant_str ⟨.str x, H, I.tok _, ⟨_, rfl⟩, h⟩
noncomputable def Gl (X : Cx) (x : Str) : Prop := X.env.kindOf x = some .globalImplicit
theorem eu {E : Value -> Shared -> Prop} {pins : List (Addr × Obj)} {s : Shared} {σ : St} {H : Hp} {x : Str} {u : Value} {pos : Pos} {Q : Value -> Shared -> Prop} (I : Inv X pins σ H s) (hg : Gl X x) (hm : X.mg x = some u) (h : Q u s)
  (hd : (x == ("__debug__" : Str)) = false := by decide) : wpAny (model X.prog X.w) X.A (eval (.Name x pos) X.env) Q E s :=
 Calls.Name_function_global I.ok.kind hg (Calls.loadGlobal_global (by rw [I.ok.glob]; exact I.mod.glob.keeps I.bk) hm h) hd
theorem eN {E : Value -> Shared -> Prop} {pins : List (Addr × Obj)} {s : Shared} {σ : St} {H : Hp} {x : Str} {u : Value} {pos : Pos} {Q : Value -> Shared -> Prop} (I : Inv X pins σ H s) (hg : Gl X x) (hm : X.mg x = none) (hv : bootBuiltins x = some u) (h : Q u s)
  (hn : x ≠ "__name__" := by decide) (hd : (x == ("__debug__" : Str)) = false := by decide) : wpAny (model X.prog X.w) X.A (eval (.Name x pos) X.env) Q E s := by
 obtain ⟨mb, h1, h2⟩ := I.mod.blt
 exact Calls.Name_function_global I.ok.kind hg (Calls.loadGlobal_builtin (by rw [I.ok.glob]; exact I.mod.glob.keeps I.bk) hm (by rw [I.ok.blt]; exact h1.keeps I.bk) ((h2 x hn).trans hv) h) hd
theorem dR {x : Str} {v : V} {u : Value} {pos : Pos} (hg : Gl X x) (hm : X.mg x = some u) (r : RelV v u) (hd : (x == ("__debug__" : Str)) = false := by decide) : PE X (.Name x pos) (tC v) :=
 fun _ _ _ H _ I h => eu I hg hm ⟨v, H, I, r, h⟩ hd
theorem dU {x : Str} {v : V} {u : Value} {pos : Pos} (hg : Gl X x) (hm : X.mg x = none) (hv : bootBuiltins x = some u) (r : RelV v u) (hn : x ≠ "__name__" := by decide) (hd : (x == ("__debug__" : Str)) = false := by decide) : PE X (.Name x pos) (tC v) :=
 fun _ _ _ H _ I h => eN I hg hm hv ⟨v, H, I, r, h⟩ hn hd
variable {a b : Expr} {ta tb : TE} {pos : Pos}
noncomputable def tB (t : TE) : TT := fun σ H Q => t σ H fun x H1 => ∃ c, x = .bl c /\ Q c H1
theorem v9 {e : Expr} {t : TE} (h : PE X e t) (he : ∀ whole, isTrue e X.env whole = (do let v <- whole; standAt e.pos; holding [v] (truthy v)) := by intro _; rfl) : PT X e (tB t) := by
 intro pins s σ H Q I hw
 refine isTrue_plain (thn (h pins s σ H _ I hw) fun v s1 zr1 => ?_) (he _)
 obtain ⟨x, H1, I1, r1, q1⟩ := zr1
 obtain ⟨d, rfl, q⟩ := q1
 cases r1
 exact wpAny_truthy_bool ⟨H1, I1, q⟩
variable {tA tB' : TT} {rest : List Expr}
noncomputable def tOr (t u : TT) : TT := fun σ H Q => t σ H fun c H1 => if c = true then Q true H1 else u σ H1 Q
noncomputable def zC (t : TT) : TT := fun σ H Q => t σ H fun c H1 => Q (!c) H1
theorem wb (ha : PT X a tA) : PW X (.BoolOp .Or [a] pos) tA := by
 intro wh pins s σ H Q I h
 refine isTrue_or (thn (ha pins s σ H Q I h) fun c s1 e => ?_)
 cases c with
 | false => exact isTrue_or_nil e
 | true => exact e
theorem zD (ha : PT X a tA) (hb : PW X (.BoolOp .Or (b :: rest) pos) tB') : PW X (.BoolOp .Or (a :: b :: rest) pos) (tOr tA tB') := by
 intro wh pins s σ H Q I h
 refine isTrue_or (thn (ha pins s σ H _ I h) fun c s1 zr1 => ?_)
 obtain ⟨H1, I1, q1⟩ := zr1
 cases c with
 | true => exact ⟨H1, I1, q1⟩
 | false => exact hb wh pins s1 σ H1 Q I1 q1
theorem we (ha : PT X a tA) : PT X (.UnaryOp .Not a pos) (zC tA) := by
 intro pins s σ H Q I h
 exact isTrue_not (ha pins s σ H (fun c H1 => Q (!c) H1) I h)
noncomputable def uj (ta tb : TE) : TE := fun σ H Q => ta σ H fun x H1 => ∃ c, x = .bl c /\ if c = true then tb σ H1 Q else Q (.bl false) H1
noncomputable def uk (ta : TE) : TE := fun σ H Q => ta σ H fun x H1 => ∃ c, x = .bl c /\ Q (.bl (!c)) H1
theorem wg {op} {t : TE} (h : PE X a t) : PE X (.BoolOp op [a] pos) t := fun pins s σ H Q I hw => BoolOp_one (h pins s σ H Q I hw)
theorem wj (ha : PE X a ta) (hb : PE X (.BoolOp .And (b :: rest) pos) tb) : PE X (.BoolOp .And (a :: b :: rest) pos) (uj ta tb) := by
 intro pins s σ H Q I h
 refine BoolOp_and (thn (ha pins s σ H _ I h) fun v s1 zr1 => ?_)
 obtain ⟨x, H1, I1, r1, q1⟩ := zr1
 obtain ⟨c, rfl, q1⟩ := q1
 cases r1
 refine wpAny_truthy_bool ?_
 cases c with
 | true => exact hb pins s1 σ H1 Q I1 q1
 | false => exact ⟨.bl false, H1, I1, rfl, q1⟩
theorem wm (ha : PE X a ta) : PE X (.UnaryOp .Not a pos) (uk ta) := by
 intro pins s σ H Q I h
 refine UnaryOp_ (thn (ha pins s σ H _ I h) fun v s1 zr1 => ?_)
 obtain ⟨x, H1, I1, r1, q1⟩ := zr1
 obtain ⟨c, rfl, q1⟩ := q1
 cases r1
 exact not_of (wpAny_truthy_bool ⟨.bl (!c), H1, I1, rfl, q1⟩)
noncomputable def tIf (t : TT) (ta tb : TE) : TE := fun σ H Q => t σ H fun c H1 => if c = true then ta σ H1 Q else tb σ H1 Q
theorem nK {c : Expr} (hc : PT X c tA) (ha : PE X a ta) (hb : PE X b tb) : PE X (.IfExp c a b pos) (tIf tA ta tb) := by
 intro pins s σ H Q I h
 refine wpAny_IfExp (thn (hc pins s σ H _ I h) fun d s1 zr1 => ?_)
 obtain ⟨H1, I1, q1⟩ := zr1
 cases d with
 | true => exact ha pins s1 σ H1 Q I1 q1
 | false => exact hb pins s1 σ H1 Q I1 q1
end
end L2
namespace L2
open PySem PySem.Spec PyProof.Rows
noncomputable def SqL (K : PySem.W.Frag) (H : Hp) (a : Addr) (xs : List V) : Prop :=
 Rd H a (.lst xs) \/
  ∃ (o : Obj) (its : Array Value) (n : Nat), K.lookup a = some o /\ o.cls = .type "list" /\ o.dict = none /\ o.data = .seq its n /\ its.size <= sizeLine /\ Vals xs its.toList
noncomputable def SqT (K : PySem.W.Frag) (H : Hp) (a : Addr) (xs : List V) : Prop :=
 Rd H a (.tup xs) \/
  ∃ (o : Obj) (its : Array Value) (n : Nat), K.lookup a = some o /\ o.cls = .type "tuple" /\ o.data = .seq its n /\ its.size <= sizeLine /\ Vals xs its.toList
noncomputable def B4 : Value -> Option V
 | .none => some .non
 | .bool b => some (.bl b)
 | .int i _ => some (.int i)
 | .str x _ => some (.str x)
 | .bytes b _ => some (.byt b)
 | .float b _ => some (.flt b)
 | .ref a => some (.ref a)
 | .type n => some (.ty n)
 | _ => none
theorem RelV.abs {x : V} {u : Value} (r : RelV x u) : B4 u = some x := by
 cases x with
 | non => cases r; rfl
 | bl _ => cases r; rfl
 | int _ => obtain ⟨t, rfl⟩ := r; rfl
 | str _ => obtain ⟨t, rfl⟩ := r; rfl
 | byt _ => obtain ⟨t, rfl⟩ := r; rfl
 | flt _ => obtain ⟨t, rfl⟩ := r; rfl
 | ref _ => cases r; rfl
 | ty _ => cases r; rfl
theorem RelV.inj {x y : V} {u : Value} (r : RelV x u) (q : RelV y u) : x = y := Option.some.inj (r.abs.symm.trans q.abs)
theorem Vals.inj : ∀ {xs ys : List V} {us : List Value}, Vals xs us -> Vals ys us -> xs = ys
 | _, _, _, .nil, .nil => rfl
 | _, _, _, .cons r t, .cons r' t' => by rw [r.inj r', Vals.inj t t']
section
variable {X : Cx} {pins : List (Addr × Obj)} {σ : St} {H : Hp} {s : Shared} {a : Addr} {xs ys : List V}
theorem Inv.list (I : Inv X pins σ H s) (h : SqL X.K H a xs) : ∃ its : List Value, Vals xs its /\ PlainL s.heap a its.toArray /\ xs.length <= sizeLine := by
 rcases h with h | ⟨o, its, n, hk, hc, hd, hs, hz, r⟩
 ·obtain ⟨z, its, n, r, e⟩ := h.ok I.hok
  exact ⟨its, r, ⟨_, n, e, rfl, rfl, rfl⟩, z⟩
 ·refine ⟨its.toList, r, ⟨o, n, I.kIn a o hk, hc, hd, by simpa using hs⟩, ?_⟩
  have e := r.length
  simp only [Array.length_toList] at e
  omega
theorem Inv.tuple (I : Inv X pins σ H s) (h : SqT X.K H a xs) : ∃ its : List Value, Vals xs its /\ IsTup s.heap a its.toArray /\ xs.length <= sizeLine := by
 rcases h with h | ⟨o, its, n, hk, hc, hs, hz, r⟩
 ·obtain ⟨z, its, r, p⟩ := h.ok I.hok
  exact ⟨its, r, p, z⟩
 ·refine ⟨its.toList, r, ⟨o, I.kIn a o hk, hc, n, by simpa using hs⟩, ?_⟩
  have e := r.length
  simp only [Array.length_toList] at e
  omega
theorem Inv.list_inj (I : Inv X pins σ H s) (h : SqL X.K H a xs) (h' : SqL X.K H a ys) : xs = ys := by
 obtain ⟨its, r, ⟨o, n, e, _, _, d⟩, _⟩ := I.list h
 obtain ⟨its', r', ⟨o', n', e', _, _, d'⟩, _⟩ := I.list h'
 rw [e] at e'; cases e'
 rw [d] at d'
 injection d' with d1 _
 have : its = its' := by simpa using congrArg Array.toList d1
 subst this
 exact r.inj r'
theorem Inv.tuple_inj (I : Inv X pins σ H s) (h : SqT X.K H a xs) (h' : SqT X.K H a ys) : xs = ys := by
 obtain ⟨its, r, ⟨o, e, _, n, d⟩, _⟩ := I.tuple h
 obtain ⟨its', r', ⟨o', e', _, n', d'⟩, _⟩ := I.tuple h'
 rw [e] at e'; cases e'
 rw [d] at d'
 injection d' with d1 _
 have : its = its' := by simpa using congrArg Array.toList d1
 subst this
 exact r.inj r'
end
noncomputable abbrev Cx.wish (X : Cx) (E : Value -> Shared -> Prop) : Cx := { X with xe := E }
noncomputable abbrev Cx.nox (X : Cx) : Cx := X.wish fun _ _ => False
theorem Cx.Ok.wish {X : Cx} (ok : X.Ok) (E : Value -> Shared -> Prop) : (X.wish E).Ok :=
 ⟨ok.mod, ok.kind, ok.glob, ok.blt, ok.above, ok.inj, ok.has, ok.cab, ok.hd, ok.frames, ok.stk, ok.exf, ok.bs, ok.bsz, ok.noex, ok.exfs, ok.funs, ok.frf⟩
theorem Cx.Ok.unwish {X : Cx} {E : Value -> Shared -> Prop} (ok : (X.wish E).Ok) : X.Ok :=
 ⟨ok.mod, ok.kind, ok.glob, ok.blt, ok.above, ok.inj, ok.has, ok.cab, ok.hd, ok.frames, ok.stk, ok.exf, ok.bs, ok.bsz, ok.noex, ok.exfs, ok.funs, ok.frf⟩
section
variable {X : Cx} {pins : List (Addr × Obj)} {σ : St} {H : Hp} {s : Shared} {E : Value -> Shared -> Prop}
theorem Inv.wish (I : Inv X pins σ H s) (E : Value -> Shared -> Prop) : Inv (X.wish E) pins σ H s := ⟨I.ok.wish E, I.os, I.bare, I.base, I.loc, I.cell, I.free, I.freeC, I.pin, I.hok, I.len⟩
theorem Inv.unwish (I : Inv (X.wish E) pins σ H s) : Inv X pins σ H s := ⟨I.ok.unwish, I.os, I.bare, I.base, I.loc, I.cell, I.free, I.freeC, I.pin, I.hok, I.len⟩
theorem SP.unwish {D : Ends} {f : Flow} {s' : Shared} (h : SP (X.wish E) pins D f s') : SP X pins D f s' := by
 cases f with
 | next => obtain ⟨σ', H', I, q⟩ := h; exact ⟨σ', H', I.unwish, q⟩
 | brk => obtain ⟨σ', H', I, q⟩ := h; exact ⟨σ', H', I.unwish, q⟩
 | cont => obtain ⟨σ', H', I, q⟩ := h; exact ⟨σ', H', I.unwish, q⟩
 | ret u => obtain ⟨v, σ', H', I, r, q⟩ := h; exact ⟨v, σ', H', I.unwish, r, q⟩
theorem PSs.nox {st : List Stmt} {t : TS} (h : PSs X.nox st t) : PSs X st t := fun pins s σ H D I hw =>
 wpAny_mono (h pins s σ H D (I.wish _) hw) (fun _ _ q => q.unwish) fun _ _ z => False.elim z
end
section
variable {X : Cx} {st : Stmt} {rest : List Stmt} {t u : TS} {e : Expr} {te : TE} {pos : Pos}
noncomputable def nL : TS := fun D σ H => D.nx σ H
noncomputable def nM (t u : TS) : TS := fun D σ H => t { D with nx := u D } σ H
theorem kW : PSs X [] nL := fun _ _ σ H _ I h => wpAny_execs_nil ⟨σ, H, I, h⟩
theorem ez (h1 : PS X st t) (h2 : PSs X rest u) : PSs X (st :: rest) (nM t u) := by
 intro pins s σ H D I h
 refine wpAny_execs_cons (thn (h1 pins s σ H { D with nx := u D } I h) fun f s1 q => ?_)
 cases f with
 | next =>
  obtain ⟨σ', H', I', q⟩ := q
  exact h2 pins s1 σ' H' D I' q
 | ret v => exact q
 | brk => exact q
 | cont => exact q
theorem kX (h1 : PS X st t) : PSs X [st] t := by
 intro pins s σ H D I h
 refine wpAny_execs_cons (thn (h1 pins s σ H D I h) fun f s1 q => ?_)
 cases f with
 | next => exact wpAny_execs_nil q
 | ret v => exact q
 | brk => exact q
 | cont => exact q
theorem Inv.quiet {pins : List (Addr × Obj)} {σ : St} {H : Hp} {s : Shared} (I : Inv X pins σ H s) : interactive X.env = false := by simp [interactive, I.ok.kind]
noncomputable def nN (te : TE) : TS := fun D σ H => te σ H fun _ H1 => D.nx σ H1
theorem kY (he : PE X e te) (hs : swapsWith e none pos.line X.env = pure false := by rfl) : PS X (.Expr e pos) (nN te) := by
 intro pins s σ H D I h
 exact wpAny_Expr_any (thn (he pins s σ H _ I h) fun v s1 zt1 => by obtain ⟨x, H1, I1, r1, q1⟩ := zt1; exact ⟨σ, H1, I1, q1⟩) I.quiet hs
noncomputable def zE (te : TE) : TS := fun D σ H => te σ H D.rt
theorem wo (he : PE X e te) : PS X (.Return (some e) pos) (zE te) := by
 intro pins s σ H D I h
 exact wpAny_Return_some (thn (he pins s σ H _ I h) fun v s1 zt1 => by obtain ⟨x, H1, I1, r1, q1⟩ := zt1; exact ⟨x, σ, H1, I1, r1, q1⟩)
noncomputable def wq (c : TT) (t u : TS) : TS := fun D σ H => c σ H fun b H1 => if b = true then t D σ H1 else u D σ H1
theorem um {c : Expr} {a b : List Stmt} {tc : TT} (hc : PT X c tc) (ha : PSs X a t) (hb : PSs X b u) : PS X (.If c a b pos) (wq tc t u) := by
 intro pins s σ H D I h
 refine wpAny_If (thn (hc pins s σ H _ I h) fun d s1 zr1 => ?_)
 obtain ⟨H1, I1, q1⟩ := zr1
 cases d with
 | true => exact ha pins s1 σ H1 D I1 q1
 | false => exact hb pins s1 σ H1 D I1 q1
noncomputable def fO : TS := fun _ _ _ => False
theorem nO : PS X st fO := fun _ _ _ _ _ _ h => h.elim
theorem gL {sts : List Stmt} : PSs X sts fO := fun _ _ _ _ _ _ h => h.elim
end
noncomputable abbrev TG := V -> St -> Hp -> (St -> Hp -> Prop) -> Prop
noncomputable abbrev TGs := List V -> St -> Hp -> (St -> Hp -> Prop) -> Prop
noncomputable def PG (X : Cx) (target : Expr) (t : TG) : Prop :=
 ∀ (pins : List (Addr × Obj)) (s : Shared) (σ : St) (H : Hp) (v : V) (u : Value) (Q : St -> Hp -> Prop), Inv X pins σ H s -> RelV v u -> t v σ H Q ->
  wpAny (model X.prog X.w) X.A (assign target X.env u) (fun _ s' => ∃ σ' H', Inv X pins σ' H' s' /\ Q σ' H') X.xe s
noncomputable def PGs (X : Cx) (ts : List Expr) (t : TGs) : Prop :=
 ∀ (pins : List (Addr × Obj)) (s : Shared) (σ : St) (H : Hp) (vs : List V) (us : List Value) (Q : St -> Hp -> Prop), Inv X pins σ H s -> Vals vs us -> t vs σ H Q ->
  wpAny (model X.prog X.w) X.A (assignInOrder ((assignEach ts X.env).map (·.2)) us) (fun _ s' => ∃ σ' H', Inv X pins σ' H' s' /\ Q σ' H') X.xe s
noncomputable abbrev wt := V -> V -> V -> Hp -> (Hp -> Prop) -> Prop
noncomputable def zF (X : Cx) (t : wt) : Prop :=
 ∀ (pins : List (Addr × Obj)) (s : Shared) (σ : St) (H : Hp) (o i v : V) (ov iv u : Value) (Q : Hp -> Prop), Inv X pins σ H s -> RelV o ov -> RelV i iv -> RelV v u -> t o i v H Q ->
  wpAny (model X.prog X.w) X.A (setItem ov iv u) (fun _ s' => ∃ H', Inv X pins σ H' s' /\ Q H') X.xe s
section
variable {X : Cx} {pos : Pos}
noncomputable def aZ (i : Nat) : TG := fun v σ H Q => Q (σ.set i (some v)) H
theorem az {i : Nat} {x : Str} (hN : X.N.Nodup) (hi : X.N[i]? = some x) (hx : Loc X.env.scope x) (hf : X.fn x = true \/ X.env.scope.names.lookup x = some .local := by first | exact .inl rfl | exact .inr rfl | assumption) : PG X (.Name x pos) (aZ i) := by
 intro pins s σ H v u Q I r h
 exact wpAny_assign_Name (cT I hN hi hx r (fun s' I' => ⟨_, H, I', h⟩) hf)
noncomputable def wu : TGs := fun vs σ H Q => vs = [] /\ Q σ H
noncomputable def kZ (t : TG) (u : TGs) : TGs := fun vs σ H Q => ∃ v r, vs = v :: r /\ t v σ H fun σ' H' => u r σ' H' Q
theorem qV : PGs X [] wu := by
 intro pins s σ H vs us Q I r h
 obtain ⟨e, h⟩ := h
 subst e
 cases r
 exact assignInOrder_nil ⟨σ, H, I, h⟩
theorem nP {e : Expr} {es : List Expr} {t : TG} {u : TGs} (h1 : PG X e t) (h2 : PGs X es u)
  (hs : (assignEach (e :: es) X.env).map (·.2) = assign e X.env :: (assignEach es X.env).map (·.2) := by rfl) : PGs X (e :: es) (kZ t u) := by
 intro pins s σ H vs us Q I r h
 obtain ⟨v, vr, e1, h⟩ := h
 subst e1
 cases r with
 | cons r rr =>
  rw [hs]
  refine assignInOrder_cons (thn (h1 pins s σ H _ _ _ I r h) fun _ s1 zr1 => ?_)
  obtain ⟨σ1, H1, I1, q1⟩ := zr1
  exact h2 pins s1 σ1 H1 _ _ Q I1 rr q1
noncomputable def wy (K : PySem.W.Frag) (n : Nat) (t : TGs) : TG := fun v σ H Q => ∃ a xs, v = .ref a /\ SqT K H a xs /\ xs.length = n /\ t xs σ H Q
theorem wz {es : List Expr} {k : Nat} {t : TGs} {n : Nat} (hc : X.calm = true) (h : PGs X es t)
  (hn : (assignEach es X.env).length = n := by rfl) (hst : (assignEach es X.env).findIdx? (·.1) = none := by rfl) : PG X (.Tuple es k pos) (wy X.K n t) := by
 intro pins s σ H v u Q I r hw
 obtain ⟨a, xs, e1, hq, hl, hw⟩ := hw
 subst e1
 cases r
 obtain ⟨its, rv, ht, hz⟩ := I.tuple hq
 refine assign_Tuple_tuple (I.ok.hd hc) ht (by simp [hn, <- hl, rv.length]) hst fun h' hx => ?_
 have I1 : Inv X pins σ H { s with heap := h' } := I.kept (t' := s.toks) fun b o e => hx b o (Nat.ne_of_lt (Heap.lt_size e)) e
 exact h pins _ σ H xs _ Q I1 (by simpa using rv) hw
noncomputable def wC (to ti : TE) (t : wt) : TG := fun v σ H Q => to σ H fun o H1 => ti σ H1 fun i H2 => t o i v H2 fun H3 => Q σ H3
theorem wD {o i : Expr} {to ti : TE} {t : wt} (ho : PE X o to) (hi : PE X i ti) (hs : zF X t)
  (ha : ∀ v, assign (.Subscript o i pos) X.env v = (do
   let ov <- holding [v] (eval o X.env)
   let iv <- holding [v, ov] (eval i X.env)
   standAt pos
   holding [v, ov, iv] (setItem ov iv v)
   release [v, ov, iv] []) := by intro _; rfl) : PG X (.Subscript o i pos) (wC to ti t) := by
 intro pins s σ H v u Q I r h
 rw [ha]
 refine wpAny_bind (wpAny_holding (thn (ho pins s σ H _ I h) fun ov s1 zr1 => ?_))
 obtain ⟨x, H1, I1, r1, q1⟩ := zr1
 refine wpAny_bind (wpAny_holding (thn (hi pins s1 σ H1 _ I1 q1) fun iv s2 zr1 => ?_))
 obtain ⟨y, H2, I2, r2, q2⟩ := zr1
 refine wpAny_bind (wpAny_standAt (wpAny_bind (wpAny_holding (thn (hs pins s2 σ H2 x y v ov iv u _ I2 r1 r2 r q2) fun _ s3 zr1 => ?_))))
 obtain ⟨H3, I3, q3⟩ := zr1
 exact wpAny_release ⟨σ, H3, I3, q3⟩
noncomputable def cU (te : TE) (g : TG) : TS := fun D σ H => te σ H fun x H1 => g x σ H1 D.nx
theorem nQ {tg e : Expr} {te : TE} {g : TG} (he : PE X e te) (hg : PG X tg g) (hs : swapsWithSole [tg] e pos.line X.env = pure false := by rfl) (hw : swappedStores [tg] e X.env = pure none := by rfl)
  (h1 : (assignEach [tg] X.env).map (·.2) = [assign tg X.env] := by rfl) : PS X (.Assign [tg] e pos) (cU te g) := by
 intro pins s σ H D I h
 refine wpAny_Assign_stores (thn (he pins s σ H _ I h) fun v s1 zr1 => ?_) hs hw
 obtain ⟨x, H1, I1, r1, q1⟩ := zr1
 rw [h1]
 exact thn (hg pins s1 σ H1 x v _ I1 r1 q1) fun _ s2 q => q
theorem bK {i : Nat} {x : Str} {e : Expr} {te : TE} {pos' : Pos} (hN : X.N.Nodup) (hi : X.N[i]? = some x) (hx : Loc X.env.scope x) (he : PE X e te) (hs : swapsWith e (some (.Name x pos')) pos.line X.env = pure false := by rfl) (hf : X.fn x = true \/ X.env.scope.names.lookup x = some .local := by first | exact .inl rfl | exact .inr rfl | assumption) :
  PS X (.Assign [.Name x pos'] e pos) (cU te (aZ i)) := by
 intro pins s σ H D I h
 refine wpAny_Assign_Name (thn (he pins s σ H _ I h) fun v s1 zr1 => ?_) hs
 obtain ⟨y, H1, I1, r1, q1⟩ := zr1
 exact cT I1 hN hi hx r1 (fun s2 I2 => ⟨_, H1, I2, q1⟩) hf
noncomputable def nR (i j : Nat) (ta : TA) : TS := fun D σ H => ta σ H fun vs H1 => ∃ v w, vs = [v, w] /\ D.nx ((σ.set i (some v)).set j (some w)) H1
theorem wF {i j : Nat} {x y : Str} {a b : Expr} {ta : TA} {px py pt : Pos} {kt k2 pt2} (hc : X.calm = true) (hN : X.N.Nodup) (hi : X.N[i]? = some x) (hj : X.N[j]? = some y) (hij : i ≠ j)
  (hx : X.env.scope.names.lookup x = some .local) (hy : X.env.scope.names.lookup y = some .local) (ha : PA X [a, b] ta)
  (hw : swappedStores [.Tuple [.Name x px, .Name y py] kt pt] (.Tuple [a, b] k2 pt2) X.env = pure (some [x, y]))
  (hs : swapsWithSole [.Tuple [.Name x px, .Name y py] kt pt] (.Tuple [a, b] k2 pt2) pos.line X.env = pure false := by rfl) :
  PS X (.Assign [.Tuple [.Name x px, .Name y py] kt pt] (.Tuple [a, b] k2 pt2) pos) (nR i j ta) := by
 intro pins s σ H D I h
 rw [exec_Assign_arm]
 refine wpAny_bind (wpAny_standAt ?_)
 rw [hs]
 refine wpAny_bind (wpAny_pure ?_)
 rw [if_neg (by decide)]
 refine wpAny_bind (Tuple_ (thn (ha _ pins s σ H _ I h) fun us s1 zr1 => ?_))
 obtain ⟨vs, H1, I1, r1, q1⟩ := zr1
 obtain ⟨v, w, e1, q1⟩ := q1
 subst e1
 obtain ⟨u1, u2, rfl, rv, rw'⟩ : ∃ u1 u2, us = [u1, u2] /\ RelV v u1 /\ RelV w u2 := by
  cases r1 with
  | cons p q =>
   cases q with
   | cons p' q' =>
    cases q'
    exact ⟨_, _, rfl, p, p'⟩
 refine wpAny_newObj_type ?_ (by show 2 <= sizeLine; decide)
 have I2 : Inv X pins σ H1 { s1 with heap := s1.heap.push { cls := .type "tuple", data := .seq [u1, u2].toArray } } := I1.kept (t' := s1.toks) fun b o e => Heap.get?_push_of_some _ e
 rw [hw]
 refine wpAny_bind (wpAny_pure ?_)
 show wpAny (model X.prog X.w) X.A (do rule "assign.swapped-stores"; let items <- unpackItems (.ref s1.heap.objs.size) 2 none; assignInOrder [fun v => bindName X.env y v, fun v => bindName X.env x v] items.reverse; pure Flow.next) _ _ _
 refine wpAny_bind (wpAny_rule (wpAny_bind (unpackItems_tuple (items := #[u1, u2]) (I.ok.hd hc) (IsTup.new s1.heap _) fun h' hx' => ?_)))
 have I3 := I2.kept (h' := h') (t' := s1.toks) fun b o e => hx' b o (Nat.ne_of_lt (Heap.lt_size e)) e
 show wpAny _ _ (assignInOrder [fun v => bindName X.env y v, fun v => bindName X.env x v] [u2, u1] >>= fun _ => pure Flow.next) _ _ _
 refine wpAny_bind (assignInOrder_cons (wpAny_bindName (cT I3 hN hj (.inl hy) rw' (fun s2 I4 => ?_) (.inr hy))))
 refine assignInOrder_cons (wpAny_bindName (cT I4 hN hi (.inl hx) rv (fun s3 I5 => assignInOrder_nil (wpAny_pure ?_)) (.inr hx)))
 rw [List.set_comm _ _ (Ne.symm hij)] at I5
 exact ⟨_, H1, I5, q1⟩
noncomputable def B5 (X : Cx) (t : V -> V -> Hp -> VK -> Prop) : Prop :=
 ∀ (pins : List (Addr × Obj)) (s : Shared) (σ : St) (H : Hp) (o i : V) (ov iv : Value) (Q : VK), Inv X pins σ H s -> RelV o ov -> RelV i iv -> t o i H Q ->
  wpAny (model X.prog X.w) X.A (getItem ov iv) (EP X pins σ Q) X.xe s
end
section
variable {X : Cx} {pos : Pos}
noncomputable def nS (c : TT) (tb : TS) : TS := fun D σ H => ∃ W : Nat -> St -> Hp -> Prop, (∃ m, W m σ H) /\ ∀ m σ H, W m σ H ->
 c σ H fun b H1 => if b = true then ∃ N : St -> Hp -> Prop, (∀ σ' H', N σ' H' -> ∃ m', m' < m /\ W m' σ' H') /\ tb { D with nx := N, ct := N, bk := D.nx } σ H1 else D.nx σ H1
theorem nT {c : Expr} {body : List Stmt} {tc : TT} {tb : TS} (hp : PassesOwn (model X.prog X.w) X.A X.env X.xe) (hc : PT X c tc) (hb : PSs X body tb) : PS X (.While c body [] pos) (nS tc tb) := by
 intro pins s σ H D I h
 obtain ⟨W, ⟨m0, w0⟩, turn⟩ := h
 refine wpAny_While (codeAny_whileLoop (fun n s' => ∃ σ' H', Inv X pins σ' H' s' /\ W n σ' H') ?_ m0 ⟨σ, H, I, w0⟩)
 rintro n s1 ⟨σ1, H1, I1, w1⟩
 refine wpAny_passesOwn hp (thn (hc pins s1 σ1 H1 _ I1 (turn n σ1 H1 w1)) fun b s2 zr1 => ?_)
 obtain ⟨H2, I2, q2⟩ := zr1
 cases b with
 | true =>
  obtain ⟨N, hN, q2⟩ := q2
  rw [if_pos rfl]
  refine wpAny_passesOwn hp (thn (hb pins s2 σ1 H2 _ I2 q2) fun f s3 q3 => ?_)
  cases f with
  | next =>
   obtain ⟨σ3, H3, I3, n3⟩ := q3
   obtain ⟨m', hm, w3⟩ := hN σ3 H3 n3
   exact ⟨m', hm, σ3, H3, I3, w3⟩
  | cont =>
   obtain ⟨σ3, H3, I3, n3⟩ := q3
   obtain ⟨m', hm, w3⟩ := hN σ3 H3 n3
   exact ⟨m', hm, σ3, H3, I3, w3⟩
  | brk => exact q3
  | ret v => exact q3
 | false =>
  rw [if_neg Bool.false_ne_true]
  exact wpAny_execs_nil ⟨σ1, H2, I2, q2⟩
end
structure It where
 go : Nat -> Hp -> Prop
 yld : Nat -> Hp -> V -> Hp -> Prop
 stop : Nat -> Hp -> Prop
noncomputable def dw (X : Cx) (pins : List (Addr × Obj)) (H : Hp) (b : Addr) : Prop :=
 H b = none /\ b ≠ X.env.locals /\ b ∉ X.fs /\ (b ∈ X.ex \/ X.s₀.heap.objs.size <= b) /\ (∀ x c, X.env.cells.lookup x = some c -> c ≠ b) /\ ∀ p ∈ X.pn ++ pins, p.1 ≠ b
theorem Inv.fpOk {X : Cx} {pins : List (Addr × Obj)} {σ : St} {H H' : Hp} {s : Shared} {b : Addr} (I : Inv X pins σ H s) (hb : s.heap.objs.size <= b) (hn : H' b = none) : dw X pins H' b := by
 refine ⟨hn, Nat.ne_of_gt (Nat.lt_of_lt_of_le I.lt hb), I.nofs hb, .inr (Nat.le_trans I.sz hb), fun x c e z => ?_, fun p hp z => ?_⟩
 ·obtain ⟨v, q⟩ := I.cell x c e
  exact absurd (Nat.lt_of_lt_of_le q.lt (by rw [z]; exact hb)) (Nat.lt_irrefl _)
 ·exact absurd (Nat.lt_of_lt_of_le (Heap.lt_size (I.pin p hp).1) (by rw [z]; exact hb)) (Nat.lt_irrefl _)
structure Turn (P : Program) (w : World) (K : PySem.W.Frag) (tg : Expr) (J : It) (fp : List Addr) (it : Addr) (tn : Nat -> Heap -> Prop) : Prop where
 mem : it ∈ fp
 obj : ∀ i h, tn i h -> ∀ b ∈ fp, ∃ o, h.get? b = some o /\ ∀ v, o.data ≠ .cell v
 keep : ∀ i h h', tn i h -> (∀ b ∈ fp, ∀ o, h.get? b = some o -> h'.get? b = some o) -> tn i h'
 item : ∀ (X : Cx), X.prog = P -> X.w = w -> X.K = K -> X.calm = true -> ∀ (i : Nat) (pins : List (Addr × Obj)) (s : Shared) (σ : St) (H : Hp) (E : Value -> Shared -> Prop), Inv X pins σ H s -> (∀ b ∈ fp, dw X pins H b) -> tn i s.heap -> J.go i H ->
  wpAny (model P w) X.A (pyNext (.ref it)) (fun r s1 => ∃ u, r = some u /\
   wpAny (model P w) X.A (letOwnedTupleGo tg (.ref it) u) (fun _ s2 => ∃ x H', Inv X pins σ H' s2 /\ RelV x u /\ J.yld i H x H' /\ tn (i + 1) s2.heap /\ ∀ b ∈ fp, H' b = none) E s1) E s
 done : ∀ (X : Cx), X.prog = P -> X.w = w -> X.K = K -> X.calm = true -> ∀ (i : Nat) (pins : List (Addr × Obj)) (s : Shared) (σ : St) (H : Hp) (E : Value -> Shared -> Prop), Inv X pins σ H s -> (∀ b ∈ fp, dw X pins H b) -> tn i s.heap -> J.stop i H ->
  wpAny (model P w) X.A (pyNext (.ref it)) (fun r s1 => r = none /\ Inv X pins σ H s1) E s
 self : ∀ (A : Around) (i : Nat) (s : Shared) (Q : Value -> Shared -> Prop) (E : Value -> Shared -> Prop), tn i s.heap -> Q (.ref it) s -> wpAny (model P w) A (pyIter (.ref it)) Q E s
noncomputable abbrev TI := St -> Hp -> (It -> Hp -> Prop) -> Prop
noncomputable def PIE (X : Cx) (pins : List (Addr × Obj)) (σ : St) (tg : Expr) (R : It -> Hp -> Prop) (itv : Value) (s2 : Shared) : Prop :=
 ∃ (it : Addr) (fp : List Addr) (tn : Nat -> Heap -> Prop) (J : It) (H' : Hp), itv = .ref it /\ Inv X pins σ H' s2 /\ Turn X.prog X.w X.K tg J fp it tn /\ tn 0 s2.heap /\ (∀ b ∈ fp, dw X pins H' b) /\ R J H'
noncomputable def PI (X : Cx) (tg iter : Expr) (wi : TI) : Prop :=
 ∀ (pins : List (Addr × Obj)) (s : Shared) (σ : St) (H : Hp) (R : It -> Hp -> Prop), Inv X pins σ H s -> wi σ H R ->
  wpAny (model X.prog X.w) X.A (eval iter X.env) (fun v s1 => wpAny (model X.prog X.w) X.A (pyIter v) (PIE X pins σ tg R) X.xe s1) X.xe s
theorem lf {M : Model} {A : Around} {E : Value -> Shared -> Prop} {s : Shared} {tg : Expr} {it : Addr} {u : Value} {o : Obj} {n : String} {vs : Array Value} {Q : Unit -> Shared -> Prop} (ho : s.heap.get? it = some o) (hc : o.cls = .type n) (hd : o.data = .fields vs)
    (hn : ["enumerate", "zip", "dict_itemiterator", "dict_reverseitemiterator", "odict_iterator", "itertools.zip_longest", "itertools.pairwise"].contains n = false) (hQ : Q () s) : wpAny M A (letOwnedTupleGo tg (.ref it) u) Q E s := by
  unfold letOwnedTupleGo
  cases tg <;> first
    | exact wpAny_pure hQ
    | (cases u <;> first
        | exact wpAny_pure hQ
        | (refine wpAny_bind (wpAny_load ho ?_)
           rw [hc, hd]
           show wpAny M A (if (["enumerate", "zip", "dict_itemiterator", "dict_reverseitemiterator", "odict_iterator", "itertools.zip_longest", "itertools.pairwise"].contains n && vs[0]? == some (rawInt _)) = true then _ else _) Q E s
           rw [if_neg (by intro h; rw [hn, Bool.false_and] at h; cases h)]
           exact wpAny_pure hQ))
noncomputable def Itl (K : PySem.W.Frag) (a : Addr) : It :=
 ⟨fun i H => ∃ xs x, SqL K H a xs /\ xs[i]? = some x, fun i H x H' => H' = H /\ ∀ xs, SqL K H a xs -> xs[i]? = some x, fun i H => ∃ xs, SqL K H a xs /\ xs.length <= i⟩
noncomputable def Itt (K : PySem.W.Frag) (a : Addr) : It :=
 ⟨fun i H => ∃ xs x, SqT K H a xs /\ xs[i]? = some x, fun i H x H' => H' = H /\ ∀ xs, SqT K H a xs -> xs[i]? = some x, fun i H => ∃ xs, SqT K H a xs /\ xs.length <= i⟩
noncomputable def Itr (lo : Int) (n : Nat) : It := ⟨fun i _ => i < n, fun i H x H' => H' = H /\ x = .int (lo + i), fun i _ => n <= i⟩
theorem mD {P : Program} {w : World} {K : PySem.W.Frag} {tg : Expr} (a it : Addr) : Turn P w K tg (Itl K a) [it] it (fun i h => h.IsListIter it a i) where
 mem := by simp
 obj := fun i h st b hb => by
  have e : b = it := by simpa using hb
  subst e
  obtain ⟨o, e, c, d⟩ := st
  exact ⟨o, e, fun v z => by rw [d] at z; cases z⟩
 keep := fun i h h' st k => st.at fun o e => k it (by simp) o e
 item := by
  intro X hP hw hK hc i pins s σ H E I hf st hg
  subst hP hw hK
  obtain ⟨xs, x, hq, hx⟩ := hg
  obtain ⟨its, rv, p, hz⟩ := I.list hq
  obtain ⟨u, hu, ru⟩ := rv.get hx
  obtain ⟨f0, f1, f2, f3, f4, f5⟩ := hf it (by simp)
  refine wpAny_pyNext_list_item st p.isList (x := u) (by simpa using hu) fun h' st' sb => ?_
  have I1 : Inv X pins σ H { s with heap := h' } := I.turned (t' := s.toks) (fun b o hb e => (sb.2 b hb).trans e) f0 f1 f3 f4 f5
  obtain ⟨o, e, c, d⟩ := id st'
  exact ⟨u, rfl, lf (s := { s with heap := h' }) e c d (by decide) ⟨x, H, I1, ru, ⟨rfl, fun ys hy => by rw [I.list_inj hy hq]; exact hx⟩, st', fun b hb => (hf b hb).1⟩⟩
 done := by
  intro X hP hw hK hc i pins s σ H E I hf st hg
  subst hP hw hK
  obtain ⟨xs, hq, hx⟩ := hg
  obtain ⟨its, rv, p, hz⟩ := I.list hq
  obtain ⟨f0, f1, f2, f3, f4, f5⟩ := hf it (by simp)
  have hl := rv.length
  exact wpAny_pyNext_list_end (I.ok.hd hc) st p.isList (by simp; omega) fun h' eb => ⟨rfl, I.turned (t' := s.toks) (fun b o hb e => eb b o hb e) f0 f1 f3 f4 f5⟩
 self := fun _ _ _ _ _ st h => wpAny_pyIter_listiter st h
theorem j8 {P : Program} {w : World} {K : PySem.W.Frag} {tg : Expr} (a it : Addr) : Turn P w K tg (Itt K a) [it] it (fun i h => h.IsTupleIter it a i) where
 mem := by simp
 obj := fun i h st b hb => by
  have e : b = it := by simpa using hb
  subst e
  obtain ⟨o, e, c, d⟩ := st
  exact ⟨o, e, fun v z => by rw [d] at z; cases z⟩
 keep := fun i h h' st k => st.at fun o e => k it (by simp) o e
 item := by
  intro X hP hw hK hc i pins s σ H E I hf st hg
  subst hP hw hK
  obtain ⟨xs, x, hq, hx⟩ := hg
  obtain ⟨its, rv, p, hz⟩ := I.tuple hq
  obtain ⟨u, hu, ru⟩ := rv.get hx
  obtain ⟨f0, f1, f2, f3, f4, f5⟩ := hf it (by simp)
  refine wpAny_pyNext_tuple_item st (show s.heap.IsTuple a its.toArray from p) (x := u) (by simpa using hu) fun h' st' sb => ?_
  have I1 : Inv X pins σ H { s with heap := h' } := I.turned (t' := s.toks) (fun b o hb e => (sb.2 b hb).trans e) f0 f1 f3 f4 f5
  obtain ⟨o, e, c, d⟩ := id st'
  exact ⟨u, rfl, lf (s := { s with heap := h' }) e c d (by decide) ⟨x, H, I1, ru, ⟨rfl, fun ys hy => by rw [I.tuple_inj hy hq]; exact hx⟩, st', fun b hb => (hf b hb).1⟩⟩
 done := by
  intro X hP hw hK hc i pins s σ H E I hf st hg
  subst hP hw hK
  obtain ⟨xs, hq, hx⟩ := hg
  obtain ⟨its, rv, p, hz⟩ := I.tuple hq
  obtain ⟨f0, f1, f2, f3, f4, f5⟩ := hf it (by simp)
  have hl := rv.length
  exact wpAny_pyNext_tuple_end (I.ok.hd hc) st (show s.heap.IsTuple a its.toArray from p) (by simp; omega) fun h' eb => ⟨rfl, I.turned (t' := s.toks) (fun b o hb e => eb b o hb e) f0 f1 f3 f4 f5⟩
 self := fun _ _ _ _ _ st h => wpAny_pyIter_tupleiter st h
theorem j9 {P : Program} {w : World} {K : PySem.W.Frag} {tg : Expr} (it : Addr) (lo : Int) (n : Nat) : Turn P w K tg (Itr lo n) [it] it (fun i h => IsRangeIter h it (lo + (i : Nat) * 1) ((n : Int) - (i : Nat)) 1) where
 mem := by simp
 obj := fun i h st b hb => by
  have e : b = it := by simpa using hb
  subst e
  exact ⟨_, st, fun v z => by
   have z' : Data.fields _ = Data.cell v := z
   cases z'⟩
 keep := fun i h h' st k => k it (by simp) _ st
 item := by
  intro X hP hw hK hc i pins s σ H E I hf st hg
  subst hP hw hK
  obtain ⟨f0, f1, f2, f3, f4, f5⟩ := hf it (by simp)
  have W := Walks.range (prog := X.prog) (w := X.w) (I.ok.hd hc) it lo 1 n
  refine W.item i s _ _ hg st fun v h' tk hv st' kk => ?_
  obtain ⟨t, rfl⟩ := hv
  have I1 : Inv X pins σ H { s with heap := h', toks := tk } := I.turned (fun b o hb e => kk b o (by simpa using hb) e) f0 f1 f3 f4 f5
  refine ⟨_, rfl, lf (s := { s with heap := h', toks := tk }) (n := "range_iterator") st' rfl rfl (by decide) ⟨.int (lo + i), H, I1, ⟨t, ?_⟩, ⟨rfl, rfl⟩, st', fun b hb => (hf b hb).1⟩⟩
  rw [Int.mul_one]
 done := by
  intro X hP hw hK hc i pins s σ H E I hf st hg
  subst hP hw hK
  obtain ⟨f0, f1, f2, f3, f4, f5⟩ := hf it (by simp)
  exact wpAny_pyNext_range_end (I.ok.hd hc) st (by have : n <= i := hg; omega) fun h' eb => ⟨rfl, I.turned (t' := s.toks) (fun b o hb e => eb b o hb e) f0 f1 f3 f4 f5⟩
 self := fun _ _ _ _ _ st h => wpAny_pyIter_rangeiter st h
end L2
namespace L2
open PySem PySem.Spec PyProof.Rows
section
variable {X : Cx} {tg : Expr}
noncomputable def uo (K : PySem.W.Frag) (tl : TE) : TI := fun σ H R => tl σ H fun x H1 => ∃ a, x = .ref a /\ (∃ xs, SqL K H1 a xs) /\ R (Itl K a) H1
noncomputable def zG (K : PySem.W.Frag) (tl : TE) : TI := fun σ H R => tl σ H fun x H1 => ∃ a, x = .ref a /\ (∃ xs, SqT K H1 a xs) /\ R (Itt K a) H1
theorem qW {l : Expr} {tl : TE} (hl : PE X l tl) : PI X tg l (uo X.K tl) := by
 intro pins s σ H R I h
 refine thn (hl pins s σ H _ I h) fun v s1 zr1 => ?_
 obtain ⟨x, H1, I1, r1, q1⟩ := zr1
 obtain ⟨a, e, ⟨xs, hq⟩, q⟩ := q1
 subst e
 cases r1
 obtain ⟨its, rv, p, hz⟩ := I1.list hq
 refine wpAny_pyIter_list p.isList ?_
 refine ⟨s1.heap.objs.size, [s1.heap.objs.size], _, _, H1, rfl, I1.kept (t' := s1.toks) fun b o e => Heap.get?_push_of_some _ e, mD a _, ⟨_, Heap.get?_push_size _ rfl, rfl, rfl⟩, fun b hb => ?_, q⟩
 have e : b = s1.heap.objs.size := by simpa using hb
 subst e
 exact I1.fpOk (Nat.le_refl _) (I1.hok.fresh (Nat.le_refl _))
theorem wG {l : Expr} {tl : TE} (hl : PE X l tl) : PI X tg l (zG X.K tl) := by
 intro pins s σ H R I h
 refine thn (hl pins s σ H _ I h) fun v s1 zr1 => ?_
 obtain ⟨x, H1, I1, r1, q1⟩ := zr1
 obtain ⟨a, e, ⟨xs, hq⟩, q⟩ := q1
 subst e
 cases r1
 obtain ⟨its, rv, p, hz⟩ := I1.tuple hq
 refine wpAny_pyIter_tuple (show s1.heap.IsTuple a its.toArray from p) ?_
 refine ⟨s1.heap.objs.size, [s1.heap.objs.size], _, _, H1, rfl, I1.kept (t' := s1.toks) fun b o e => Heap.get?_push_of_some _ e, j8 a _, ⟨_, Heap.get?_push_size _ rfl, rfl, rfl⟩, fun b hb => ?_, q⟩
 have e : b = s1.heap.objs.size := by simpa using hb
 subst e
 exact I1.fpOk (Nat.le_refl _) (I1.hok.fresh (Nat.le_refl _))
theorem jq {pins : List (Addr × Obj)} {σ : St} {H : Hp} {s : Shared} {R : It -> Hp -> Prop} {E : Value -> Shared -> Prop} {lo hi : Int} {t u v : Tok} {tk : Nat} (I : Inv X pins σ H s) (h1 : -(2 ^ 62) <= lo) (h2 : lo < 2 ^ 62) (h3 : -(2 ^ 62) <= hi) (h4 : hi < 2 ^ 62)
  (q : R (Itr lo (hi - lo).toNat) H) : wpAny (model X.prog X.w) X.A (pyIter (.ref s.heap.objs.size)) (PIE X pins σ tg R) E { s with heap := s.heap.push { cls := .type "range", data := .fields #[.int lo t, .int hi u, .int 1 v] }, toks := tk } := by
 refine wpAny_pyIter_range (IsRange.new ..) (small_one h1 h2 h3 h4) ?_
 have I1 : Inv X pins σ H { s with heap := s.heap.push { cls := .type "range", data := .fields #[.int lo t, .int hi u, .int 1 v] }, toks := tk } := I.kept fun b o e => Heap.get?_push_of_some _ e
 refine ⟨(s.heap.push { cls := .type "range", data := .fields #[.int lo t, .int hi u, .int 1 v] }).objs.size, [(s.heap.push { cls := .type "range", data := .fields #[.int lo t, .int hi u, .int 1 v] }).objs.size], _, _, H, rfl,
  I1.kept (t' := tk) fun b o e => Heap.get?_push_of_some _ e, j9 _ lo (hi - lo).toNat, ?_, fun b hb => ?_, q⟩
 ·have e1 : lo + ((0 : Nat) : Int) * 1 = lo := by simp
  have e2 : (((hi - lo).toNat : Nat) : Int) - ((0 : Nat) : Int) = Builtin.Range.rangeSize lo hi 1 := by rw [rangeSize_one]; split <;> omega
  show IsRangeIter _ _ (lo + ((0 : Nat) : Int) * 1) ((((hi - lo).toNat : Nat) : Int) - ((0 : Nat) : Int)) 1
  rw [e1, e2]
  exact Heap.get?_push_size _ rfl
 ·have e : b = (s.heap.push { cls := .type "range", data := .fields #[.int lo t, .int hi u, .int 1 v] }).objs.size := by simpa using hb
  subst e
  exact I1.fpOk (Nat.le_refl _) (I1.hok.fresh (Nat.le_refl _))
noncomputable def uq (ta : TA) : TI := fun σ H R => ta σ H fun vs H1 => ∃ j : Int, vs = [.int j] /\ -(2 ^ 62) <= j /\ j < 2 ^ 62 /\ R (Itr 0 j.toNat) H1
noncomputable def ur (ta : TA) : TI := fun σ H R => ta σ H fun vs H1 => ∃ i j : Int, vs = [.int i, .int j] /\ (-(2 ^ 62) <= i /\ i < 2 ^ 62 /\ -(2 ^ 62) <= j /\ j < 2 ^ 62) /\ R (Itr i (j - i).toNat) H1
theorem mE {a : Expr} {ta : TA} {p pos : Pos} (hg : Gl X "range") (hm : X.mg "range" = none) (ha : PA X [a] ta) (hs : starEach [a] X.env = [(false, eval a X.env)] := by rfl) : PI X tg (.Call (.Name "range" p) [a] [] pos) (uq ta) := by
 intro pins s σ H R I h
 refine Call_ (eN I hg hm boot_range (PyProof.Rows.callWith_type1 (thn (ha pos pins s σ H _ I h) fun us s1 zr1 => ?_) hs rfl))
 obtain ⟨vs, H1, I1, r1, q1⟩ := zr1
 obtain ⟨j, e, q1, q2, q⟩ := q1
 subst e
 cases r1 with
 | cons r rr =>
  cases rr
  obtain ⟨t, rfl⟩ := r
  exact call_range_1 (jq I1 (by omega) (by omega) q1 q2 (by simpa using q))
theorem mF {a b : Expr} {ta : TA} {p pos : Pos} (hg : Gl X "range") (hm : X.mg "range" = none) (ha : PA X [a, b] ta) (hs : starEach [a, b] X.env = [(false, eval a X.env), (false, eval b X.env)] := by rfl) (hs2 : starEach [b] X.env = [(false, eval b X.env)] := by rfl) :
  PI X tg (.Call (.Name "range" p) [a, b] [] pos) (ur ta) := by
 intro pins s σ H R I h
 refine Call_ (eN I hg hm boot_range (PyProof.Rows.callWith_type1 (thn (ha pos pins s σ H _ I h) fun us s1 ⟨vs, H1, I1, r1, q1⟩ => ?_) (by rw [hs, hs2]) (by rw [hs2]; rfl)))
 obtain ⟨i, j, e, ⟨q1, q2, q3, q4⟩, q⟩ := q1
 subst e
 cases r1 with
 | cons r rr =>
  cases rr with
  | cons r' rr =>
   cases rr
   obtain ⟨t, rfl⟩ := r
   obtain ⟨t', rfl⟩ := r'
   exact call_range_2 (jq I1 q1 q2 q3 q4 q)
noncomputable def zH (wi : TI) (g : TG) (tb : TS) : TS := fun D σ H => wi σ H fun J H1 => ∃ W : Nat -> Nat -> St -> Hp -> Prop, (∃ m, W 0 m σ H1) /\ ∀ i m σ H, W i m σ H ->
 (J.stop i H /\ D.nx σ H) \/ (J.go i H /\ ∃ N : St -> Hp -> Prop, (∀ σ' H', N σ' H' -> ∃ m', m' < m /\ W (i + 1) m' σ' H') /\ ∀ x H', J.yld i H x H' -> g x σ H' fun σ2 H2 => tb { D with nx := N, ct := N, bk := D.nx } σ2 H2)
noncomputable def bP (fp : List Addr) (h : Heap) : List (Addr × Obj) := fp.filterMap fun b => (h.get? b).map fun o => (b, o)
theorem aG {fp : List Addr} {h : Heap} {b : Addr} {o : Obj} (hb : b ∈ fp) (e : h.get? b = some o) : (b, o) ∈ bP fp h := List.mem_filterMap.mpr ⟨b, hb, by rw [e]; rfl⟩
theorem dW {fp : List Addr} {h : Heap} {p : Addr × Obj} (hp : p ∈ bP fp h) : p.1 ∈ fp /\ h.get? p.1 = some p.2 := by
 obtain ⟨b, hb, e⟩ := List.mem_filterMap.mp hp
 cases q : h.get? b with
 | none => rw [q] at e; cases e
 | some o =>
  rw [q] at e
  have e' : (b, o) = p := Option.some.inj e
  subst e'
  exact ⟨hb, q⟩
theorem Inv.pinned {pins : List (Addr × Obj)} {σ : St} {H : Hp} {s : Shared} {fp : List Addr} (I : Inv X pins σ H s) (hf : ∀ b ∈ fp, dw X pins H b) (ho : ∀ b ∈ fp, ∃ o, s.heap.get? b = some o /\ ∀ v, o.data ≠ .cell v) : Inv X (pins ++ bP fp s.heap) σ H s :=
 I.pins_of fun p hp => (List.mem_append.mp hp).elim (fun z => I.pin p (List.mem_append_right _ z)) fun z => by
  obtain ⟨hb, e⟩ := dW z
  obtain ⟨f0, f1, f2, _⟩ := hf p.1 hb
  obtain ⟨o, e', d⟩ := ho p.1 hb
  rw [e] at e'; cases e'
  exact ⟨e, f0, f1, f2, d⟩
theorem Inv.unpinned {pins pl : List (Addr × Obj)} {σ : St} {H : Hp} {s : Shared} (I : Inv X (pins ++ pl) σ H s) : Inv X pins σ H s := I.pins_of fun p hp => I.pin p (List.mem_append_right _ (List.mem_append_left _ hp))
theorem wH {iter : Expr} {body : List Stmt} {wi : TI} {g : TG} {tb : TS} {pos : Pos} (hp : PassesOwn (model X.prog X.w) X.A X.env X.xe) (hc : X.calm = true) (hi : PI X tg iter wi) (hg : PG X tg g) (hb : PSs X body tb)
  (hs : ∀ x, foldedSetIterable iter X.env x = pure x := by intro _; rfl) : PS X (.For tg iter body [] pos) (zH wi g tb) := by
 intro pins s σ H D I h
 refine wpAny_For (thn (hi pins s σ H _ I h) fun v s1 h1 => thn h1 fun itv s2 h2 => ?_) hs
 obtain ⟨it, fp, tn, J, H2, e, I2, T, st2, f2, W, ⟨m0, w0⟩, turn⟩ := h2
 subst e
 -- what stays true of the iterator's objects through the loop
 have stat : ∀ {H' : Hp}, (∀ b ∈ fp, H' b = none) -> ∀ b ∈ fp, dw X pins H' b := fun hn b hb => ⟨hn b hb, (f2 b hb).2⟩
 refine codeAny_forLoop_any (fun n s' => ∃ i σ' H', Inv X pins σ' H' s' /\ tn i s'.heap /\ (∀ b ∈ fp, H' b = none) /\ W i n σ' H') ?_ m0 ⟨0, σ, H2, I2, st2, fun b hb => (f2 b hb).1, w0⟩
 rintro n s3 ⟨i, σ3, H3, I3, st3, fr3, w3⟩
 rcases turn i n σ3 H3 w3 with ⟨stop, qn⟩ | ⟨go, N, hN, step⟩
 ·refine wpAny_passesOwn hp (thn (T.done X rfl rfl rfl hc i pins s3 σ3 H3 X.xe I3 (stat fr3) st3 stop) fun r s4 zr1 => ?_)
  obtain ⟨hr, I4⟩ := zr1
  subst hr
  exact wpAny_execs_nil ⟨σ3, H3, I4, qn⟩
 ·refine wpAny_passesOwn hp (thn (T.item X rfl rfl rfl hc i pins s3 σ3 H3 X.xe I3 (stat fr3) st3 go) fun r s4 zr1 => ?_)
  obtain ⟨u, hr, h4⟩ := zr1
  subst hr
  refine wpAny_passesOwn hp (thn h4 fun _ s5 zr1 => ?_)
  obtain ⟨x, H5, I5, r5, y5, st5, fr5⟩ := zr1
  have I5' := I5.pinned (stat fr5) (T.obj _ _ st5)
  refine wpAny_passesOwn hp (thn (hg _ s5 σ3 H5 x u _ I5' r5 (step x H5 y5)) fun _ s6 zr1 => ?_)
  obtain ⟨σ6, H6, I6, q6⟩ := zr1
  refine wpAny_passesOwn hp (thn (hb _ s6 σ6 H6 _ I6 q6) fun f s7 q7 => ?_)
  have again : ∀ {σ7 : St} {H7 : Hp}, Inv X (pins ++ bP fp s5.heap) σ7 H7 s7 -> N σ7 H7 -> ∃ m, m < n /\ ∃ i σ' H', Inv X pins σ' H' s7 /\ tn i s7.heap /\ (∀ b ∈ fp, H' b = none) /\ W i m σ' H' := fun {σ7 H7} I7 n7 => by
   obtain ⟨m', hm, w7⟩ := hN σ7 H7 n7
   refine ⟨m', hm, i + 1, σ7, H7, I7.unpinned, T.keep _ _ _ st5 fun b hb o e => (I7.pin (b, o) (List.mem_append_right _ (List.mem_append_right _ (aG hb e)))).1, fun b hb => ?_, w7⟩
   obtain ⟨o, e, d⟩ := T.obj _ _ st5 b hb
   exact (I7.pin (b, o) (List.mem_append_right _ (List.mem_append_right _ (aG hb e)))).2.1
  cases f with
  | next => obtain ⟨σ7, H7, I7, n7⟩ := q7; exact again I7 n7
  | cont => obtain ⟨σ7, H7, I7, n7⟩ := q7; exact again I7 n7
  | brk => obtain ⟨σ7, H7, I7, q7⟩ := q7; exact ⟨σ7, H7, I7.unpinned, q7⟩
  | ret v => obtain ⟨x7, σ7, H7, I7, r7, q7⟩ := q7; exact ⟨x7, σ7, H7, I7.unpinned, r7, q7⟩
end
end L2
namespace L2
open PySem PySem.Spec PyProof.Rows
noncomputable abbrev R2 := V -> V -> Hp -> VK -> Prop
noncomputable def OpR (X : Cx) (f : Value -> Value -> Sem Value) (r : R2) : Prop :=
 ∀ (pins : List (Addr × Obj)) (s : Shared) (σ : St) (H : Hp) (x y : V) (v u : Value) (Q : VK), Inv X pins σ H s -> RelV x v -> RelV y u -> r x y H Q ->
  wpAny (model X.prog X.w) X.A (f v u) (EP X pins σ Q) X.xe s
noncomputable def UnR (X : Cx) (f : Value -> Sem Value) (r : V -> Hp -> VK -> Prop) : Prop :=
 ∀ (pins : List (Addr × Obj)) (s : Shared) (σ : St) (H : Hp) (x : V) (v : Value) (Q : VK), Inv X pins σ H s -> RelV x v -> r x H Q ->
  wpAny (model X.prog X.w) X.A (f v) (EP X pins σ Q) X.xe s
noncomputable def cG (X : Cx) (f : Value) (r : List V -> Hp -> VK -> Prop) : Prop :=
 ∀ (pins : List (Addr × Obj)) (s : Shared) (σ : St) (H : Hp) (xs : List V) (us : List Value) (Q : VK), Inv X pins σ H s -> Vals xs us -> r xs H Q ->
  wpAny (model X.prog X.w) X.A (call f us) (EP X pins σ Q) X.xe s
noncomputable def B6 (X : Cx) (r : V -> Hp -> (Bool -> Hp -> Prop) -> Prop) : Prop :=
 ∀ (pins : List (Addr × Obj)) (s : Shared) (σ : St) (H : Hp) (x : V) (v : Value) (Q : Bool -> Hp -> Prop), Inv X pins σ H s -> RelV x v -> r x H Q ->
  wpAny (model X.prog X.w) X.A (truthy v) (TP X pins σ Q) X.xe s
noncomputable def tOp (r : R2) (ta tb : TE) : TE := fun σ H Q => ta σ H fun x H1 => tb σ H1 fun y H2 => r x y H2 Q
noncomputable def tUn (r : V -> Hp -> VK -> Prop) (ta : TE) : TE := fun σ H Q => ta σ H fun x H1 => r x H1 Q
noncomputable def rI (C : Int -> Int -> Prop) (g : Int -> Int -> V) : R2 := fun x y H Q => ∃ i j, x = .int i /\ y = .int j /\ C i j /\ Q (g i j) H
noncomputable def rI0 (g : Int -> Int -> V) : R2 := fun x y H Q => ∃ i j, x = .int i /\ y = .int j /\ Q (g i j) H
noncomputable def rU (g : Int -> V) : V -> Hp -> VK -> Prop := fun x H Q => ∃ i, x = .int i /\ Q (g i) H
section
variable {X : Cx} {a b c : Expr} {ta tb tc : TE} {pos : Pos}
theorem wJ (ha : PE X a ta) (hb : PE X b tb) {pins : List (Addr × Obj)} {s : Shared} {σ : St} {H : Hp} {R : V -> V -> Hp -> Prop} (I : Inv X pins σ H s)
  (h : ta σ H fun x H1 => tb σ H1 fun y H2 => R x y H2) {Q : Value -> Shared -> Prop} {f : Value -> Value -> Sem Value}
  (hf : ∀ v u s2 x y H2, Inv X pins σ H2 s2 -> RelV x v -> RelV y u -> R x y H2 -> wpAny (model X.prog X.w) X.A (f v u) Q X.xe s2) :
  wpAny (model X.prog X.w) X.A (eval a X.env) (fun v s₁ => wpAny (model X.prog X.w) X.A (eval b X.env) (fun u s₂ => wpAny (model X.prog X.w) X.A (f v u) Q X.xe s₂) X.xe s₁) X.xe s := by
 refine thn (ha pins s σ H _ I h) fun v s1 zr1 => ?_
 obtain ⟨x, H1, I1, r1, q1⟩ := zr1
 refine thn (hb pins s1 σ H1 _ I1 q1) fun u s2 zr1 => ?_
 obtain ⟨y, H2, I2, r2, q2⟩ := zr1
 exact hf v u s2 x y H2 I2 r1 r2 q2
theorem jr {op : Operator} {r : R2} (ho : OpR X (binaryOp op) r) (ha : PE X a ta) (hb : PE X b tb) : PE X (.BinOp a op b pos) (tOp r ta tb) := by
 intro pins s σ H Q I h
 exact wpAny_BinOp (wJ ha hb I h fun v u s2 x y H2 I2 rx ry q => ho pins s2 σ H2 x y v u Q I2 rx ry q)
theorem zI {op : UnaryOp} {r : V -> Hp -> VK -> Prop} (ho : UnR X (unaryOp op) r) (ha : PE X a ta) : PE X (.UnaryOp op a pos) (tUn r ta) := by
 intro pins s σ H Q I h
 exact UnaryOp_ (thn (ha pins s σ H _ I h) fun v s1 zt1 => by obtain ⟨x, H1, I1, r1, q1⟩ := zt1; exact ho pins s1 σ H1 x v Q I1 r1 q1)
theorem opI {f : Value -> Value -> Sem Value} {C : Int -> Int -> Prop} {g : Int -> Int -> Int}
  (rule : ∀ (i j : Int) (t u : Tok) (s : Shared) (Q : Value -> Shared -> Prop) (E : Value -> Shared -> Prop), C i j -> Q (.int (g i j) s.toks) { s with toks := s.toks + 1 } -> wpAny (model X.prog X.w) X.A (f (.int i t) (.int j u)) Q E s) :
  OpR X f (rI C fun i j => .int (g i j)) := by
 intro pins s σ H x y v u Q I rx ry h
 obtain ⟨i, j, rfl, rfl, hc, q⟩ := h
 obtain ⟨t, rfl⟩ := rx
 obtain ⟨t', rfl⟩ := ry
 exact rule i j t t' s _ _ hc ⟨.int (g i j), H, I.tok _, ⟨_, rfl⟩, q⟩
theorem wK {f : Value -> Value -> Sem Value} {g : Int -> Int -> Int}
  (rule : ∀ (i j : Int) (t u : Tok) (s : Shared) (Q : Value -> Shared -> Prop) (E : Value -> Shared -> Prop), Q (.int (g i j) s.toks) { s with toks := s.toks + 1 } -> wpAny (model X.prog X.w) X.A (f (.int i t) (.int j u)) Q E s) :
  OpR X f (rI0 fun i j => .int (g i j)) := by
 intro pins s σ H x y v u Q I rx ry h
 obtain ⟨i, j, rfl, rfl, q⟩ := h
 obtain ⟨t, rfl⟩ := rx
 obtain ⟨t', rfl⟩ := ry
 exact rule i j t t' s _ _ ⟨.int (g i j), H, I.tok _, ⟨_, rfl⟩, q⟩
theorem qX {f : Value -> Value -> Sem Value} {g : Int -> Int -> Bool}
  (rule : ∀ (i j : Int) (t u : Tok) (s : Shared) (Q : Value -> Shared -> Prop) (E : Value -> Shared -> Prop), Q (.bool (g i j)) s -> wpAny (model X.prog X.w) X.A (f (.int i t) (.int j u)) Q E s) :
  OpR X f (rI0 fun i j => .bl (g i j)) := by
 intro pins s σ H x y v u Q I rx ry h
 obtain ⟨i, j, rfl, rfl, q⟩ := h
 obtain ⟨t, rfl⟩ := rx
 obtain ⟨t', rfl⟩ := ry
 exact rule i j t t' s _ _ ⟨.bl (g i j), H, I, rfl, q⟩
noncomputable def B7 (i j : Int) : Prop := 0 < j /\ j < 1073741824
noncomputable def zJ (i j : Int) : Prop := 0 <= j /\ j <= 1000000 /\ i.natAbs < 2 ^ 64
noncomputable def wL (i j : Int) : Prop := (-(2 ^ 64) < i /\ i < 2 ^ 64) \/ (-(2 ^ 64) < j /\ j < 2 ^ 64)
theorem wL.ok {i j : Int} (h : wL i j) : IntMulOk i j := by
 rcases h with ⟨h1, h2⟩ | ⟨h1, h2⟩
 ·exact .of_left (intBits_le_64 h1 h2)
 ·exact .of_right (intBits_le_64 h1 h2)
theorem two_pow_nn (k : Nat) : (0 : Int) <= 2 ^ k := by
 rw [two_pow_cast]
 exact Int.natCast_nonneg _
theorem bj : OpR X (binaryOp .Add) (rI0 fun i j => .int (i + j)) := wK fun _ _ _ _ _ _ _ q => add_int q
theorem ke : OpR X (binaryOp .Sub) (rI0 fun i j => .int (i - j)) := wK fun _ _ _ _ _ _ _ q => sub_int q
theorem eO : OpR X (binaryOp .Mult) (rI wL fun i j => .int (i * j)) := opI fun _ _ _ _ _ _ _ hc q => mul_int q hc.ok
theorem fw : OpR X (binaryOp .FloorDiv) (rI B7 fun i j => .int (i / j)) := opI fun i j _ _ _ _ _ hc q => by
 have h1 : (0 : Int) < j := hc.1
 have h2 : j < 1073741824 := hc.2
 exact floordiv_int (by omega) (by rw [Int.fdiv_eq_ediv_of_nonneg i (by omega)]; exact q) (.inl (PyProof.noPylong_small (by omega)))
theorem cZ : OpR X (binaryOp .Mod) (rI (fun _ j => 0 < j) fun i j => .int (i % j)) := opI fun i j _ _ _ _ _ hc q => by
 have h1 : (0 : Int) < j := hc
 exact mod_int' (by omega) (by rw [Int.fmod_eq_emod_of_nonneg i (by omega)]; exact q)
theorem kh : OpR X (binaryOp .Pow) (rI zJ fun i j => .int (i ^ j.toNat)) := opI fun _ _ _ _ _ _ _ hc q => pow_int_small hc.1 hc.2.1 hc.2.2 q
theorem ir : OpR X (binaryOp .LShift) (rI zJ fun i j => .int (i * 2 ^ j.toNat)) := opI fun _ _ _ _ _ _ _ hc q => lshift_int_small hc.1 hc.2.1 hc.2.2 q
theorem dB : OpR X (binaryOp .RShift) (rI (fun _ j => 0 <= j) fun i j => .int (i / 2 ^ j.toNat)) := opI fun i j _ _ _ _ _ hc q =>
 rshift_int hc (by rw [Int.fdiv_eq_ediv_of_nonneg i (two_pow_nn _)]; exact q)
theorem eP : OpR X (binaryOp .BitAnd) (rI0 fun i j => .int (Builtin.bitAnd i j)) := wK fun _ _ _ _ _ _ _ q => and_int q
theorem unI {f : Value -> Sem Value} {g : Int -> Int}
  (rule : ∀ (i : Int) (t : Tok) (s : Shared) (Q : Value -> Shared -> Prop) (E : Value -> Shared -> Prop), Q (.int (g i) s.toks) { s with toks := s.toks + 1 } -> wpAny (model X.prog X.w) X.A (f (.int i t)) Q E s) :
  UnR X f (rU fun i => .int (g i)) := by
 intro pins s σ H x v Q I rx h
 obtain ⟨i, rfl, q⟩ := h
 obtain ⟨t, rfl⟩ := rx
 exact rule i t s _ _ ⟨.int (g i), H, I.tok _, ⟨_, rfl⟩, q⟩
theorem cQ : UnR X (unaryOp .USub) (rU fun i => .int (-i)) := unI fun _ _ _ _ _ q => neg_int q
end
noncomputable def qY : V -> V -> Bool
 | .non, .non => true | .non, .int _ => true | .int _, .non => true | .non, .bl _ => true | .bl _, .non => true | .non, .str _ => true | .str _, .non => true
 | .int _, .int _ => true | .bl _, .bl _ => true | .str _, .str _ => true | .byt _, .byt _ => true
 | .int _, .str _ => true | .str _, .int _ => true | .bl _, .str _ => true | .str _, .bl _ => true
 | _, _ => false
noncomputable def rEq : R2 := fun x y H Q => qY x y = true /\ Q (.bl (decide (x = y))) H
noncomputable def rNe : R2 := fun x y H Q => qY x y = true /\ Q (.bl (!decide (x = y))) H
theorem lg {i j : Int} : decide (V.int i = V.int j) = (i == j) := by
 rw [Bool.eq_iff_iff]
 simp
theorem nU {i j : Bool} : decide (V.bl i = V.bl j) = (i == j) := by
 rw [Bool.eq_iff_iff]
 simp
theorem lh {i j : Str} : decide (V.str i = V.str j) = (i == j) := by
 rw [Bool.eq_iff_iff]
 simp
theorem li {i j : Array UInt8} : decide (V.byt i = V.byt j) = (i.toList == j.toList) := by
 rw [Bool.eq_iff_iff]
 cases i
 cases j
 simp
section
variable {X : Cx} {a b c : Expr} {ta tb tc : TE} {pos : Pos}
theorem aI {pins : List (Addr × Obj)} {σ : St} {H : Hp} {s : Shared} {Q : VK} {k k' : Bool} (I : Inv X pins σ H s) (q : Q (.bl k) H) (e : k = k') : EP X pins σ Q (.bool k') s := by
 subst e
 exact ⟨.bl k, H, I, rfl, q⟩
theorem fP : OpR X (compareOp .Eq) rEq := by
 intro pins s σ H x y v u Q I rx ry h
 obtain ⟨hs, q⟩ := h
 cases x with
 | non =>
  cases rx
  cases y with
  | non => cases ry; exact PySem.EqNone.eq_none_none (aI I q (by simp))
  | bl j => cases ry; exact PySem.EqNone.eq_none_bool (aI I q (by simp))
  | int j => obtain ⟨t', rfl⟩ := ry; exact PySem.EqNone.eq_none_int (aI I q (by simp))
  | str j => obtain ⟨t', rfl⟩ := ry; exact PySem.EqNone.eq_none_str (aI I q (by simp))
  | _ => exact absurd (show false = true from hs) Bool.false_ne_true
 | bl i =>
  cases rx
  cases y with
  | non => cases ry; exact PySem.EqNone.eq_bool_none (aI I q (by simp))
  | bl j => cases ry; exact eq_bool (aI I q nU)
  | str j => obtain ⟨t', rfl⟩ := ry; exact PySem.EqMixed.eq_bool_str (aI I q (by simp))
  | _ => exact absurd (show false = true from hs) Bool.false_ne_true
 | int i =>
  obtain ⟨t, rfl⟩ := rx
  cases y with
  | non => cases ry; exact PySem.EqNone.eq_int_none (aI I q (by simp))
  | int j => obtain ⟨t', rfl⟩ := ry; exact eq_int (aI I q lg)
  | str j => obtain ⟨t', rfl⟩ := ry; exact PySem.EqMixed.eq_int_str (aI I q (by simp))
  | _ => exact absurd (show false = true from hs) Bool.false_ne_true
 | str i =>
  obtain ⟨t, rfl⟩ := rx
  cases y with
  | non => cases ry; exact PySem.EqNone.eq_str_none (aI I q (by simp))
  | bl j => cases ry; exact PySem.EqMixed.eq_str_bool (aI I q (by simp))
  | int j => obtain ⟨t', rfl⟩ := ry; exact PySem.EqMixed.eq_str_int (aI I q (by simp))
  | str j => obtain ⟨t', rfl⟩ := ry; exact eq_str (aI I q lh)
  | _ => exact absurd (show false = true from hs) Bool.false_ne_true
 | byt i =>
  obtain ⟨t, rfl⟩ := rx
  cases y with
  | byt j => obtain ⟨t', rfl⟩ := ry; exact PySem.W.eq_bytes (aI I q li)
  | _ => exact absurd (show false = true from hs) Bool.false_ne_true
 | _ => cases y <;> exact absurd (show false = true from hs) Bool.false_ne_true
theorem uu : OpR X (compareOp .NotEq) rNe := by
 intro pins s σ H x y v u Q I rx ry h
 obtain ⟨hs, q⟩ := h
 cases x with
 | non =>
  cases rx
  cases y with
  | non => cases ry; exact PySem.EqNone.ne_none_none (aI I q (by simp))
  | bl j => cases ry; exact PySem.EqNone.ne_none_bool (aI I q (by simp))
  | int j => obtain ⟨t', rfl⟩ := ry; exact PySem.EqNone.ne_none_int (aI I q (by simp))
  | str j => obtain ⟨t', rfl⟩ := ry; exact PySem.EqNone.ne_none_str (aI I q (by simp))
  | _ => exact absurd (show false = true from hs) Bool.false_ne_true
 | bl i =>
  cases rx
  cases y with
  | non => cases ry; exact PySem.EqNone.ne_bool_none (aI I q (by simp))
  | bl j => cases ry; exact ne_bool (aI I q (congrArg not nU))
  | str j => obtain ⟨t', rfl⟩ := ry; exact PySem.EqMixed.ne_bool_str (aI I q (by simp))
  | _ => exact absurd (show false = true from hs) Bool.false_ne_true
 | int i =>
  obtain ⟨t, rfl⟩ := rx
  cases y with
  | non => cases ry; exact PySem.EqNone.ne_int_none (aI I q (by simp))
  | int j => obtain ⟨t', rfl⟩ := ry; exact ne_int (aI I q (congrArg not lg))
  | str j => obtain ⟨t', rfl⟩ := ry; exact PySem.EqMixed.ne_int_str (aI I q (by simp))
  | _ => exact absurd (show false = true from hs) Bool.false_ne_true
 | str i =>
  obtain ⟨t, rfl⟩ := rx
  cases y with
  | non => cases ry; exact PySem.EqNone.ne_str_none (aI I q (by simp))
  | bl j => cases ry; exact PySem.EqMixed.ne_str_bool (aI I q (by simp))
  | int j => obtain ⟨t', rfl⟩ := ry; exact PySem.EqMixed.ne_str_int (aI I q (by simp))
  | str j => obtain ⟨t', rfl⟩ := ry; exact ne_str (aI I q (congrArg not lh))
  | _ => exact absurd (show false = true from hs) Bool.false_ne_true
 | byt i =>
  obtain ⟨t, rfl⟩ := rx
  cases y with
  | byt j => obtain ⟨t', rfl⟩ := ry; exact PySem.W.ne_bytes (aI I q (congrArg not li))
  | _ => exact absurd (show false = true from hs) Bool.false_ne_true
 | _ => cases y <;> exact absurd (show false = true from hs) Bool.false_ne_true
theorem zK : OpR X (compareOp .Lt) (rI0 fun i j => .bl (decide (i < j))) := qX fun _ _ _ _ _ _ _ q => lt_int q
theorem lj : OpR X (compareOp .LtE) (rI0 fun i j => .bl (decide (i <= j))) := qX fun _ _ _ _ _ _ _ q => le_int q
theorem lp : OpR X (compareOp .Gt) (rI0 fun i j => .bl (decide (j < i))) := qX fun _ _ _ _ _ _ _ q => gt_int q
theorem uv : OpR X (compareOp .GtE) (rI0 fun i j => .bl (decide (j <= i))) := qX fun _ _ _ _ _ _ _ q => ge_int q
theorem bD (b : Expr) {op : CmpOp} (h : op ≠ .In := by decide) (h2 : op ≠ .NotIn := by decide) : behindInMarks op b = false := by
 have e1 : (op == CmpOp.In) = false := by cases op <;> first | rfl | exact absurd rfl h
 have e2 : (op == CmpOp.NotIn) = false := by cases op <;> first | rfl | exact absurd rfl h2
 cases b <;> simp [behindInMarks, e1, e2]
theorem qZ {op : CmpOp} {r : R2} (ho : OpR X (compareOp op) r) (ha : PE X a ta) (hb : PE X b tb) (hm : behindInMarks op b = false) : PE X (.Compare a [op] [b] pos) (tOp r ta tb) := by
 intro pins s σ H Q I h
 exact wpAny_Compare1 (wJ ha hb I h fun v u s2 x y H2 I2 rx ry q => ho pins s2 σ H2 x y v u Q I2 rx ry q) hm
noncomputable def nV (t : TE) : TT := fun σ H Q => t σ H fun x H' => ∃ k, x = .bl k /\ Q k H'
theorem q0 {op : CmpOp} {r : R2} (ho : OpR X (compareOp op) r) (ha : PE X a ta) (hb : PE X b tb) (hm : behindInMarks op b = false) : PT X (.Compare a [op] [b] pos) (nV (tOp r ta tb)) := by
 intro pins s σ H Q I h
 refine wpAny_isTrue_Compare1 (thn (ha pins s σ H _ I h) fun v s1 ⟨x, H1, I1, r1, q1⟩ => thn (hb pins s1 σ H1 _ I1 q1) fun u s2 ⟨y, H2, I2, r2, q2⟩ =>
  thn (ho pins s2 σ H2 x y v u _ I2 r1 r2 q2) fun c s3 ⟨z, H3, I3, r3, k, e, q3⟩ => ?_) hm
 subst e
 cases r3
 exact wpAny_truthy_bool ⟨H3, I3, q3⟩
noncomputable def ki (r r' : R2) (ta tb tc : TE) : TE := fun σ H Q => ta σ H fun x H1 => tb σ H1 fun y H2 => r x y H2 fun z H3 => ∃ k, z = .bl k /\
 (if k = true then tc σ H3 fun w' H4 => r' y w' H4 Q else Q (.bl false) H3)
theorem nW {op op' : CmpOp} {r r' : R2} (ho : OpR X (compareOp op) r) (ho' : OpR X (compareOp op') r') (ha : PE X a ta) (hb : PE X b tb) (hc : PE X c tc)
  (hm : lastMarks [op, op'] [b, c] = false := by with_unfolding_all rfl) : PE X (.Compare a [op, op'] [b, c] pos) (ki r r' ta tb tc) := by
 intro pins s σ H Q I h
 refine Compare_chain (thn (ha pins s σ H _ I h) fun v s1 ⟨x, H1, I1, r1, q1⟩ => chain_link (thn (hb pins s1 σ H1 _ I1 q1) fun u s2 ⟨y, H2, I2, r2, q2⟩ =>
  thn (ho pins s2 σ H2 x y v u _ I2 r1 r2 q2) fun d s3 ⟨z, H3, I3, r3, k, e, q3⟩ => ?_)) hm
 subst e
 cases r3
 refine wpAny_truthy_bool ?_
 cases k with
 | false => exact ite_ff ⟨.bl false, H3, I3, rfl, q3⟩
 | true => exact ite_tt (chain_last (thn (hc pins s3 σ H3 _ I3 q3) fun w' s4 zt1 => by obtain ⟨z', H4, I4, r4, q4⟩ := zt1; exact ho' pins s4 σ H4 y z' u w' Q I4 r2 r4 q4))
noncomputable def TruV (K : PySem.W.Frag) (x : V) (H : Hp) (k : Bool) : Prop :=
 match x with
 | .non => k = false
 | .bl b => k = b
 | .int i => k = (i != 0)
 | .str y => y.length <= sizeLine /\ k = ((y.length : Int) != 0)
 | .byt y => y.size <= sizeLine /\ k = ((y.size : Int) != 0)
 | .ref p => (∃ xs, SqL K H p xs /\ k = !xs.isEmpty) \/ (∃ xs, SqT K H p xs /\ k = !xs.isEmpty) \/ ∃ kvs, H p = some (.dK kvs) /\ k = !kvs.isEmpty
 | _ => False
theorem kj {κ : Type} {kvs : List (κ × V)} {vs : List (κ × Value)} (r : KV kvs vs) : (!vs.isEmpty) = !kvs.isEmpty := by
 cases r <;> rfl
theorem fQ {xs : List V} {its : List Value} (r : Vals xs its) : (!its.toArray.isEmpty) = !xs.isEmpty := by
 cases r <;> simp
theorem eQ : (sizeLine : Nat) < 2 ^ 63 := by rw [sizeLine_eq]; decide
theorem wM : B6 X (fun x H Q => ∃ k, TruV X.K x H k /\ Q k H) := by
 intro pins s σ H x v Q I rx h
 obtain ⟨k, e, q⟩ := h
 have hl := eQ
 have hs : sizeLine = 16777216 := sizeLine_eq
 cases x with
 | non =>
  cases rx
  have e' : k = false := e
  subst e'
  exact truthy_none ⟨H, I, q⟩
 | bl b =>
  cases rx
  have e' : k = b := e
  subst e'
  exact wpAny_truthy_bool ⟨H, I, q⟩
 | int i =>
  obtain ⟨t, rfl⟩ := rx
  have e' : k = (i != 0) := e
  subst e'
  exact PySem.P.truthy_int ⟨H, I, q⟩
 | str y =>
  obtain ⟨t, rfl⟩ := rx
  obtain ⟨hy, e'⟩ : y.length <= sizeLine /\ k = ((y.length : Int) != 0) := e
  subst e'
  exact PySem.P.truthy_str (by omega) ⟨H, I.tok _, q⟩
 | byt y =>
  obtain ⟨t, rfl⟩ := rx
  obtain ⟨hy, e'⟩ : y.size <= sizeLine /\ k = ((y.size : Int) != 0) := e
  subst e'
  exact PySem.W.truthy_bytes (by omega) ⟨H, I.tok _, q⟩
 | ref p =>
  cases rx
  have e' : (∃ xs, SqL X.K H p xs /\ k = !xs.isEmpty) \/ (∃ xs, SqT X.K H p xs /\ k = !xs.isEmpty) \/ ∃ kvs, H p = some (.dK kvs) /\ k = !kvs.isEmpty := e
  rcases e' with ⟨xs, hx, e'⟩ | ⟨xs, hx, e'⟩ | ⟨kvs, hx, e'⟩
  ·subst e'
   obtain ⟨its, r, pl, hz⟩ := I.list hx
   have hlen := r.length
   exact wpAny_truthy_list pl.isList (by simp only [List.size_toArray]; omega) ⟨H, I.tok _, by rw [fQ r]; exact q⟩
  ·subst e'
   obtain ⟨its, r, pl, hz⟩ := I.tuple hx
   have hlen := r.length
   exact truthy_tuple pl (by simp only [List.size_toArray]; omega) ⟨H, I.tok _, by rw [fQ r]; exact q⟩
  ·subst e'
   obtain ⟨hz, hS, vs, r, m⟩ : kvs.length <= sizeLine /\ (p == sysModules) = false /\ ∃ vs, KV kvs vs /\ s.heap.DictOf (ip X.prog X.w) p vs := I.hok p _ hx
   have hlen : kvs.length = vs.length := Paired.length r
   exact wpAny_truthy_dict hS m (by omega) ⟨H, I.tok _, by rw [kj r]; exact q⟩
 | _ => exact (show False from e).elim
theorem nX (ha : PE X a ta) (he : ∀ whole, isTrue a X.env whole = (do let v <- whole; standAt a.pos; holding [v] (truthy v))) :
  PT X a (fun σ H Q => ta σ H fun x H' => ∃ k, TruV X.K x H' k /\ Q k H') := by
 intro pins s σ H Q I h
 exact isTrue_plain (thn (ha pins s σ H _ I h) fun v s1 zt1 => by obtain ⟨x, H1, I1, r1, q1⟩ := zt1; exact wM pins s1 σ H1 x v Q I1 r1 q1) (he _)
theorem vals1 {x : V} {us : List Value} (r : Vals [x] us) : ∃ u, us = [u] /\ RelV x u := by
 cases r with
 | cons r1 r2 => cases r2; exact ⟨_, rfl, r1⟩
theorem vals2 {x y : V} {us : List Value} (r : Vals [x, y] us) : ∃ u w', us = [u, w'] /\ RelV x u /\ RelV y w' := by
 cases r with
 | cons r1 r2 =>
  cases r2 with
  | cons r3 r4 => cases r4; exact ⟨_, _, rfl, r1, r3⟩
theorem mG (hc : X.calm = true) : cG X (.builtin "max") (fun xs H Q => ∃ i j, xs = [.int i, .int j] /\ Q (.int (if j > i then j else i)) H) := by
 intro pins s σ H xs us Q I r h
 obtain ⟨i, j, rfl, q⟩ := h
 obtain ⟨u, w', rfl, ⟨t, rfl⟩, ⟨t', rfl⟩⟩ := vals2 r
 refine max_two_ints (I.ok.hd hc) fun h' tk k => ⟨_, H, I.kept k, ?_, q⟩
 by_cases hj : j > i
 ·rw [if_pos hj, if_pos hj]; exact ⟨_, rfl⟩
 ·rw [if_neg hj, if_neg hj]; exact ⟨_, rfl⟩
end
end L2
namespace L2
open PySem PySem.Spec PyProof.Rows
structure ObjM (h : Heap) (x dx C : Addr) (mA : Str -> Option Value) : Prop where
 obj : h.get? x = some (PySem.W.instObj C dx)
 ns : h.Ns1 dx mA
 ne : dx ≠ x
theorem mH {h : Heap} {dx : Addr} {mA : Str -> Option Value} (n : h.Ns1 dx mA) : ∃ od, h.get? dx = some od /\ ∀ name, PySem.W.lookIn name od = some (mA name) := by
 obtain ⟨o, es, ep, ho, hd, hk, _, hm⟩ := n
 refine ⟨o, ho, fun name => ?_⟩
 have e := hm name
 unfold nsFind findBy at e
 rw [<- Array.find?_toList] at e
 unfold PySem.W.lookIn
 rw [hd]
 dsimp only
 split
 ·rename_i y q
  rw [q] at e
  exact congrArg some e
 ·rename_i q
  rw [q] at e
  have a : es.toList.any (·.refKey) = false := by
   rw [List.any_eq_false]
   intro y hy
   obtain ⟨z, t, hkey⟩ := hk y (Array.mem_toList_iff.mp hy)
   simp [DictEntry.refKey, hkey]
  have a' : ¬ es.toList.any (·.refKey) = true := by rw [a]; exact Bool.false_ne_true
  rw [if_neg a']
  exact congrArg some e
theorem ObjM.look {h : Heap} {x dx C : Addr} {mA : Str -> Option Value} (I : ObjM h x dx C mA) : ∃ od, PySem.W.InstAt h x (PySem.W.instObj C dx) C (some od) /\ ∀ name, PySem.W.lookIn name od = some (mA name) :=
 let ⟨od, ho, hl⟩ := mH I.ns
 ⟨od, ⟨I.obj, rfl, rfl, ho⟩, hl⟩
section
variable {P : Program} {w : World} {H H' : Hp} {h h' : Heap} {a C dx : Addr} {fs fs' : List (Str × V)}
theorem rf (hok : HOk P w H h) (e : H a = some (.ins C dx fs)) : ∃ mA, ObjM h a dx C mA /\ (∀ f, RelO (fs.lookup f) (mA f)) /\ PySem.Within mA (fs.map (·.1)) /\ fs.length <= 1000 /\ H dx = some (.own a) := by
 obtain ⟨d, z, ne, ob, mA, n, r, q⟩ := (show aY P w H h a (.ins C dx fs) from hok a _ e)
 exact ⟨mA, ⟨ob, n, ne⟩, r, q, z, d⟩
end
structure Cls (K : PySem.W.Frag) (C : Addr) : Prop where
 pg : PySem.W.plainGet K C Str.empty = true
 hd : PySem.W.hasDictIn K C = true
 po : PySem.W.plainOver K C = true
 sa : PySem.W.findIn K (.ref C) "__setattr__" = some (some (.builtin "object.__setattr__"))
theorem Cls.get {K : PySem.W.Frag} {C : Addr} (c : Cls K C) (f : Str) : PySem.W.plainGet K C f = true := c.pg
section
variable {X : Cx} {pins : List (Addr × Obj)} {σ : St} {H : Hp} {s : Shared} {A : Around} {E : Value -> Shared -> Prop} {Q : Value -> Shared -> Prop} {c : Value} {b : Bool}
inductive fq (K : PySem.W.Frag) (H : Hp) : V -> Value -> Prop where
 | non : fq K H .non (.type "NoneType")
 | bl (x : Bool) : fq K H (.bl x) (.type "bool")
 | int (i : Int) : fq K H (.int i) (.type "int")
 | str (x : Str) : fq K H (.str x) (.type "str")
 | flt (x : UInt64) : fq K H (.flt x) (.type "float")
 | lst {a : Addr} {xs : List V} (e : H a = some (.lst xs)) : fq K H (.ref a) (.type "list")
 | frz {a : Addr} {o : Obj} {xs : List V} (e : H a = some (.frz o (.lst xs))) : fq K H (.ref a) (.type "list")
 | tup {a : Addr} {xs : List V} (e : H a = some (.tup xs)) : fq K H (.ref a) (.type "tuple")
 | dK {a : Addr} {kvs : List (Key × V)} (e : H a = some (.dK kvs)) : fq K H (.ref a) (.type "dict")
 | dT {a : Addr} {kvs : List (List Key × V)} (e : H a = some (.dT kvs)) : fq K H (.ref a) (.type "dict")
 | ins {a C dx : Addr} {fs : List (Str × V)} (e : H a = some (.ins C dx fs)) (cl : Cls K C) (ha : PySem.W.findIn K (.ref C) "__class__" = some (some (.builtin "object.__class__")))
   (hn : PySem.W.specialIn K (.builtin "object.__class__") "__get__" = some (some (.builtin "getset_descriptor.__get__"))) (htk : PySem.W.takesIn K (.builtin "object.__class__") = some true)
   (hm : PySem.W.mroIn K C (.type "object") = some true) : fq K H (.ref a) (.ref C)
theorem cA {x : V} {u t : Value} (I : Inv X pins σ H s) (rx : RelV x u) (ty : fq X.K H x t) (e : PySem.W.kitOne X.K t c = some b) (h : ∀ tk, Q (.bool b) { s with toks := tk }) :
  wpAny (model X.prog X.w) A (call (.builtin "isinstance") [u, c]) Q E s := by
 cases ty with
 | non => cases (show u = Value.none from rx); exact PySem.W.kia_one PySem.W.kitx_none I.kIn True.intro e (fun z => nomatch z) h
 | bl y => cases (show u = Value.bool y from rx); exact PySem.W.kia_one PySem.W.kitx_bool I.kIn True.intro e (fun z => nomatch z) h
 | int i => obtain ⟨t, q⟩ := (show ∃ t, u = Value.int i t from rx); cases q; exact PySem.W.kia_one PySem.W.kitx_int I.kIn True.intro e (fun z => nomatch z) h
 | str y => obtain ⟨t, q⟩ := (show ∃ t, u = Value.str y t from rx); cases q; exact PySem.W.kia_one PySem.W.kitx_str I.kIn True.intro e (fun z => nomatch z) h
 | flt y => obtain ⟨t, q⟩ := (show ∃ t, u = Value.float y t from rx); cases q; exact PySem.W.kia_one PySem.W.kitx_float I.kIn True.intro e (fun z => nomatch z) h
 | @lst a xs ea =>
  cases (show u = Value.ref a from rx)
  obtain ⟨_, _, n, _, h1⟩ := (show aY X.prog X.w H s.heap a (.lst xs) from I.hok a _ ea)
  exact PySem.W.kia_one PySem.W.kitx_list I.kIn ⟨_, h1, rfl⟩ e (fun z => nomatch z) h
 | @frz a ob xs ea =>
  cases (show u = Value.ref a from rx)
  obtain ⟨_, _, _, n, _, h1⟩ := (show aY X.prog X.w H s.heap a (.frz ob (.lst xs)) from I.hok a _ ea)
  exact PySem.W.kia_one PySem.W.kitx_list I.kIn ⟨_, h1, rfl⟩ e (fun z => nomatch z) h
 | @tup a xs ea =>
  cases (show u = Value.ref a from rx)
  obtain ⟨_, _, _, p⟩ := (show aY X.prog X.w H s.heap a (.tup xs) from I.hok a _ ea)
  obtain ⟨o, h1, h2, _⟩ := p
  exact PySem.W.kia_one PySem.W.kitx_tuple I.kIn ⟨o, h1, h2⟩ e (fun z => nomatch z) h
 | @dK a kvs ea =>
  cases (show u = Value.ref a from rx)
  obtain ⟨_, _, vs, _, p⟩ := (show aY X.prog X.w H s.heap a (.dK kvs) from I.hok a _ ea)
  obtain ⟨o, es, ep, h1, h2, _⟩ := p
  exact PySem.W.kia_one PySem.W.kitx_dict I.kIn ⟨o, h1, h2.1⟩ e (fun z => nomatch z) h
 | @dT a kvs ea =>
  cases (show u = Value.ref a from rx)
  obtain ⟨_, _, xs, _, o, es, ep, h1, h2, _⟩ := (show aY X.prog X.w H s.heap a (.dT kvs) from I.hok a _ ea)
  exact PySem.W.kia_one PySem.W.kitx_dict I.kIn ⟨o, h1, h2.1⟩ e (fun z => nomatch z) h
 | @ins a C dx fs ea cl ha hn htk hm =>
  cases (show u = Value.ref a from rx)
  obtain ⟨mA, O, _⟩ := rf I.hok ea
  obtain ⟨od, J, _⟩ := O.look
  exact PySem.W.kia_one (PySem.W.kitx_own (cl.get _) cl.hd ha hn htk hm) I.kIn J e (fun z => nomatch z) h
end
end L2
namespace L2
open PySem PySem.Spec PyProof.Rows
structure bQ (k : Nat) (A : Around) : Prop where
 hd : A.handled = none
 dp : A.depth + 3 * k + 5 < recursionLimit
 un : A.units + 16 * k + 200 < cLine
 gd : A.guards = some []
theorem bQ.mono {j k : Nat} {A : Around} (r : bQ k A) (h : j <= k) : bQ j A := ⟨r.hd, by have := r.dp; omega, by have := r.un; omega, r.gd⟩
theorem bQ.deeper {k : Nat} {A : Around} (r : bQ (k + 1) A) (env : Env) : bQ k (A.deeper env) :=
 ⟨r.hd, by have := r.dp; show A.depth + 1 + 3 * k + 5 < _; omega, by have := r.un; show A.units + 3 + 16 * k + 200 < _; omega, r.gd⟩
theorem bQ.depth {k : Nat} {A : Around} (r : bQ k A) : A.depth < recursionLimit := by have := r.dp; omega
theorem bQ.units {k : Nat} {A : Around} (r : bQ k A) : A.units + 64 < cLine := by have := r.un; omega
noncomputable def fR : TA := fun _ H Q => Q [] H
noncomputable def cV (ta : TE) (tr : TA) : TA := fun σ H Q => ta σ H fun x H1 => tr σ H1 fun xs H2 => Q (x :: xs) H2
section
variable {X : Cx} {e : Expr} {es : List Expr} {te : TE} {t : TA} {pos : Pos}
theorem dD : PA X [] fR := fun _ _ _ _ H Q I h => Calls.spliced_nil ⟨[], H, I, .nil, h⟩
theorem bZ (ha : PE X e te) (hr : PA X es t) (hs : starEach (e :: es) X.env = (false, eval e X.env) :: starEach es X.env := by rfl) : PA X (e :: es) (cV te t) := by
 intro pos pins s σ H Q I h
 rw [hs]
 show wpAny _ _ (spliced ((false, eval e X.env) :: backTo pos (starEach es X.env))) _ _ s
 refine Calls.spliced_cons (thn (ha pins s σ H _ I h) fun u s1 zr1 => ?_)
 obtain ⟨x, H1, I1, r1, q1⟩ := zr1
 exact thn (hr pos pins s1 σ H1 _ I1 q1) fun us s2 zt1 => by obtain ⟨xs, H2, I2, r2, q2⟩ := zt1; exact ⟨x :: xs, H2, I2, .cons r1 r2, q2⟩
noncomputable def wN (t : TA) : TE := fun σ H Q => t σ H fun xs H1 => xs.length <= sizeLine /\ ∀ p, H1 p = none -> Q (.ref p) (upd H1 p (.tup xs))
noncomputable def wO (t : TA) : TE := fun σ H Q => t σ H fun xs H1 => xs.length <= sizeLine /\ ∀ p, H1 p = none -> Q (.ref p) (upd H1 p (.lst xs))
theorem nY {x1} (h : PA X es t) : PE X (.Tuple es x1 pos) (wN t) := by
 intro pins s σ H Q I hq
 refine wpAny_Tuple_spliced (thn (h pos pins s σ H _ I hq) fun us s1 ⟨xs, H1, I1, r, z, q⟩ => ⟨by rw [<- r.length]; exact z, ?_⟩)
 have hf : H1 s1.heap.objs.size = none := I1.hok.fresh (Nat.le_refl _)
 refine ⟨.ref s1.heap.objs.size, upd H1 s1.heap.objs.size (.tup xs), I1.laid (t' := s1.toks) (fun b u e => Heap.get?_push_of_some _ e) (Nat.le_refl _) ?_, rfl, q _ hf⟩
 exact ⟨z, us, r, ⟨_, Heap.get?_push_size _ rfl, rfl, _, rfl⟩⟩
theorem nZ (h : PA X es t) : PE X (.List es pos) (wO t) := by
 intro pins s σ H Q I hq
 refine wpAny_List_spliced (thn (h pos pins s σ H _ I hq) fun us s1 ⟨xs, H1, I1, r, z, q⟩ => ⟨by rw [<- r.length]; exact z, ?_⟩)
 have hf : H1 s1.heap.objs.size = none := I1.hok.fresh (Nat.le_refl _)
 refine ⟨.ref s1.heap.objs.size, upd H1 s1.heap.objs.size (.lst xs), I1.laid (t' := s1.toks) (fun b u e => Heap.get?_push_of_some _ e) (Nat.le_refl _) ?_, rfl, q _ hf⟩
 exact ⟨z, us, 0, r, Heap.get?_push_size _ rfl⟩
end
noncomputable abbrev Sp := List V -> Hp -> VK -> XK -> Prop
noncomputable abbrev CXT := List Env -> Hp -> Shared -> XK -> Value -> Shared -> Prop
structure Env0 (P : Program) (w : World) (K : PySem.W.Frag) (mg : Str -> Option Value) (base : Heap) (A : Around) (outer : List Env) (s : Shared) (H : Hp) : Prop where
 frames : A.frames = some outer
 mod : Mod K mg base
 bs : ∀ b o, base.get? b = some o -> s.heap.get? b = some o /\ H b = none
 bsz : base.objs.size <= s.heap.objs.size
 funs : s.heap.FunFrames base outer
 frf : ∀ b ∈ frs outer, H b = none
 hok : HOk P w H s.heap
 bare : AllBare s.gens
noncomputable def CE (outer : List Env) (P : Program) (w : World) (H : Hp) (s : Shared) (Q : VK) (u : Value) (s' : Shared) : Prop :=
 ∃ v H', s'.os = s.os /\ AllBare s'.gens /\ Un (frs outer) [] H H' s.heap s'.heap /\ HOk P w H' s'.heap /\ RelV v u /\ Q v H'
noncomputable def CR (CX : CXT) (outer : List Env) (P : Program) (w : World) (H : Hp) (s : Shared) (Q : VK) (E : XK) (r : Result) (s' : Shared) : Prop :=
 match r with
 | .ok (.ret u) => CE outer P w H s Q u s'
 | .ok _ => False
 | .error e => CX outer H s E e s'
structure ft (P : Program) (w : World) (K : PySem.W.Frag) (mg : Str -> Option Value) (base : Heap) (CX : CXT) (k : Nat) (f : Addr) (fd : FuncData) (ps : List Str) (sp : Sp) : Prop where
 len : ∀ vs H Q E, sp vs H Q E -> vs.length = ps.length
 run : ∀ (A : Around) (outer : List Env) (s : Shared) (H : Hp) (args : Args) (us : List Value) (vs : List V) (Q : VK) (E : XK), bQ k A -> Env0 P w K mg base A outer s H -> BindsTo s fd args (ps.zip us) -> Vals vs us -> sp vs H Q E ->
  codeAny (model P w) A (.call (.ref f) args) (CR CX outer P w H s Q E) s
section
variable {X : Cx} {pins : List (Addr × Obj)} {σ : St} {H : Hp} {s s' : Shared}
theorem Inv.env0 (I : Inv X pins σ H s) : Env0 X.prog X.w X.K X.mg X.base X.A X.stack s H :=
 ⟨I.ok.frames, I.ok.mod, I.bs, Nat.le_trans I.ok.bsz I.sz, I.stack, I.stkFree, I.hok, I.bare⟩
theorem Inv.after {Q : VK} {u : Value} (I : Inv X pins σ H s) (h : CE X.stack X.prog X.w H s Q u s') : EP X pins σ Q u s' := by
 obtain ⟨v, H', os, bare, un, hok, r, q⟩ := h
 obtain ⟨hh, g, d, t, os'⟩ := s'
 obtain rfl : os' = s.os := os
 exact ⟨v, H', I.call (h' := hh) (g' := g) (d' := d) (t' := t) (ch := []) un hok bare (fun b z => absurd z (by simp)), r, q⟩
end
noncomputable def fS (sp : Sp) (dvs : List V) (E : XK) (t : TA) : TE := fun σ H Q => t σ H fun vs H1 => sp (vs ++ dvs) H1 Q E
noncomputable def Binds (K : PySem.W.Frag) (fd : FuncData) (ps : List Str) (ds : List Value) : Prop :=
 ∀ (s : Shared) (us : List Value), K.In s.heap -> (us ++ ds).length = ps.length -> BindsTo s fd ⟨us, []⟩ (ps.zip (us ++ ds))
theorem Binds.all {K : PySem.W.Frag} {fd : FuncData} {ps : List Str} (h : ∀ us : List Value, us.length = ps.length -> bindArgs fd ⟨us, []⟩ = pure (ps.zip us)) : Binds K fd ps [] := fun s us _ hl => by
 rw [List.append_nil] at hl ⊢
 exact .of_eq (h us hl)
noncomputable def km (CX : CXT) (X : Cx) (E : XK) : Prop := ∀ (pins : List (Addr × Obj)) (σ : St) (H : Hp) (s : Shared) (e : Value) (s' : Shared), Inv X pins σ H s -> CX X.stack H s E e s' -> X.xe e s'
section
variable {X : Cx} {CX : CXT} {k : Nat} {f C : Addr} {fd : FuncData} {ps : List Str} {sp : Sp} {dvs : List V} {ds : List Value} {E : XK} {x m : Str} {p pos apos : Pos} {e o : Expr} {es : List Expr} {ta : TE} {t : TA}
theorem wQ {pins : List (Addr × Obj)} {σ : St} {H : Hp} {s : Shared} {Q : VK} {us : List Value} {vs : List V} (F : ft X.prog X.w X.K X.mg X.base CX k f fd ps sp) (hr : bQ k X.A) (hb : Binds X.K fd ps ds) (hd : Vals dvs ds) (hx : km CX X E)
  (I : Inv X pins σ H s) (r : Vals vs us) (h : sp (vs ++ dvs) H Q E) : wpAny (model X.prog X.w) X.A (call (.ref f) us) (EP X pins σ Q) X.xe s := by
 have r2 : Vals (vs ++ dvs) (us ++ ds) := r.append hd
 have hl : (us ++ ds).length = ps.length := by rw [<- r2.length]; exact F.len _ _ _ _ h
 refine wpAny_call (codeAny_mono (F.run X.A X.stack s H ⟨us, []⟩ (us ++ ds) (vs ++ dvs) Q E hr I.env0 (hb s us I.kIn hl) r2 h) fun r s' hq => ?_)
 cases r with
 | error e => exact hx pins σ H s e s' I hq
 | ok fl =>
  cases fl with
  | ret u => exact I.after hq
  | next => exact False.elim hq
  | brk => exact False.elim hq
  | cont => exact False.elim hq
theorem lq (F : ft X.prog X.w X.K X.mg X.base CX k f fd ps sp) (hr : bQ k X.A) (hg : Gl X x) (hm : X.mg x = some (.ref f)) (hk : PySem.W.keepIn X.K (.ref f) = true) (hb : Binds X.K fd ps ds) (hd : Vals dvs ds) (hx : km CX X E)
  (ha : PA X (e :: es) t) (hdb : (x == ("__debug__" : Str)) = false := by decide) (he : starEach (e :: es) X.env = (false, eval e X.env) :: starEach es X.env := by rfl) (hpl : (backTo pos (starEach es X.env)).any (·.1) = false := by rfl) :
  PE X (.Call (.Name x p) (e :: es) [] pos) (fS sp dvs E t) := by
 intro pins s σ H Q I h
 refine wpAny_Call_Name_kw (eu I hg hm ?_ hdb)
 refine PySem.W.callWith_K (h₀ := X.base) I.ok.mod.kin hk (thn (ha pos pins s σ H _ I h) fun us s1 ⟨vs, H1, I1, r, q⟩ => ⟨I1.kIn, ?_⟩) he hpl
 exact wQ F hr hb hd hx I1 r q
end
structure aA (N P : List Str) (sc : Scope) : Prop where
 kind : sc.kind = .function
 co : sc.isCoroutine = false
 gen : sc.isGenerator = false
 nd : N.Nodup
 pre : N.take P.length = P
 par : ∀ x ∈ P, sc.names.lookup x = some .local \/ sc.names.lookup x = some .cell
 nofree : ∀ y ∈ sc.names, y.2 ≠ .free
theorem gM {kindOf : Str -> Option NameKind} {x : Str} : ∀ {binds : List (Str × Value)} {m : Str -> Option Value}, (∀ v, (x, v) ∉ binds) -> bindL kindOf binds m x = m x
 | [], _, _ => rfl
 | (n, v) :: r, m, h => by
  unfold bindL
  rw [gM fun w hw => h w (List.mem_cons_of_mem _ hw)]
  split
  ·have : x ≠ n := by rintro rfl; exact h v List.mem_cons_self
   simp [this]
  ·rfl
theorem gN {kindOf : Str -> Option NameKind} {x : Str} : ∀ {binds : List (Str × Value)} {m : Str -> Option Value}, (∀ v, (x, v) ∉ binds) -> bindC kindOf binds m x = m x
 | [], _, _ => rfl
 | (n, v) :: r, m, h => by
  unfold bindC
  rw [gN fun w hw => h w (List.mem_cons_of_mem _ hw)]
  split
  ·rfl
  ·have : x ≠ n := by rintro rfl; exact h v List.mem_cons_self
   simp [this]
theorem gO {kindOf : Str -> Option NameKind} {x : Str} {v : Value} : ∀ {P : List Str} {vs : List Value} {i : Nat} {m : Str -> Option Value}, P.Nodup -> P[i]? = some x -> vs[i]? = some v -> kindOf x = some .local ->
  bindL kindOf (P.zip vs) m x = some v
 | [], _, _, _, _, h, _, _ => by simp at h
 | _ :: _, [], _, _, _, _, h, _ => by simp at h
 | p :: P, w :: vs, 0, m, nd, h1, h2, hk => by
  simp at h1 h2; subst h1; subst h2
  show bindL kindOf ((p, w) :: P.zip vs) m p = _
  unfold bindL
  rw [gM fun v hv => (List.nodup_cons.mp nd).1 (List.of_mem_zip hv).1, if_pos hk]
  simp
 | p :: P, w :: vs, i + 1, m, nd, h1, h2, hk => by
  show bindL kindOf ((p, w) :: P.zip vs) m x = _
  unfold bindL
  exact gO (i := i) (List.nodup_cons.mp nd).2 (by simpa using h1) (by simpa using h2) hk
theorem gP {kindOf : Str -> Option NameKind} {x : Str} {v : Value} : ∀ {P : List Str} {vs : List Value} {i : Nat} {m : Str -> Option Value}, P.Nodup -> P[i]? = some x -> vs[i]? = some v -> kindOf x ≠ some .local ->
  bindC kindOf (P.zip vs) m x = some v
 | [], _, _, _, _, h, _, _ => by simp at h
 | _ :: _, [], _, _, _, _, h, _ => by simp at h
 | p :: P, w :: vs, 0, m, nd, h1, h2, hk => by
  simp at h1 h2; subst h1; subst h2
  show bindC kindOf ((p, w) :: P.zip vs) m p = _
  unfold bindC
  rw [gN fun v hv => (List.nodup_cons.mp nd).1 (List.of_mem_zip hv).1, if_neg hk]
  simp
 | p :: P, w :: vs, i + 1, m, nd, h1, h2, hk => by
  show bindC kindOf ((p, w) :: P.zip vs) m x = _
  unfold bindC
  exact gP (i := i) (List.nodup_cons.mp nd).2 (by simpa using h1) (by simpa using h2) hk
noncomputable def start (N : List Str) (vs : List V) : St := vs.map some ++ List.replicate (N.length - vs.length) none
noncomputable def fu (CX : CXT) (P : Program) (w : World) (K : PySem.W.Frag) (mg : Str -> Option Value) (base : Heap) (N : List Str) (qual : Str) (scope : Scope) (f : Addr) (cd : Value) (A : Around) (outer : List Env) (s : Shared) (H : Hp) (E : XK) : Cx where
 prog := P
 w := w
 K := K
 mg := mg
 base := base
 A := A.deeper (envOfC qual scope s.heap.objs.size f cd)
 N := N
 s₀ := s
 H₀ := H
 env := envOfC qual scope s.heap.objs.size f cd
 outer := outer
 stack := envOfC qual scope s.heap.objs.size f cd :: outer
 ex := []
 calm := true
 fn := fun _ => true
 pn := []
 xe := fun e s' => wpAny (model P w) (A.deeper (envOfC qual scope s.heap.objs.size f cd)) (leaving (envOfC qual scope s.heap.objs.size f cd) e) (fun _ s'' => CX outer H s E e s'') (fun e' s'' => CX outer H s E e' s'') s'
theorem js {sc : Scope} {n : Nat} {x : Str} (h : sc.names.lookup x = some .cell) : ∃ c, (cellsFrom n sc.names []).lookup x = some c := by
 have q := PySem.W.cellsFrom_some sc.names n [] (.inl h)
 exact Option.isSome_iff_exists.mp q
theorem mI {CX : CXT} {P : Program} {w : World} {K : PySem.W.Frag} {mg : Str -> Option Value} {base : Heap} {N ps : List Str} {qual : Str} {scope : Scope} {f : Addr} {cd : Value} {A : Around} {outer : List Env} {s s1 : Shared} {H : Hp} {E : XK} {us : List Value} {vs : List V}
  (S : aA N ps scope) (hd : A.handled = none) (e0 : Env0 P w K mg base A outer s H) (hl : vs.length = ps.length) (r : Vals vs us)
  (x : InCallC s s.heap.objs.size (bindL (envOfC qual scope s.heap.objs.size f cd).kindOf (ps.zip us) fun _ => none) (cellsFrom (s.heap.objs.size + 1) scope.names []) (bindC (envOfC qual scope s.heap.objs.size f cd).kindOf (ps.zip us) fun _ => none) s1) :
  Inv (fu CX P w K mg base N qual scope f cd A outer s H E) [] (start N vs) H s1 := by
 have hpl : ps.length <= N.length := by have := congrArg List.length S.pre; rw [List.length_take] at this; omega
 obtain ⟨h1, tk, rfl, hk⟩ := x.done
 have noA : ∀ b : Addr, b ∉ (fu CX P w K mg base N qual scope f cd A outer s H E).ex := fun b z => absurd (show b ∈ ([] : List Addr) from z) (by simp)
 refine ⟨⟨e0.mod, S.kind, rfl, rfl, Nat.le_refl _, fun y z c h1 h2 => ?_, fun y hy => ?_, fun y c _ h => ?_, fun _ => hd, Around.frames_deeper e0.frames, .inr ⟨rfl, rfl⟩, fun b z => absurd z (noA b), e0.bs, e0.bsz, fun b _ _ => noA b, fun b z => absurd z (noA b), e0.funs, e0.frf⟩,
  rfl, e0.bare, Un.kept hk, ⟨_, x.toInCall.ns, fun i y v h1 h2 h3 => ?_⟩, fun y c h => ⟨_, x.cell y c h⟩, e0.hok.fresh (Nat.le_refl _), fun y c h => ?_, fun p hp => absurd (show p ∈ ([] : List (Addr × Obj)) from hp) (by simp), e0.hok.kept hk, ?_⟩
 ·exact name_of_addr x.apart (PySem.mem_of_lookup h1) (PySem.mem_of_lookup h2)
 ·have hy : scope.names.lookup y = some .cell \/ scope.names.lookup y = some .free := hy
  rcases hy with hy | hy
  ·exact js hy
  ·exact absurd rfl (S.nofree _ (PySem.mem_of_lookup hy))
 ·exact Nat.le_of_lt (x.above y c (PySem.mem_of_lookup h))
 ·have hi : i < vs.length := by
   unfold start at h2
   by_cases hi : i < vs.length
   ·exact hi
   ·rw [List.getElem?_append_right (by simpa using hi)] at h2
    rw [List.getElem?_replicate] at h2
    split at h2 <;> cases h2
  have ha : vs[i]? = some v := by
   unfold start at h2
   rw [List.getElem?_append_left (by simpa using hi), List.getElem?_map] at h2
   cases e : vs[i]? with
   | none => rw [e] at h2; cases h2
   | some a => rw [e] at h2; cases h2; rfl
  obtain ⟨u, hu, rv⟩ := r.get ha
  have hp : ps[i]? = some y := by
   rw [<- S.pre, List.getElem?_take_of_lt (by omega)]; exact h1
  have ndP : ps.Nodup := by rw [<- S.pre]; exact S.nd.sublist (List.take_sublist _ _)
  refine ⟨u, rv, ?_⟩
  rcases S.par y (List.mem_of_getElem? hp) with k | k
  ·exact .inl ⟨k, gO ndP hp hu k⟩
  ·obtain ⟨c, e⟩ := js (n := s.heap.objs.size + 1) k
   refine .inr ⟨.inl k, c, e, ?_⟩
   have q := x.cell y c e
   rw [gP ndP hp hu (by show scope.names.lookup y ≠ _; rw [k]; decide)] at q
   exact q
 ·exact e0.hok.fresh (Nat.le_of_lt (x.above y c (PySem.mem_of_lookup h)))
 ·unfold start
  show _ = N.length
  rw [List.length_append, List.length_map, List.length_replicate]
  omega
theorem uw {CX : CXT} {P : Program} {w : World} {K : PySem.W.Frag} {mg : Str -> Option Value} {base : Heap} {k : Nat} {f : Addr} {name qual : Str} {params : Arguments} {body : List Stmt} {scope : Scope} {dV kV doc pm cdv ct oc : Value} {an od : Option Addr}
  {osl : Array (Option Value)} {N ps : List Str} {sp : Sp} (lk : K.lookup f = some ⟨oc, od, .func (PySem.W.fnOf name qual params body scope dV kV doc pm an cdv ct), osl⟩) (hcd : PySem.W.codeIn K cdv qual = true) (S : aA N ps scope)
  (len : ∀ vs H Q E, sp vs H Q E -> vs.length = ps.length)
  (hbody : ∀ (A : Around) (outer : List Env) (s : Shared) (H : Hp) (vs : List V) (Q : VK) (E : XK), bQ k (A.deeper (envOfC qual scope s.heap.objs.size f cdv)) -> sp vs H Q E ->
   ∃ t, PSs (fu CX P w K mg base N qual scope f cdv A outer s H E) body t /\ t { nx := fun _ H' => Q .non H', rt := Q } (start N vs) H) :
  ft P w K mg base CX (k + 1) f (PySem.W.fnOf name qual params body scope dV kV doc pm an cdv ct) ps sp := by
 refine ⟨len, fun A outer s H args us vs Q E hr e0 hb r hsp => ?_⟩
 have hl := len _ _ _ _ hsp
 have KX : K.In s.heap := e0.mod.kin.keeps fun b o e => (e0.bs b o e).1
 have lim : s.heap.NoLimit := e0.mod.nolimit.keeps fun b o e => (e0.bs b o e).1
 have hkind : ∀ y ∈ ps.zip us, scope.names.lookup y.1 = some .local \/ (scope.names.lookup y.1 = some .cell /\ ((cellsFrom (s.heap.objs.size + 1) scope.names []).lookup y.1).isSome = true) := fun ⟨n, v⟩ hy => by
  rcases S.par n (List.of_mem_zip hy).1 with q | q
  ·exact .inl q
  ·exact .inr ⟨q, PySem.W.cellsFrom_some _ _ _ (.inl q)⟩
 refine codeAny_call_function hr.depth (KX _ _ lk) rfl S.co S.gen rfl (PySem.W.codeRec_of KX hcd) (hb _ _ _ _ ?_)
 refine wpAny_newFunctionEnv_cells S.kind hkind fun env he s1 x => ?_
 subst he
 refine ⟨lim.keeps x.toInCall.keep, codeAny_func ?_⟩
 obtain ⟨t, ht, hq⟩ := hbody A outer s H vs Q E (hr.deeper _) hsp
 have I : Inv (fu CX P w K mg base N qual scope f cdv A outer s H E) [] (start N vs) H s1 := mI S hr.hd e0 hl r x
 refine wpAny_mono (ht [] s1 (start N vs) H _ I hq) (fun fl s' hs => ?_) fun e s' hs => hs
 have fin : ∀ {σ' : St} {H' : Hp} {v : V} {u : Value}, Inv (fu CX P w K mg base N qual scope f cdv A outer s H E) [] σ' H' s' -> RelV v u -> Q v H' -> CE outer P w H s Q u s' :=
  fun {σ' H' v u} J rv q => ⟨v, H', J.os, J.bare, J.base, J.hok, rv, q⟩
 cases fl with
 | ret u =>
  obtain ⟨v, σ', H', J, rv, q⟩ := hs
  exact fin J rv q
 | next =>
  obtain ⟨σ', H', J, q⟩ := hs
  exact fin (v := V.non) (u := Value.none) J rfl q
 | brk =>
  obtain ⟨_, _, _, q⟩ := hs
  exact False.elim q
 | cont =>
  obtain ⟨_, _, _, q⟩ := hs
  exact False.elim q
end L2
namespace L2
open PySem PySem.Spec PyProof.Rows
section
variable {X : Cx} {x : Str} {p pos : Pos} {e : Expr} {es : List Expr} {t : TA} {id T : String} {r : List V -> Hp -> VK -> Prop}
noncomputable def tCB (r : List V -> Hp -> VK -> Prop) (t : TA) : TE := fun σ H Q => t σ H fun vs H1 => r vs H1 Q
theorem fT (hc : cG X (.builtin id) r) (hg : Gl X x) (hm : X.mg x = none) (hv : bootBuiltins x = some (.builtin id)) (ha : PA X (e :: es) t) (hn : x ≠ "__name__" := by decide) (hdb : (x == ("__debug__" : Str)) = false := by decide)
  (he : starEach (e :: es) X.env = (false, eval e X.env) :: starEach es X.env := by rfl) (hpl : (backTo pos (starEach es X.env)).any (·.1) = false := by rfl) : PE X (.Call (.Name x p) (e :: es) [] pos) (tCB r t) := by
 intro pins s σ H Q I h
 refine wpAny_Call_Name_kw (eN I hg hm hv ?_ hn hdb)
 exact PyProof.Rows.callWith_builtin1 (thn (ha pos pins s σ H _ I h) fun us s1 zt1 => by obtain ⟨vs, H1, I1, r1, q1⟩ := zt1; exact hc pins s1 σ H1 vs us Q I1 r1 q1) he hpl
theorem dX (hc : cG X (.type T) r) (hg : Gl X x) (hm : X.mg x = none) (hv : bootBuiltins x = some (.type T)) (ha : PA X (e :: es) t) (hn : x ≠ "__name__" := by decide) (hdb : (x == ("__debug__" : Str)) = false := by decide)
  (he : starEach (e :: es) X.env = (false, eval e X.env) :: starEach es X.env := by rfl) (hpl : (backTo pos (starEach es X.env)).any (·.1) = false := by rfl) : PE X (.Call (.Name x p) (e :: es) [] pos) (tCB r t) := by
 intro pins s σ H Q I h
 refine wpAny_Call_Name_kw (eN I hg hm hv ?_ hn hdb)
 exact PyProof.Rows.callWith_type1 (thn (ha pos pins s σ H _ I h) fun us s1 zt1 => by obtain ⟨vs, H1, I1, r1, q1⟩ := zt1; exact hc pins s1 σ H1 vs us Q I1 r1 q1) he hpl
end
end L2
namespace HT
open PySem PyProof.Rows
section
variable {prog : Program} {w : World} {A : Around} {E : Value -> Shared -> Prop} {s : Shared}
theorem rh {t b : Addr} {vs ws : List Value} {Q : Value -> Shared -> Prop} (ht : IsTup s.heap t vs.toArray) (hb : IsTup s.heap b ws.toArray) (hv : vs ≠ [])
  (h1 : ws = [] -> Q (.ref t) s) (h2 : ws ≠ [] -> Q (.ref s.heap.objs.size) { s with heap := s.heap.push { cls := .type "tuple", data := .seq (vs ++ ws).toArray } })
  (hsz : vs.length + ws.length <= sizeLine) : wpAny (model prog w) A (binaryOp .Add (.ref t) (.ref b)) Q E s := by
 obtain ⟨⟨cls, dd, data, sl⟩, ho, hc, n, hd⟩ := id ht
 obtain ⟨⟨cls2, dd2, data2, sl2⟩, ho2, hc2, n2, hd2⟩ := id hb
 simp only at hc hd hc2 hd2
 subst hc hd hc2 hd2
 have e : vs.toArray ++ ws.toArray = (vs ++ ws).toArray := by simp
 by_cases hw : ws = []
 ·exact concat_meets ⟨_, ho, rfl⟩ ⟨_, ho2, rfl⟩ noFill_tuple_add seq_tuple_add PySem.F.slot_tuple_add PySem.F.entry_tuple_add (PySem.F.args_tuple_add_2 _ _)
   (tuple_addW1 t b vs.toArray ws.toArray n n2 dd dd2 sl sl2 (by simpa using hv) (by simp [hw])) ⟨ho, ho2, h1 hw⟩
 ·refine concat_meets ⟨_, ho, rfl⟩ ⟨_, ho2, rfl⟩ noFill_tuple_add seq_tuple_add PySem.F.slot_tuple_add PySem.F.entry_tuple_add (PySem.F.args_tuple_add_2 _ _)
   (tuple_addW2 t b vs.toArray ws.toArray n n2 dd dd2 sl sl2 (by simpa using hv) (by simpa using hw) (by rw [List.size_toArray, List.size_toArray]; exact hsz)) ⟨ho, ho2, ?_⟩
  rw [e]
  exact h2 hw
end
end HT
namespace L2
open PySem PySem.Spec PyProof.Rows
theorem intsAre_of {ns : List Int} : ∀ {us : List Value}, Vals (ns.map V.int) us -> IntsAre us ns := by
 induction ns with
 | nil => intro us r; rw [List.map_nil] at r; cases r; exact .nil
 | cons n ns ih =>
  intro us r
  rw [List.map_cons] at r
  cases r with
  | cons r1 r2 =>
   obtain ⟨t, e⟩ := r1
   subst e
   exact .cons n t (ih r2)
section
variable {X : Cx} {e : Expr} {te : TE} {lo hi : Option Expr} {tl th : TO} {pos p2 : Pos}
noncomputable def ux (K : PySem.W.Frag) : R2 := fun x y H Q => ∃ a b xs ys, x = .ref a /\ y = .ref b /\ SqT K H a xs /\ SqT K H b ys /\ xs ≠ [] /\ xs.length + ys.length <= sizeLine /\
 (ys = [] -> Q (.ref a) H) /\ (ys ≠ [] -> ∀ p, H p = none -> Q (.ref p) (upd H p (.tup (xs ++ ys))))
theorem Vals.nil_iff {xs : List V} {us : List Value} (r : Vals xs us) : us = [] ↔ xs = [] := by
 cases r with
 | nil => simp
 | cons _ _ => simp
theorem rj : OpR X (binaryOp .Add) (ux X.K) := by
 intro pins s σ H x y v u Q I rx ry h
 obtain ⟨a, b, xs, ys, rfl, rfl, ha, hb, hx, hz, q1, q2⟩ := h
 cases rx
 cases ry
 obtain ⟨its, r1, p1, _⟩ := I.tuple ha
 obtain ⟨its2, r2, p2, _⟩ := I.tuple hb
 refine HT.rh p1 p2 (fun z => hx (r1.nil_iff.mp z)) (fun z => ⟨.ref a, H, I, rfl, q1 (r2.nil_iff.mp z)⟩) (fun z => ?_) (by rw [<- r1.length, <- r2.length]; exact hz)
 refine ⟨.ref s.heap.objs.size, _, I.laid (t' := s.toks) (o := .tup (xs ++ ys)) (fun b ob q => Heap.get?_push_of_some _ q) (Nat.le_refl _) ?_, rfl, q2 (fun w => z (r2.nil_iff.mpr w)) _ (I.hok.fresh (Nat.le_refl _))⟩
 exact ⟨by rw [List.length_append]; exact hz, _, r1.append r2, IsTup.new _ _⟩
end
end L2
namespace L2
open PySem PySem.Spec PyProof.Rows
noncomputable def ixN (n : Nat) (i : Int) : Option Nat := if 0 <= i then (if i < n then some i.toNat else none) else if -(n : Int) <= i then some (i + n).toNat else none
noncomputable def atI {α : Type} (xs : List α) (i : Int) : Option α := (ixN xs.length i).bind fun j => xs[j]?
theorem lr {n : Nat} {i : Int} {j : Nat} (h : ixN n i = some j) : seqIndex? i n = some j /\ j < n /\ -(n : Int) <= i /\ i < n := by
 unfold ixN at h
 by_cases h0 : 0 <= i
 ·rw [if_pos h0] at h
  by_cases h1 : i < n
  ·rw [if_pos h1] at h
   have e : i.toNat = j := Option.some.inj h
   exact ⟨by rw [seqIndex_of h0 h1, e], by omega, by omega, h1⟩
  ·rw [if_neg h1] at h; cases h
 ·rw [if_neg h0] at h
  by_cases h1 : -(n : Int) <= i
  ·rw [if_pos h1] at h
   have e : (i + n).toNat = j := Option.some.inj h
   exact ⟨by rw [seqIndex_neg (by omega) h1, e], by omega, h1, by omega⟩
  ·rw [if_neg h1] at h; cases h
theorem iu {α : Type} {xs : List α} {i : Int} {v : α} (h : atI xs i = some v) : ∃ j, seqIndex? i xs.length = some j /\ xs[j]? = some v /\ j < xs.length /\ -(xs.length : Int) <= i /\ i < xs.length := by
 unfold atI at h
 cases e : ixN xs.length i with
 | none => rw [e] at h; cases h
 | some j =>
  rw [e] at h
  obtain ⟨h1, h2, h3, h4⟩ := lr e
  exact ⟨j, h1, h, h2, h3, h4⟩
theorem fx {α : Type} {xs : List α} {j : Nat} {v : α} (h : xs[j]? = some v) : atI xs (j : Int) = some v := by
 have hj : j < xs.length := (List.getElem?_eq_some_iff.mp h).1
 have e : ixN xs.length (j : Int) = some j := by
  unfold ixN
  rw [if_pos (by omega), if_pos (by omega)]; simp
 unfold atI; rw [e]; exact h
noncomputable def dY (b : Expr) : Prop := ∀ o i, subscripted b false o i = operate [o, i] (getItem o i)
noncomputable def IxR (X : Cx) (r : R2) : Prop :=
 ∀ (value slice : Expr) (pins : List (Addr × Obj)) (s : Shared) (σ : St) (H : Hp) (x y : V) (v u : Value) (Q : VK), Inv X pins σ H s -> RelV x v -> RelV y u -> r x y H Q ->
  subscripted slice false v u = operate [v, u] (getItem v u) -> wpAny (model X.prog X.w) X.A (subscriptTail value slice v u) (EP X pins σ Q) X.xe s
noncomputable def MtR (X : Cx) (id : String) (r : V -> List V -> Hp -> VK -> Prop) : Prop :=
 ∀ (pins : List (Addr × Obj)) (s : Shared) (σ : St) (H : Hp) (x : V) (xs : List V) (v : Value) (us : List Value) (Q : VK), Inv X pins σ H s -> RelV x v -> Vals xs us -> r x xs H Q ->
  wpAny (model X.prog X.w) X.A (call (.builtin id) (v :: us)) (EP X pins σ Q) X.xe s
section
variable {X : Cx} {a b : Expr} {ta tb : TE} {pos : Pos}
theorem IxR.or {r r' : R2} (h : IxR X r) (h' : IxR X r') : IxR X (fun x y H Q => r x y H Q \/ r' x y H Q) := by
 intro value slice pins s σ H x y v u Q I rx ry q hs
 rcases q with q | q
 ·exact h value slice pins s σ H x y v u Q I rx ry q hs
 ·exact h' value slice pins s σ H x y v u Q I rx ry q hs
theorem jt {r : R2} (hr : IxR X r) (ha : PE X a ta) (hb : PE X b tb) (hs : dY b) : PE X (.Subscript a b pos) (tOp r ta tb) := by
 intro pins s σ H Q I h
 exact Subscript_ (wJ ha hb I h fun v u s2 x y H2 I2 rx ry q => hr a b pins s2 σ H2 x y v u Q I2 rx ry q (hs _ _))
noncomputable def zL (K : PySem.W.Frag) : R2 := fun x y H Q => ∃ p xs i v, x = .ref p /\ y = .int i /\ SqL K H p xs /\ atI xs i = some v /\ Q v H
noncomputable def zM (K : PySem.W.Frag) : R2 := fun x y H Q => ∃ p xs i v, x = .ref p /\ y = .int i /\ SqT K H p xs /\ atI xs i = some v /\ Q v H
noncomputable def zN : R2 := fun x y H Q => ∃ z i c, x = .str z /\ y = .int i /\ z.length <= sizeLine /\ atI z.cps.toList i = some c /\ Q (.str ⟨#[c]⟩) H
theorem rm : IxR X (zL X.K) := by
 intro value slice pins s σ H x y v u Q I rx ry h hs
 obtain ⟨p, xs, i, z, rfl, rfl, hq, he, q⟩ := h
 cases rx
 obtain ⟨t, rfl⟩ := ry
 obtain ⟨its, r, pl, hz⟩ := I.list hq
 obtain ⟨j, h1, h2, h3, h4, h5⟩ := iu he
 obtain ⟨w, ew, rw'⟩ := r.get h2
 have hl := r.length
 have hn := eQ
 have fin : EP X pins σ Q w s := ⟨z, H, I, rw', q⟩
 by_cases h0 : 0 <= i
 ·have hj : i.toNat = j := by
   rw [seqIndex_of h0 h5] at h1
   exact Option.some.inj h1
  exact item_listR pl.isList h0 (by omega) (by rw [hj]; simpa using ew) fin hs
 ·have hj : (i + (its.toArray.size : Int)).toNat = j := by
   rw [seqIndex_neg (by omega) h4] at h1
   rw [List.size_toArray, <- hl]
   exact Option.some.inj h1
  exact subscriptTail_builtinR (x := w) pl.isList.typeIs slot_list_getitem.lookup
   (wpAny_getItem_list_neg (Q := fun r s' => r = w /\ EP X pins σ Q r s') pl.isList (by omega) (by rw [List.size_toArray] <;> omega) (by omega) (by rw [hj]; simpa using ew) ⟨rfl, fin⟩) hs
theorem wR : IxR X (zM X.K) := by
 intro value slice pins s σ H x y v u Q I rx ry h hs
 obtain ⟨p, xs, i, z, rfl, rfl, hq, he, q⟩ := h
 cases rx
 obtain ⟨t, rfl⟩ := ry
 obtain ⟨its, r, pl, hz⟩ := I.tuple hq
 obtain ⟨j, h1, h2, h3, h4, h5⟩ := iu he
 obtain ⟨w, ew, rw'⟩ := r.get h2
 have hl := r.length
 have hn := eQ
 have fin : EP X pins σ Q w s := ⟨z, H, I, rw', q⟩
 exact subscriptTail_builtinR (x := w) pl.typeIs slot_tuple_getitem.lookup
  (getItem_tuple (j := j) (Q := fun r s' => r = w /\ EP X pins σ Q r s') pl (by omega) (by omega) (by rw [List.size_toArray, <- hl]; exact h1) (by simpa using ew) ⟨rfl, fin⟩) hs
theorem wU : IxR X zN := by
 intro value slice pins s σ H x y v u Q I rx ry h hs
 obtain ⟨z, i, c, rfl, rfl, hz, he, q⟩ := h
 obtain ⟨t, rfl⟩ := rx
 obtain ⟨t', rfl⟩ := ry
 obtain ⟨j, h1, h2, h3, h4, h5⟩ := iu he
 have hl : z.cps.toList.length = z.length := by simp [Str.length]
 rw [hl] at h1 h4 h5
 have hn := eQ
 exact tail_any (typeIs_str s z t) slot_str_getitem.lookup (getItem_str (c := c) (by
  have e1 : decide (i < -(2 ^ 63 : Int)) = false := decide_eq_false (by omega)
  have e2 : decide (i >= 2 ^ 63) = false := decide_eq_false (by omega)
  rw [e1, e2, Bool.or_false]) (by rw [h1]; simpa using h2) ⟨.str ⟨#[c]⟩, H, I.tok _, ⟨_, rfl⟩, q⟩) hs
noncomputable def rIx (K : PySem.W.Frag) : R2 := fun x y H Q => zL K x y H Q \/ zM K x y H Q \/ zN x y H Q
theorem n4 : IxR X (rIx X.K) := rm.or (wR.or wU)
theorem kn (its : List Value) (n j : Nat) (u : Value) : Obj.mapSeq (·.setIfInBounds j u) { cls := .type "list", data := .seq its.toArray n } = { cls := .type "list", data := .seq (its.set j u).toArray n } := by
 simp [Obj.mapSeq]
theorem Inv.lst {pins : List (Addr × Obj)} {σ : St} {H : Hp} {s : Shared} {p : Addr} {xs : List V} (I : Inv X pins σ H s) (h : H p = some (.lst xs)) :
  ∃ (its : List Value) (n : Nat), Vals xs its /\ s.heap.get? p = some { cls := .type "list", data := .seq its.toArray n } /\ xs.length <= sizeLine := by
 obtain ⟨z, its, n, r, e⟩ := I.hok p _ h
 exact ⟨its, n, r, e, z⟩
theorem Inv.lstUpd {pins : List (Addr × Obj)} {σ : St} {H : Hp} {s : Shared} {p : Addr} {xs ys : List V} {its its' : List Value} {n n' : Nat} {f : Obj -> Obj} (I : Inv X pins σ H s) (h : H p = some (.lst xs))
  (ho : s.heap.get? p = some { cls := .type "list", data := .seq its.toArray n }) (hf : f { cls := .type "list", data := .seq its.toArray n } = { cls := .type "list", data := .seq its'.toArray n' }) (r : Vals ys its') (hz : ys.length <= sizeLine) (t : Nat) :
  Inv X pins σ (upd H p (.lst ys)) { s with heap := s.heap.update p f, toks := t } := by
 have e : (s.heap.update p f).get? p = some { cls := .type "list", data := .seq its'.toArray n' } := by
  rw [Heap.get?_update_self f ho (by rw [hf] <;> rfl), hf]
 refine I.write (x := p) (e := p) (by rw [h]; trivial) (.inl rfl) (fun b u hb q => (Heap.get?_update_other _ _ (Ne.symm hb)).trans q) ⟨_, e⟩ ?_
 exact ⟨hz, its', n', r, e⟩
noncomputable def n5 : V -> V -> V -> Hp -> (Hp -> Prop) -> Prop := fun o i v H Q => ∃ p xs k j, o = .ref p /\ i = .int k /\ H p = some (.lst xs) /\ ixN xs.length k = some j /\ Q (upd H p (.lst (xs.set j v)))
theorem set_list : zF X n5 := by
 intro pins s σ H o i v ov iv u Q I ro ri rv h
 obtain ⟨p, xs, k, j, rfl, rfl, hp, hj, q⟩ := h
 cases ro
 obtain ⟨t, rfl⟩ := ri
 obtain ⟨its, n, r, ho, hz⟩ := I.lst hp
 obtain ⟨h1, h2, h3, h4⟩ := lr hj
 have hl := r.length
 have hn := eQ
 have I' : Inv X pins σ (upd H p (.lst (xs.set j v))) { s with heap := s.heap.update p (Obj.mapSeq (·.setIfInBounds j u)) } :=
  I.lstUpd hp ho (kn its n j u) (r.set rv j) (by rw [List.length_set]; exact hz) s.toks
 by_cases h0 : 0 <= k
 ·have hk : k.toNat = j := by
   rw [seqIndex_of h0 h4] at h1
   exact Option.some.inj h1
  exact PySem.W.ki_setAt ho h0 (by omega) (by rw [List.size_toArray, <- hl]; exact h4) (by rw [hk]; exact ⟨_, I', q⟩)
 ·have hk : (k + (its.toArray.size : Int)).toNat = j := by
   rw [seqIndex_neg (by omega) h3] at h1
   rw [List.size_toArray, <- hl]
   exact Option.some.inj h1
  exact PySem.W.ki_setBack ho (by omega) (by rw [List.size_toArray, <- hl]; exact h3) (by omega) (by rw [hk]; exact ⟨_, I', q⟩)
theorem iw : cG X (.builtin "len") (fun xs H Q => ∃ p ys, xs = [.ref p] /\ (SqL X.K H p ys \/ SqT X.K H p ys) /\ Q (.int ys.length) H) := by
 intro pins s σ H xs us Q I r h
 obtain ⟨p, ys, rfl, hq, q⟩ := h
 obtain ⟨u, rfl, rx⟩ := vals1 r
 cases rx
 have hn := eQ
 rcases hq with hq | hq
 ·obtain ⟨its, r', pl, hz⟩ := I.list hq
  have hlen := r'.length
  exact Calls.call_len_list pl.isList (by simp only [List.size_toArray] <;> omega) ⟨.int ys.length, H, I.tok _, ⟨s.toks + 1, by rw [List.size_toArray, hlen]⟩, q⟩
 ·obtain ⟨its, r', pl, hz⟩ := I.tuple hq
  have hlen := r'.length
  exact len_tuple pl (by simp only [List.size_toArray] <;> omega) ⟨.int ys.length, H, I.tok _, ⟨s.toks + 1, by rw [List.size_toArray, hlen]⟩, q⟩
theorem iy : cG X (.type "list") (fun xs H Q => ∃ p ys, xs = [.ref p] /\ (SqL X.K H p ys \/ SqT X.K H p ys) /\ ∀ l, H l = none -> Q (.ref l) (upd H l (.lst ys))) := by
 intro pins s σ H xs us Q I r h
 obtain ⟨p, ys, rfl, hq, q⟩ := h
 obtain ⟨u, rfl, rx⟩ := vals1 r
 cases rx
 have fin : ∀ (its : List Value), Vals ys its -> ys.length <= sizeLine -> ∀ (h' : Heap) (c' : Nat), (∀ b o', s.heap.get? b = some o' -> h'.get? b = some o') ->
   h'.get? s.heap.objs.size = some { cls := .type "list", dict := none, data := .seq its.toArray c', slots := #[] } -> EP X pins σ Q (.ref s.heap.objs.size) { s with heap := h' } := fun its r' hz h' c' kp e =>
  ⟨.ref s.heap.objs.size, _, I.laid (t' := s.toks) kp (Nat.le_refl _) (show aY X.prog X.w _ h' _ (.lst ys) from ⟨hz, its, c', r', e⟩), rfl, q _ (I.hok.fresh (Nat.le_refl _))⟩
 rcases hq with hq | hq
 ·obtain ⟨its, r', pl, hz⟩ := I.list hq
  have hlen := r'.length
  obtain ⟨o, ho, hc, n, hd⟩ := pl.isList
  exact call_list_seq p (.inl rfl) ho hc hd (fun h' c' kp e => fin its r' hz h' c' kp e) (by simp only [List.size_toArray] <;> omega)
 ·obtain ⟨its, r', pl, hz⟩ := I.tuple hq
  have hlen := r'.length
  obtain ⟨o, ho, hc, n, hd⟩ := pl
  exact call_list_seq p (.inr rfl) ho hc hd (fun h' c' kp e => fin its r' hz h' c' kp e) (by simp only [List.size_toArray] <;> omega)
theorem gH : cG X (.type "tuple") (fun xs H Q => ∃ p ys, xs = [.ref p] /\ ((SqL X.K H p ys /\ ∀ l, H l = none -> Q (.ref l) (upd H l (.tup ys))) \/ (SqT X.K H p ys /\ Q (.ref p) H))) := by
 intro pins s σ H xs us Q I r h
 obtain ⟨p, ys, rfl, h⟩ := h
 obtain ⟨u, rfl, rx⟩ := vals1 r
 cases rx
 rcases h with ⟨hq, q⟩ | ⟨hq, q⟩
 ·obtain ⟨its, r', pl, hz⟩ := I.list hq
  have hlen := r'.length
  refine call_tuple_list pl.isList (fun h' kp => ?_) (by simp only [List.size_toArray] <;> omega)
  have I1 : Inv X pins σ H { s with heap := h' } := I.kept (t' := s.toks) kp
  have I2 : Inv X pins σ (upd H h'.objs.size (.tup ys)) { s with heap := h'.push { cls := .type "tuple", data := .seq its.toArray } } :=
   I1.laid (t' := s.toks) (fun b o e => Heap.get?_push_of_some _ e) (Nat.le_refl _) (show aY X.prog X.w _ _ _ (.tup ys) from ⟨hz, its, r', IsTup.new _ _⟩)
  exact ⟨.ref h'.objs.size, _, I2, rfl, q _ (I1.hok.fresh (Nat.le_refl _))⟩
 ·obtain ⟨its, r', pl, hz⟩ := I.tuple hq
  exact call_tuple_same pl ⟨.ref p, H, I, rfl, q⟩
noncomputable def tyV (K : PySem.W.Frag) (T : String) (x : V) (H : Hp) : Prop := match x with
 | .str _ => T = "str"
 | .int _ => T = "int"
 | .ref p => (T = "list" /\ ∃ xs, SqL K H p xs) \/ (T = "tuple" /\ ∃ o, K.lookup p = some o /\ o.cls = .type "tuple" /\ o.dict = none) \/
   (T = "dict" /\ ((∃ kvs, H p = some (.dK kvs)) \/ ∃ kvs, H p = some (.dT kvs))) \/ (T = "set" /\ ∃ S n, H p = some (.set S n))
 | _ => False
theorem n6 {pins : List (Addr × Obj)} {σ : St} {H : Hp} {s : Shared} {T : String} {x : V} {v : Value} (I : Inv X pins σ H s) (r : RelV x v) (ty : tyV X.K T x H) :
  s.TypeIs v T /\ ∀ a, v = .ref a -> ∃ ob, s.heap.get? a = some ob /\ ob.dict = none := by
 cases x with
 | str z =>
  obtain ⟨t, rfl⟩ := r
  cases (show T = "str" from ty)
  exact ⟨typeIs_str s z t, fun _ e => nomatch e⟩
 | int i =>
  obtain ⟨t, rfl⟩ := r
  cases (show T = "int" from ty)
  exact ⟨typeIs_int s i t, fun _ e => nomatch e⟩
 | ref p =>
  cases r
  rcases ty with ⟨rfl, xs, hq⟩ | ⟨rfl, o, hk, hc, hd⟩ | ⟨rfl, hk⟩ | ⟨rfl, S, n, hk⟩
  ·obtain ⟨its, _, pl, _⟩ := I.list hq
   refine ⟨pl.isList.typeIs, fun a e => ?_⟩
   cases e
   obtain ⟨o, n, e, c, hd, _⟩ := pl
   exact ⟨o, e, hd⟩
  ·refine ⟨⟨o, I.kIn p o hk, hc⟩, fun a e => ?_⟩
   cases e
   exact ⟨o, I.kIn _ o hk, hd⟩
  ·have z : ∃ o, s.heap.get? p = some o /\ o.ExactDict := by
    rcases hk with ⟨kvs, hk⟩ | ⟨kvs, hk⟩
    ·obtain ⟨_, _, _, _, o, _, _, e, ex, _⟩ := I.hok p _ hk
     exact ⟨o, e, ex⟩
    ·obtain ⟨_, _, _, _, o, _, _, e, ex, _⟩ := I.hok p _ hk
     exact ⟨o, e, ex⟩
   obtain ⟨o, e, ex⟩ := z
   refine ⟨⟨o, e, ex.1⟩, fun a e2 => ?_⟩
   cases e2
   exact ⟨o, e, ex.2.1⟩
  ·obtain ⟨o, _, _, _, e, ex, _⟩ := I.hok p _ hk
   refine ⟨⟨o, e, ex.1⟩, fun a e2 => ?_⟩
   cases e2
   exact ⟨o, e, ex.2.1⟩
 | _ => exact False.elim ty
noncomputable def zO (K : PySem.W.Frag) (T : String) (r : V -> List V -> Hp -> VK -> Prop) (to : TE) : TE := fun σ H Q => to σ H fun x H1 => tyV K T x H1 /\ r x [] H1 Q
noncomputable def tBM (K : PySem.W.Frag) (T : String) (r : V -> List V -> Hp -> VK -> Prop) (to : TE) (t : TA) : TE := fun σ H Q => to σ H fun x H1 => tyV K T x H1 /\ t σ H1 fun xs H2 => r x xs H2 Q
variable {o e : Expr} {es : List Expr} {to : TE} {t : TA} {name : Str} {apos cpos : Pos} {T id : String} {r : V -> List V -> Hp -> VK -> Prop}
theorem wV (pa : PlainAttrs T) (slot : Slot T name id) (hty : typeOf (.builtin id) = pure (.type "method_descriptor")) (hm : MtR X id r) (ho : PE X o to)
  (hbase : attributeBase o name X.env (eval o X.env) = eval o X.env := by rfl) (hline : (apos.endLine == cpos.line) = true := by rfl) : PE X (.Call (.Attribute o name apos) [] [] cpos) (zO X.K T r to) := by
 intro pins s σ H Q I h
 refine wpAny_Call_method0_late hbase hline (thn (ho pins s σ H _ I h) fun v s1 zr1 => ?_)
 obtain ⟨x, H1, I1, r1, ty, q1⟩ := zr1
 obtain ⟨h1, h2⟩ := n6 I1 r1 ty
 exact ⟨T, id, pa, slot, hty, h1, h2, Calls.callWith_builtin rfl (PySem.evalArgs_none (hm pins s1 σ H1 x [] v [] Q I1 r1 .nil q1))⟩
theorem uy (pa : PlainAttrs T) (slot : Slot T name id) (hty : typeOf (.builtin id) = pure (.type "method_descriptor")) (hm : MtR X id r) (ho : PE X o to) (ha : PA X (e :: es) t)
  (hbase : attributeBase o name X.env (eval o X.env) = eval o X.env := by rfl)
  (hfew : ((backTo cpos (starEach (e :: es) X.env)).all (fun x => !x.1) && (backToKw cpos (keywordEach [] X.env)).all (fun x => x.1.isSome)
   && decide ((e :: es).length + ([] : List Keyword).length + (if ([] : List Keyword).isEmpty then 0 else 1) < 30)) = true := by rfl)
  (hline : (apos.endLine == cpos.line) = true := by rfl) (hs : starEach (e :: es) X.env = (false, eval e X.env) :: starEach es X.env := by rfl) (hplain : (backTo cpos (starEach es X.env)).any (·.1) = false := by rfl) :
  PE X (.Call (.Attribute o name apos) (e :: es) [] cpos) (tBM X.K T r to t) := by
 intro pins s σ H Q I h
 refine wpAny_Call_method_late hbase hfew hline rfl (thn (ho pins s σ H _ I h) fun v s1 zr1 => ?_)
 obtain ⟨x, H1, I1, r1, ty, q1⟩ := zr1
 obtain ⟨h1, h2⟩ := n6 I1 r1 ty
 refine ⟨T, id, pa, slot, hty, h1, h2, ?_⟩
 have hA := ha cpos pins s1 σ H1 _ I1 q1
 rw [hs] at hA ⊢
 refine Calls.callWith_builtin (by show (false || (backTo cpos (starEach es X.env)).any (·.1)) = false; rw [hplain] <;> rfl) (Calls.evalArgs_plain ?_)
 exact thn hA fun us s2 zt1 => by obtain ⟨vs, H2, I2, r2, q2⟩ := zt1; exact hm pins s2 σ H2 x vs v us Q I2 r1 r2 q2
end
end L2
namespace L2
open PySem PySem.Spec PyProof.Rows
noncomputable def MtM (X : Cx) (id : String) (r : V -> List V -> Hp -> VK -> Prop) : Prop :=
 ∀ (pins : List (Addr × Obj)) (s : Shared) (σ : St) (H : Hp) (x : V) (xs : List V) (v : Value) (us : List Value) (Q : VK), Inv X pins σ H s -> RelV x v -> Vals xs us -> r x xs H Q ->
  wpAny (model X.prog X.w) X.A (call (.builtin id) (v :: us)) (EP X pins σ Q) X.xe s
theorem Vals.one : ∀ {x : V} {us : List Value}, Vals [x] us -> ∃ u, us = [u] /\ RelV x u := by
 intro x us h
 cases h with
 | cons r h => cases h; exact ⟨_, rfl, r⟩
theorem Vals.zero : ∀ {us : List Value}, Vals [] us -> us = []
 | _, .nil => rfl
theorem Vals.dropLast {xs : List V} {us : List Value} (h : Vals xs us) : Vals xs.dropLast us.dropLast := by
 induction h with
 | nil => exact .nil
 | cons r t ih =>
  cases t with
  | nil => exact .nil
  | cons q t' => exact .cons r ih
theorem Vals.rep {xs : List V} {us : List Value} (h : Vals xs us) : ∀ k : Nat, Vals (List.replicate k xs).flatten (List.replicate k us).flatten
 | 0 => .nil
 | k + 1 => by
  rw [List.replicate_succ, List.replicate_succ, List.flatten_cons, List.flatten_cons]
  exact Vals.append h (Vals.rep h k)
theorem ko {α : Type} (l : List α) : l.eraseIdx (l.length - 1) = l.dropLast := by
 induction l with
 | nil => rfl
 | cons a r ih =>
  cases r with
  | nil => rfl
  | cons b r =>
   have e : (a :: b :: r).length - 1 = ((b :: r).length - 1) + 1 := by
    have h1 : (a :: b :: r).length = r.length + 2 := rfl
    have h2 : (b :: r).length = r.length + 1 := rfl
    omega
   rw [e, List.eraseIdx_cons_succ, ih]
   all_goals rfl
theorem foldl_rep (its : List Value) : ∀ (k : Nat) (acc : List Value),
  List.foldl (fun x1 x2 => x1 ++ x2) acc.toArray (List.replicate k its.toArray) = (acc ++ (List.replicate k its).flatten).toArray
 | 0, acc => by simp
 | k + 1, acc => by
  have e : acc.toArray ++ its.toArray = (acc ++ its).toArray := by simp
  have e2 : (acc ++ its) ++ (List.replicate k its).flatten = acc ++ (List.replicate (k + 1) its).flatten := by
   rw [List.replicate_succ, List.flatten_cons, List.append_assoc]
  rw [<- e2, <- foldl_rep its k (acc ++ its), <- e, List.replicate_succ, List.foldl_cons]
section
variable {X : Cx} {pins : List (Addr × Obj)} {σ : St} {H : Hp} {s : Shared} {l b : Addr} {xs ys zs : List V}
theorem Inv.lset {its its' : List Value} {n : Nat} {f : Array Value -> Array Value} {t' : Nat} (I : Inv X pins σ H s) (hH : H l = some (.lst xs))
  (e : s.heap.get? l = some { cls := .type "list", data := .seq its.toArray n }) (hf : f its.toArray = its'.toArray) (hv : Vals ys its') (hz : ys.length <= sizeLine) :
  Inv X pins σ (upd H l (.lst ys)) { s with heap := s.heap.update l (Obj.mapSeq f), toks := t' } := by
 have q := PySem.IsL.update e f
 rw [hf] at q
 refine I.write (x := l) (e := l) (by rw [hH]; exact trivial) (.inl rfl) (fun b' u hb hu => (Heap.get?_update_other s.heap (Obj.mapSeq f) (Ne.symm hb)).trans hu) ⟨_, q⟩ ?_
 exact ⟨hz, its', _, hv, q⟩
theorem Inv.lnew {its : List Value} {t' : Nat} (I : Inv X pins σ H s) (hv : Vals ys its) (hz : ys.length <= sizeLine) :
  Inv X pins σ (upd H s.heap.objs.size (.lst ys)) { s with heap := s.heap.push { cls := .type "list", data := .seq its.toArray }, toks := t' } :=
 I.laid (fun _ _ q => Heap.get?_push_of_some _ q) (Nat.le_refl _) ⟨hz, its, 0, hv, Heap.get?_push_size _ rfl⟩
theorem Inv.fresh (I : Inv X pins σ H s) : H s.heap.objs.size = none := I.hok.fresh (Nat.le_refl _)
theorem Inv.lstM (I : Inv X pins σ H s) (hH : H l = some (.lst xs)) : xs.length <= sizeLine /\ ∃ (its : List Value) (n : Nat), Vals xs its /\ xs.length = its.length /\ s.heap.get? l = some { cls := .type "list", data := .seq its.toArray n } := by
 obtain ⟨z, its, n, r, e⟩ := I.hok l _ hH
 exact ⟨z, its, n, r, r.length, e⟩
theorem ju {n : Nat} (h : n <= sizeLine) : Builtin.List.listTooLong n = false := by
 unfold Builtin.List.listTooLong
 exact decide_eq_false (by omega)
end
section
variable {X : Cx}
noncomputable def fy : V -> List V -> Hp -> VK -> Prop := fun x vs H Q => ∃ l xs y, x = .ref l /\ vs = [y] /\ H l = some (.lst xs) /\ xs.length < sizeLine /\ Q .non (upd H l (.lst (xs ++ [y])))
theorem mJ : MtM X "list.append" fy := by
 intro pins s σ H x vs v us Q I rx rv h
 obtain ⟨l, xs, y, rfl, rfl, hH, hz, q⟩ := h
 cases rx
 obtain ⟨u, rfl, ru⟩ := rv.one
 obtain ⟨z, its, n, r, hl, e⟩ := I.lstM hH
 refine call_meets F.slot_list_append ⟨_, e, rfl⟩ F.entry_list_append (F.args_list_append_2 _ _) (PySem.list_append l its.toArray n u (by rw [List.size_toArray]; omega)) ⟨e, ?_⟩
 refine ⟨.non, _, I.lset (its' := its ++ [u]) hH e (by simp) (r.append (.cons ru .nil)) ?_, rfl, q⟩
 rw [List.length_append, List.length_singleton]
 omega
noncomputable def lu : V -> List V -> Hp -> VK -> Prop := fun x vs H Q => ∃ l b xs zs, x = .ref l /\ vs = [.ref b] /\ H l = some (.lst xs) /\ H b = some (.lst zs) /\ xs.length + zs.length <= sizeLine /\ Q .non (upd H l (.lst (xs ++ zs)))
theorem mK : MtM X "list.extend" lu := by
 intro pins s σ H x vs v us Q I rx rv h
 obtain ⟨l, b, xs, zs, rfl, rfl, hH, hB, hz, q⟩ := h
 cases rx
 obtain ⟨u, rfl, ru⟩ := rv.one
 cases ru
 obtain ⟨z, its, n, r, hl, e⟩ := I.lstM hH
 obtain ⟨z2, its2, n2, r2, hl2, e2⟩ := I.lstM hB
 have hsz : its.toArray.size + its2.toArray.size <= sizeLine := by rw [List.size_toArray, List.size_toArray]; omega
 have hlong : ¬ (!its.toArray.isEmpty && Builtin.List.listTooLong (its.toArray.size + its2.toArray.size)) = true := by
  rw [ju hsz, Bool.and_false]
  exact Bool.false_ne_true
 refine call_meets F.slot_list_extend ⟨_, e, rfl⟩ F.entry_list_extend (F.args_list_extend_2 _ _)
  (AutoSeq1.list_extend_list_list_0 l its.toArray n b its2.toArray n2 hlong (by rw [List.size_toArray]; omega) (by omega)) ⟨e, e2, ?_⟩
 refine ⟨.non, _, I.lset (its' := its ++ its2) hH e (by simp) (r.append r2) ?_, rfl, q⟩
 rw [List.length_append]
 omega
noncomputable def zP : V -> List V -> Hp -> VK -> Prop := fun x vs H Q => ∃ l xs y, x = .ref l /\ vs = [] /\ H l = some (.lst xs) /\ xs[xs.length - 1]? = some y /\ Q y (upd H l (.lst xs.dropLast))
theorem wW : MtM X "list.pop" zP := by
 intro pins s σ H x vs v us Q I rx rv h
 obtain ⟨l, xs, y, rfl, rfl, hH, hy, q⟩ := h
 cases rx
 have hus := rv.zero
 subst hus
 obtain ⟨z, its, n, r, hl, e⟩ := I.lstM hH
 obtain ⟨u, hu, ru⟩ := r.get hy
 have hy' : its.toArray[its.toArray.size - 1]? = some u := by
  show its.toArray[its.length - 1]? = some u
  rw [<- Array.getElem?_toList, <- hl]
  exact hu
 refine call_meets F.slot_list_pop ⟨_, e, rfl⟩ F.entry_list_pop (F.args_list_pop_1 _) (MeetsSeq.list_pop_last l its.toArray n u hy' (by rw [List.size_toArray]; omega)) ⟨e, ?_⟩
 refine ⟨y, _, I.lset (its' := its.dropLast) hH e ?_ r.dropLast ?_, ru, q⟩
 ·show its.toArray.eraseIdxIfInBounds (its.toArray.size - 1) = its.dropLast.toArray
  rw [List.size_toArray, List.eraseIdxIfInBounds_toArray, ko]
 ·rw [List.length_dropLast]
  omega
noncomputable def wX : R2 := fun x y H Q => ∃ l b xs zs, x = .ref l /\ y = .ref b /\ H l = some (.lst xs) /\ H b = some (.lst zs) /\ xs.length + zs.length <= sizeLine /\ ∀ p, H p = none -> Q (.ref p) (upd H p (.lst (xs ++ zs)))
theorem n8 : OpR X (binaryOp .Add) wX := by
 intro pins s σ H x y v u Q I rx ry h
 obtain ⟨l, b, xs, zs, rfl, rfl, hH, hB, hz, q⟩ := h
 cases rx
 cases ry
 obtain ⟨z, its, n, r, hl, e⟩ := I.lstM hH
 obtain ⟨z2, its2, n2, r2, hl2, e2⟩ := I.lstM hB
 refine PySem.P.add_list e e2 ?_ (by rw [List.size_toArray, List.size_toArray]; omega)
 have ea : its.toArray ++ its2.toArray = (its ++ its2).toArray := by simp
 rw [ea]
 exact ⟨.ref _, _, I.lnew (t' := s.toks) (r.append r2) (by rw [List.length_append]; omega), rfl, q _ I.fresh⟩
noncomputable def zQ : R2 := fun x y H Q => ∃ l k xs, x = .ref l /\ y = .int k /\ H l = some (.lst xs) /\ -(2 ^ 63) <= k /\ k < 2 ^ 63 /\ xs.length * k.toNat <= sizeLine /\
 ∀ p, H p = none -> Q (.ref p) (upd H p (.lst (List.replicate k.toNat xs).flatten))
theorem len_rep {α : Type} (xs : List α) (k : Nat) : (List.replicate k xs).flatten.length = k * xs.length := by
 induction k with
 | zero => simp
 | succ k ih => rw [List.replicate_succ, List.flatten_cons, List.length_append, ih, Nat.succ_mul, Nat.add_comm]
theorem wY : OpR X (binaryOp .Mult) zQ := by
 intro pins s σ H x y v u Q I rx ry h
 obtain ⟨l, k, xs, rfl, rfl, hH, h1, h2, hz, q⟩ := h
 cases rx
 obtain ⟨t, rfl⟩ := ry
 obtain ⟨z, its, n, r, hl, e⟩ := I.lstM hH
 have hlen : its.toArray.size * k.toNat <= sizeLine := by rw [List.size_toArray, <- hl]; exact hz
 have hcap : ¬ its.toArray.size * k.toNat > (2 ^ 63 - 1) / 8 := by
  have : (sizeLine : Nat) <= (2 ^ 63 - 1) / 8 := by decide
  omega
 have hfit : ¬ (!Builtin.List.listFitsIndex k) = true := by
  rw [fitsIndex_both h1 h2]
  exact Bool.false_ne_true
 have hlong : ¬ Builtin.List.listTooLong (its.toArray.size * k.toNat) = true := by
  rw [ju hlen]
  exact Bool.false_ne_true
 have hnew : List.foldl (fun x1 x2 => x1 ++ x2) #[] (List.replicate (if its.toArray.isEmpty = true then 0 else k.toNat) its.toArray) = (List.replicate k.toNat its).flatten.toArray := by
  have f0 : ∀ m : Nat, List.foldl (fun x1 x2 => x1 ++ x2) #[] (List.replicate m its.toArray) = (List.replicate m its).flatten.toArray := fun m => by
   have := foldl_rep its m []
   rw [List.nil_append] at this
   exact this
  rw [f0]
  cases its with
  | nil => simp
  | cons a r' => rw [if_neg (by simp)]
 refine wpAny_binaryOp_repeat_ref (T := "list") (U := "int") (by decide) ⟨_, e, rfl⟩ (fun s' => typeIs_int s' k t) noFill_list_mul F.fills_int_mul F.slot_int_rmul repeat_list F.slot_int_index.lookup
  (call_meets F.slot_int_rmul (typeIs_int s k t) F.entry_int_rmul (F.args_int_rmul_2 _ _) (int___rmul___int_list k t l its.toArray n)
   ⟨e, rfl, ⟨_, e, rfl⟩, call_meets F.slot_list_mul ⟨_, e, rfl⟩ F.entry_list_mul (F.args_list_mul_2 _ _) (AutoListH.list___mul___list_int_3 l its.toArray n k t hfit hcap hlong) ⟨e, ?_⟩⟩)
 rw [hnew]
 exact ⟨.ref _, _, I.lnew (t' := s.toks) (r.rep k.toNat) (by rw [len_rep, Nat.mul_comm]; exact hz), rfl, q _ I.fresh⟩
end
end L2
namespace Att
open PySem PySem.W PySem.Calls PyProof.Rows
theorem fv {P : Params} {h : Heap} : ∀ (ns : List Int) (vs : List Value), WellAll P h vs (ns.map WData.int) -> IntsAre vs ns := by
 intro ns
 induction ns with
 | nil =>
  intro vs w
  rw [List.map_nil] at w
  cases w
  exact .nil
 | cons n ns ih =>
  intro vs w
  rw [List.map_cons] at w
  cases w with
  | cons a b =>
   cases a
   exact .cons _ _ (ih _ b)
theorem mL {l : OpenLaw} {n : Nat} (hn : l.most = some n) {P : Params} {h : Heap} {args : List WData} {vals : List Value}
  (hpre : l.row.toRowW.claim.pre args = true) (hwl : WellAll P h vals args) :
  ∃ a vs ns, vals = [Value.ref a] /\ args = [WData.list (ns.map WData.int)] /\ h.get? a = some { cls := .type "list", data := .seq vs.toArray } /\ IntsAre vs ns /\ ns.length <= n := by
 have hsh : WShape.hasAll [] args [.list .int] = true := (pre_splitW hpre).1
 have hc : l.pre.holds [] { args := args } = true := (pre_splitW hpre).2
 obtain ⟨d, r, rfl, h1, h2⟩ := hasAllW_cons hsh
 obtain rfl := hasAllW_nil h2
 obtain ⟨xs, rfl, h3⟩ := hasW_list h1
 obtain ⟨ns, rfl⟩ := items_int h3
 have hlen : ns.length <= n := by
  unfold OpenLaw.pre at hc
  have h4 : (WTm.not (.lt (.lit (.int (n : Int))) (.len (.arg 0)))).holds [] { args := [.list (ns.map .int)] } = true := by
   have h4 := (holds_andW hc).1
   rw [hn] at h4
   exact h4
  have h5 := condW_of h4 (w_not (w_lt w_lit (w_len_list (w_arg rfl))))
  rw [List.length_map] at h5
  refine Nat.le_of_not_lt fun q => ?_
  have q' : (n : Int) < ((ns.length : Nat) : Int) := by omega
  first
   | (rw [decide_eq_true q'] at h5; exact absurd h5 (by decide))
   | (simp at h5; omega)
 cases hwl with
 | cons w1 w2 =>
  cases w2
  cases w1 with
  | list ho hall => exact ⟨_, _, ns, rfl, rfl, ho, fv ns _ hall, hlen⟩
theorem mM (l : OpenLaw) (args : List WData) : l.row.toRowW.claim.post args (.bool true) args = true :=
 postW_of (r := l.row.toRowW) (X := (true == true))
  (show WShape.has [] (.bool true) .bool = true by first | rfl | decide | simp [WShape.has, WShape.arms, WShape.armsAll])
  (show (WTm.eq .res (.lit (.bool true))).value [] { args := args, res := some (.bool true), after := args } = some (.bool (true == true)) from w_eq_bool (w_res rfl) w_lit) rfl
theorem jv {l : OpenLaw} {n : Nat} {q : Program} {loose : List Str} {XP : (Str -> Option Value) -> Heap -> Prop} {YP : World -> Heap -> Prop} {d : DefRec}
  (hn : l.most = some n) (hdf : d.params.defaults = [])
  (call : ∀ (w : World) (s₀ s₁ : Shared) (mg mb : Str -> Option Value) (fa : Addr) (o : Obj) (pm cd doc : Value) (a : Addr) (vs : List Value) (ns : List Int),
   Ground q loose [] XP w s₀ mg mb s₁.heap -> YP w s₁.heap ->
   s₁.heap.get? fa = some o -> o.data = .func (docDef d.name d.params d.body d.scope pm cd doc) -> s₁.heap.CodeRec cd d.name -> mg d.name = some (.ref fa) ->
   s₁.heap.get? a = some { cls := .type "list", data := .seq vs.toArray } -> IntsAre vs ns -> ns.length <= n -> s₁.gens = #[] ->
   codeAny (model l.prog w) callerA (.call (.ref fa) ⟨[.ref a], []⟩) (fun r s' => r = .ok (.ret (.bool true)) /\ OldK s₁.heap s'.heap /\ s'.os = s₁.os /\ AllBare s'.gens) s₁) :
  WalkO q loose XP YP l.row.toRowW d [] (fun f vs => PySem.call f vs) := by
 intro w s₀ s₁ mg mb G Y fa o pm cd doc dV kV ho hd hcd hD hmg hg args vals as hpre hlay hrd hwl hlo
 obtain rfl : dV = .none := Dflts.none hD hdf
 obtain rfl : kV = .none := Dflts.noKw hD
 obtain ⟨a, vs, ns, rfl, rfl, hobj, hints, hlen⟩ := mL hn hpre hwl
 refine enter_call (codeAny_mono (call w s₀ s₁ mg mb fa o pm cd doc a vs ns G Y ho (fd_plain hd) hcd hmg hobj hints hlen hg) fun r s' hq => ?_)
 obtain ⟨rfl, h2, h3, h4⟩ := hq
 exact ⟨.inl ⟨.bool true, .bool true, [], rfl, fun _ => rfl, .bool true, mM l _, fun _ => ⟨List.Pairwise.nil, fun _ hm => (nomatch hm)⟩⟩, h2, h3, h4⟩
end Att
namespace L2
open PySem PySem.Spec PyProof.Rows
theorem gQ : ∀ {vs : List Value} {ns : List Int}, IntsAre vs ns -> Vals (ns.map V.int) vs
 | _, _, .nil => .nil
 | _, _, .cons n t h => .cons ⟨t, rfl⟩ (gQ h)
noncomputable def Only (H : Hp) : Prop := ∀ b, H b = none \/ ∃ o xs, H b = some (.frz o (.lst xs))
theorem n9 {P : Program} {w : World} {K : PySem.W.Frag} {mg mb : Str -> Option Value} {CX : CXT} {k : Nat} {fa a : Addr} {fd : FuncData} {x : Str} {sp : Sp} {s₁ : Shared} {vs : List Value} {ns : List Int}
  (KX : K.In s₁.heap) (hns : s₁.heap.Ns mainGlobals mg) (hb : s₁.heap.Ns builtinsNs mb) (hbb : ∀ x : Str, x ≠ "__name__" -> mb x = bootBuiltins x) (hlim : s₁.heap.NoLimit) (hg : s₁.gens = #[])
  (ha : s₁.heap.get? a = some { cls := .type "list", data := .seq vs.toArray }) (hi : IntsAre vs ns) (hl : ns.length <= sizeLine) (hr : bQ k callerA)
  (F : ∀ base : Heap, K.In base -> base.Ns mainGlobals mg -> ft P w K mg base CX k fa fd [x] sp) (hbind : ∀ (s : Shared) (u : Value), BindsTo s fd ⟨[u], []⟩ [(x, u)])
  (hsp : ∀ H : Hp, Only H -> SqL K H a (ns.map V.int) -> sp [.ref a] H (fun v _ => v = .bl true) fun _ _ _ => False)
  (hCX : ∀ H e s', CX [] H s₁ (fun _ _ _ => False) e s' -> False) :
  codeAny (model P w) callerA (.call (.ref fa) ⟨[.ref a], []⟩) (fun r s' => r = .ok (.ret (.bool true)) /\ OldK s₁.heap s'.heap /\ s'.os = s₁.os /\ AllBare s'.gens) s₁ := by
 have rv := gQ hi
 have lenV := hi.length
 -- from an abstract heap in which nothing but the script may be tracked
 have core : ∀ H : Hp, Only H -> SqL K H a (ns.map V.int) -> HOk P w H s₁.heap -> (∀ b, H b ≠ none -> b = a) -> (H a ≠ none -> K.lookup a = none) ->
   codeAny (model P w) callerA (.call (.ref fa) ⟨[.ref a], []⟩) (fun r s' => r = .ok (.ret (.bool true)) /\ OldK s₁.heap s'.heap /\ s'.os = s₁.os /\ AllBare s'.gens) s₁ := by
  intro H hO hS hok hA hK
  have base_of : ∀ {b : Addr} {o : Obj}, s₁.heap.get? b = some o -> H b = none -> (iq s₁.heap H).get? b = some o := fun e n => nJ e n
  have noA : ∀ {b : Addr} {o : Obj} {es : Array DictEntry} {ep : Nat}, s₁.heap.get? b = some o -> o.data = .dict es ep -> H b = none := fun {b o es ep} e d => by
   cases q : H b with
   | none => rfl
   | some u =>
    have e' : b = a := hA b (by rw [q]; simp)
    subst e'
    rw [ha] at e; cases e
    have d' : Data.seq vs.toArray _ = Data.dict es ep := d
    cases d'
  have nsK : ∀ {b : Addr} {m : Str -> Option Value}, s₁.heap.Ns b m -> (iq s₁.heap H).Ns b m := fun {b m} zt1 => by obtain ⟨o, es, ep, e, d, r⟩ := zt1; exact ⟨o, es, ep, base_of e (noA e d), d, r⟩
  have hKb : K.In (iq s₁.heap H) := fun b o e => base_of (KX b o e) (by
   cases q : H b with
   | none => rfl
   | some u =>
    have e' : b = a := hA b (by rw [q]; simp)
    subst e'
    rw [hK (by rw [q]; simp)] at e; cases e)
  have hM : Mod K mg (iq s₁.heap H) := ⟨hKb, nsK hns, ⟨mb, nsK hb, hbb⟩, let ⟨mc, h1, h2⟩ := hlim; ⟨mc, nsK h1, h2⟩⟩
  have e0 : Env0 P w K mg (iq s₁.heap H) callerA [] s₁ H := ⟨rfl, hM, fun b o e => qU e, Nat.le_of_eq (mB _ _), trivial, fun b hb => absurd (show b ∈ ([] : List Addr) from hb) (by simp), hok, .of_eq hg⟩
  refine codeAny_mono ((F _ hKb (nsK hns)).run callerA [] s₁ H ⟨[.ref a], []⟩ [.ref a] [.ref a] _ _ hr e0 (hbind s₁ (.ref a)) (.cons rfl .nil) (hsp H hO hS)) fun r s' h => ?_
  cases r with
  | error e => exact (hCX H e s' h).elim
  | ok fl =>
   cases fl with
   | next => exact False.elim h
   | brk => exact False.elim h
   | cont => exact False.elim h
   | ret u =>
    obtain ⟨v, H', os, bare, un, hok', r', q⟩ := h
    have q' : v = .bl true := q
    subst q'
    obtain rfl : u = Value.bool true := r'
    refine ⟨rfl, OldK.of_keep fun b o e => ?_, os, bare⟩
    cases q : H b with
    | none => exact un.keep b o e q (by intro z; exact absurd (show b ∈ ([] : List Addr) from z) (by simp)) (by simp)
    | some u =>
     rcases hO b with z | ⟨ob, xs, z⟩
     ·rw [q] at z; cases z
     ·have z2 := un.frzs b ob _ z
      obtain ⟨e1, _⟩ := hok b _ z
      obtain ⟨e2, _⟩ := hok' b _ z2
      rw [e] at e1; cases e1
      exact e2
 cases hk : K.lookup a with
 | some o =>
  -- the script is one of the module's own objects
  have e := KX a o hk
  rw [ha] at e
  cases e
  refine core (fun _ => none) (fun _ => .inl rfl) (.inr ⟨_, vs.toArray, _, hk, rfl, rfl, rfl, by rw [List.size_toArray, lenV]; exact hl, by simpa using rv⟩) (fun b u z => by have z' : (none : Option HO) = some u := z; cases z') (fun b z => absurd rfl z) fun z => absurd rfl z
 | none =>
  refine core (fun b => if b = a then some (.frz { cls := .type "list", data := .seq vs.toArray } (.lst (ns.map V.int))) else none) (fun b => ?_) (.inl (.inr ⟨{ cls := .type "list", data := .seq vs.toArray }, if_pos rfl⟩)) (fun b u z => ?_) (fun b z => ?_) fun _ => hk
  ·by_cases hb : b = a
   ·exact .inr ⟨_, _, if_pos hb⟩
   ·exact .inl (if_neg hb)
  ·by_cases hb : b = a
   ·have z' := (if_pos hb).symm.trans z
    cases z'
    subst hb
    exact ⟨ha, by rw [List.length_map]; exact hl, vs, _, rv, ha⟩
   ·have z' := (if_neg hb).symm.trans z
    cases z'
  ·by_cases hb : b = a
   ·exact hb
   ·exact absurd (if_neg hb) z
end L2
namespace L2
open PySem PySem.Spec PyProof.Rows
theorem rn {l : PySem.W.OpenLaw} {n k : Nat} {q : Program} {loose : List Str} {XP : (Str -> Option Value) -> Heap -> Prop} {YP : World -> Heap -> Prop} {d : DefRec} {K : Params -> PySem.W.Frag} {CX : World -> CXT} {sp : World -> Sp} {x : Str}
  (hn : l.most = some n) (hn2 : n <= sizeLine) (hdf : d.params.defaults = []) (hr : bQ k callerA)
  (hY : ∀ (w : World) (h : Heap), YP w h -> (K w.params).In h)
  (F : ∀ (w : World) (mg : Str -> Option Value) (fa : Addr) (h : Heap), (K w.params).In h -> h.Ns mainGlobals mg -> mg d.name = some (.ref fa) ->
   ∃ fd : FuncData, (∀ (s : Shared) (u : Value), BindsTo s fd ⟨[u], []⟩ [(x, u)]) /\
    ∀ base : Heap, (K w.params).In base -> base.Ns mainGlobals mg -> ft l.prog w (K w.params) mg base (CX w) k fa fd [x] (sp w))
  (hsp : ∀ (w : World) (H : Hp) (a : Addr) (ns : List Int), ns.length <= n -> Only H -> SqL (K w.params) H a (ns.map V.int) -> sp w [.ref a] H (fun v _ => v = .bl true) fun _ _ _ => False)
  (hCX : ∀ (w : World) (H : Hp) (s : Shared) (e : Value) (s' : Shared), CX w [] H s (fun _ _ _ => False) e s' -> False) :
  PySem.W.WalkO q loose XP YP l.row.toRowW d [] (fun f vs => PySem.call f vs) := by
 refine Att.jv hn hdf fun w s₀ s₁ mg mb fa o pm cd doc a vs ns G Y ho hd hcd hmg hobj hints hlen hg => ?_
 have KX := hY w _ Y
 obtain ⟨fd, hb, hF⟩ := F w mg fa _ KX G.T.g hmg
 exact n9 KX G.T.g G.T.b G.T.builtins G.T.nolimit hg hobj hints (Nat.le_trans hlen hn2) hr hF hb (fun H hO hS => hsp w H a ns hlen hO hS) fun H e s' => hCX w H s₁ e s'
end L2
namespace L2
open PySem PySem.Spec PyProof.Rows
noncomputable def b6 (s : Stmt) : Arguments := match s with
 | .FunctionDef _ a _ _ _ _ _ _ _ _ => a
 | _ => { posonlyargs := [], args := [], vararg := none, kwonlyargs := [], kw_defaults := [], kwarg := none, defaults := [] }
noncomputable def bu (s : Stmt) : List Stmt := match s with
 | .FunctionDef _ _ b _ _ _ _ _ _ _ => b
 | _ => []
noncomputable def aj (s : Stmt) : Scope := match s with
 | .FunctionDef _ _ _ _ _ _ sc _ _ _ => sc
 | _ => { kind := .function, names := [], isGenerator := false, isCoroutine := false }
noncomputable abbrev CX0 : CXT := fun _ _ _ _ _ _ => False
noncomputable abbrev E0 : XK := fun _ _ _ => False
theorem zR {X : Cx} : km CX0 X E0 := fun _ _ _ _ _ _ _ h => h.elim
structure Fun (K : PySem.W.Frag) (x qual : Str) (st : Stmt) (f : Addr) (fd : FuncData) : Prop where
 ex : ∃ (oc : Value) (od : Option Addr) (kV doc pm : Value) (an : Option Addr) (cdv ct : Value) (osl : Array (Option Value)),
  fd = PySem.W.fnOf x qual (b6 st) (bu st) (aj st) .none kV doc pm an cdv ct /\ K.lookup f = some ⟨oc, od, .func fd, osl⟩ /\ PySem.W.codeIn K cdv qual = true
 kp : PySem.W.keepIn K (.ref f) = true
section
variable {P : Program} {w : World} {K : PySem.W.Frag} {mg : Str -> Option Value} {base : Heap}
theorem Fun.ok {x qual : Str} {st : Stmt} {f : Addr} {fd : FuncData} {N ps : List Str} {k : Nat} {sp : Sp} (F : Fun K x qual st f fd) (S : aA N ps (aj st)) (len : ∀ vs H Q E, sp vs H Q E -> vs.length = ps.length)
  (hbody : ∀ (cdv : Value) (A : Around) (outer : List Env) (s : Shared) (H : Hp) (vs : List V) (Q : VK) (E : XK), bQ k (A.deeper (envOfC qual (aj st) s.heap.objs.size f cdv)) -> sp vs H Q E ->
   ∃ t, PSs (fu CX0 P w K mg base N qual (aj st) f cdv A outer s H E).nox (bu st) t /\ t { nx := fun _ H' => Q .non H', rt := Q } (start N vs) H) : ft P w K mg base CX0 (k + 1) f fd ps sp := by
 obtain ⟨oc, od, kV, doc, pm, an, cdv, ct, osl, rfl, lk, hcd⟩ := F.ex
 refine uw lk hcd S len fun A outer s H vs Q E hr hsp => ?_
 obtain ⟨t, h, q⟩ := hbody cdv A outer s H vs Q E hr hsp
 exact ⟨t, h.nox, q⟩
theorem Fun.binds {x qual : Str} {st : Stmt} {f : Addr} {fd : FuncData} {ps : List Str} (F : Fun K x qual st f fd)
  (h : ∀ (kV doc pm : Value) (an : Option Addr) (cdv ct : Value) (us : List Value), us.length = ps.length -> bindArgs (PySem.W.fnOf x qual (b6 st) (bu st) (aj st) .none kV doc pm an cdv ct) ⟨us, []⟩ = pure (ps.zip us)) : Binds K fd ps [] := by
 obtain ⟨oc, od, kV, doc, pm, an, cdv, ct, osl, rfl, lk, hcd⟩ := F.ex
 exact .all (h kV doc pm an cdv ct)
theorem wZ {x qual : Str} {st : Stmt} {f : Addr} {oc : Value} {od an : Option Addr} {osl : Array (Option Value)} {kV doc pm cdv ct : Value} (l : K.lookup f = some ⟨oc, od, .func (PySem.W.fnOf x qual (b6 st) (bu st) (aj st) .none kV doc pm an cdv ct), osl⟩)
  (c : PySem.W.codeIn K cdv qual = true) (k : PySem.W.keepIn K (.ref f) = true) : Fun K x qual st f (PySem.W.fnOf x qual (b6 st) (bu st) (aj st) .none kV doc pm an cdv ct) := ⟨⟨oc, od, kV, doc, pm, an, cdv, ct, osl, rfl, l, c⟩, k⟩
end
section
variable {X : Cx}
theorem pv (i : Nat) {x : Str} {pos : Pos} (hN : X.N[i]? = some x := by rfl) (hv : Vis X.env.scope x := by first | exact Or.inl rfl | exact Or.inr (Or.inl rfl) | exact Or.inr (Or.inr rfl)) (hd : (x == ("__debug__" : Str)) = false := by decide)
  (hcd : (x == ("__classdict__" : Str)) = false := by decide) : PE X (.Name x pos) (cg i) := j7 hN hv hd hcd
end
end L2
section
namespace L2
open PySem PySem.Spec PyProof.Rows
theorem oa : bootBuiltins "int" = some (.type "int") := by decide +kernel
theorem lw : bootBuiltins "bool" = some (.type "bool") := by decide +kernel
theorem rp : bootBuiltins "list" = some (.type "list") := by decide +kernel
theorem fU : bootBuiltins "tuple" = some (.type "tuple") := by decide +kernel
theorem dG : bootBuiltins "len" = some (.builtin "len") := by decide +kernel
theorem bp : bootBuiltins "isinstance" = some (.builtin "isinstance") := by decide +kernel
noncomputable def Has (P : Program) (w : World) (K : PySem.W.Frag) (mg : Str -> Option Value) (base : Heap) (k : Nat) (x : Str) (ps : List Str) (sp : Sp) : Prop :=
 ∃ (f : Addr) (fd : FuncData), ft P w K mg base CX0 k f fd ps sp /\ mg x = some (.ref f) /\ PySem.W.keepIn K (.ref f) = true /\ Binds K fd ps [] /\ ∃ (oc : Value) (od : Option Addr) (osl : Array (Option Value)), K.lookup f = some ⟨oc, od, .func fd, osl⟩
theorem ly {X : Cx} {j k : Nat} {x : Str} {ps : List Str} {sp : Sp} {e : Expr} {es : List Expr} {t : TA} {p pos : Pos} (E : Has X.prog X.w X.K X.mg X.base k x ps sp) (hr : bQ j X.A) (ha : PA X (e :: es) t)
  (hk : k <= j := by decide) (hg : Gl X x := by rfl) (hdb : (x == ("__debug__" : Str)) = false := by decide) (he : starEach (e :: es) X.env = (false, eval e X.env) :: starEach es X.env := by rfl)
  (hpl : (backTo pos (starEach es X.env)).any (·.1) = false := by rfl) : PE X (.Call (.Name x p) (e :: es) [] pos) (fS sp [] E0 t) := by
 obtain ⟨f, fd, F, hm, kp, hb, _⟩ := E
 exact lq F (hr.mono hk) hg hm kp hb .nil zR ha hdb he hpl
noncomputable def Src (K : PySem.W.Frag) (mg : Str -> Option Value) (x : Str) (st : Stmt) : Prop := ∃ (f : Addr) (fd : FuncData), Fun K x x st f fd /\ mg x = some (.ref f)
theorem Src.has {P : Program} {w : World} {K : PySem.W.Frag} {mg : Str -> Option Value} {base : Heap} {x : Str} {st : Stmt} {N ps : List Str} {k : Nat} {sp : Sp} (S : Src K mg x st) (sc : aA N ps (aj st))
  (hb : ∀ (kV doc pm : Value) (an : Option Addr) (cdv ct : Value) (us : List Value), us.length = ps.length -> bindArgs (PySem.W.fnOf x x (b6 st) (bu st) (aj st) .none kV doc pm an cdv ct) ⟨us, []⟩ = pure (ps.zip us))
  (len : ∀ vs H Q E, sp vs H Q E -> vs.length = ps.length)
  (hbody : ∀ (f : Addr) (cdv : Value) (A : Around) (outer : List Env) (s : Shared) (H : Hp) (vs : List V) (Q : VK) (E : XK), bQ k (A.deeper (envOfC x (aj st) s.heap.objs.size f cdv)) -> sp vs H Q E ->
   ∃ t, PSs (fu CX0 P w K mg base N x (aj st) f cdv A outer s H E).nox (bu st) t /\ t { nx := fun _ H' => Q .non H', rt := Q } (start N vs) H) : Has P w K mg base (k + 1) x ps sp := by
 obtain ⟨f, fd, F, hm⟩ := S
 exact ⟨f, fd, F.ok sc len fun cdv A outer s H vs Q E hr h => hbody f cdv A outer s H vs Q E hr h, hm, F.kp, F.binds hb, by obtain ⟨oc, od, kV, doc, pm, an, cdv, ct, osl, _, lk, _⟩ := F.ex; exact ⟨oc, od, osl, lk⟩⟩
theorem aJ {K : PySem.W.Frag} {h : Heap} {mg : Str -> Option Value} {x : Str} {st : Stmt} {f : Addr} {oc : Value} {od an : Option Addr} {osl : Array (Option Value)} {kV doc pm cdv ct : Value} (X : K.In h) (G : h.Ns mainGlobals mg)
  (a : PySem.W.nsIn K mainGlobals x = some (some (.ref f))) (l : K.lookup f = some ⟨oc, od, .func (PySem.W.fnOf x x (b6 st) (bu st) (aj st) .none kV doc pm an cdv ct), osl⟩)
  (c : PySem.W.codeIn K cdv x = true) (k : PySem.W.keepIn K (.ref f) = true) : Src K mg x st := ⟨f, _, wZ l c k, PySem.W.mg_of X G a⟩
theorem rq {P : Program} {w : World} {K : PySem.W.Frag} {mg : Str -> Option Value} {k : Nat} {st : Stmt} {fa : Addr} {x : Str} {sp : Sp} (S : Src K mg "law" st) (hfa : mg "law" = some (.ref fa))
  (hb : ∀ (kV doc pm : Value) (an : Option Addr) (cdv ct : Value) (v : Value), bindArgs (PySem.W.fnOf "law" "law" (b6 st) (bu st) (aj st) .none kV doc pm an cdv ct) ⟨[v], []⟩ = pure [(x, v)])
  (all : ∀ base : Heap, Has P w K mg base k "law" [x] sp) :
  ∃ fd : FuncData, (∀ (s : Shared) (v : Value), BindsTo s fd ⟨[v], []⟩ [(x, v)]) /\ ∀ base : Heap, K.In base -> base.Ns mainGlobals mg -> ft P w K mg base CX0 k fa fd [x] sp := by
 obtain ⟨f, fd, F, hm⟩ := S
 have e := hfa.symm.trans hm
 cases e
 obtain ⟨oc, od, kV, doc, pm, an, cdv, ct, osl, rfl, lk, _⟩ := F.ex
 refine ⟨_, fun s v => .of_eq (hb kV doc pm an cdv ct v), fun base _ _ => ?_⟩
 obtain ⟨f', fd', G', hm', _, _, oc', od', osl', lk'⟩ := all base
 have e := hm.symm.trans hm'
 cases e
 rw [lk] at lk'
 injection lk' with e1
 injection e1 with _ _ e2 _
 injection e2 with e3
 rw [e3]
 exact G'
noncomputable def tH (ms : List Int) : Int := reduceHash (Builtin.Tuple.tupleHashOf (ms.map hashInt))
noncomputable def w4 (x : List Int × Addr × Value) : DictEntry := ⟨tH x.1, .ref x.2.1, x.2.2⟩
noncomputable abbrev EV : List (List Int × Addr × V) -> List (List Int × Addr × Value) -> Prop := Paired fun p q => p.1 = q.1 /\ p.2.1 = q.2.1 /\ RelV p.2.2 q.2.2
noncomputable def DctP (a : Addr) (es : List (List Int × Addr × V)) (h : Heap) : Prop :=
 es.length <= sizeLine /\ (a == sysModules) = false /\ (es.map (·.1)).Nodup /\ ∃ xs, EV es xs /\ ∃ o ds ep, h.get? a = some o /\ o.ExactDict /\ o.data = .dict ds ep /\ ds.toList = xs.map w4
noncomputable def bR (a : Addr) (ob : Obj) (es : List (List Int × Addr × V)) : HO := .ext fun h => DctP a es h /\ h.get? a = some ob
theorem DctP.ok {P : Program} {w : World} {H : Hp} {h : Heap} {a : Addr} {ob : Obj} {es : List (List Int × Addr × V)} (d : DctP a es h) (q : h.get? a = some ob) : aY P w H h a (bR a ob es) :=
 ⟨⟨d, q⟩, ⟨ob, q⟩, fun _ _ zt1 k => by obtain ⟨⟨z, m, nd, xs, ev, o, ds, ep, e, r⟩, q⟩ := zt1; exact ⟨⟨z, m, nd, xs, ev, o, ds, ep, k o e, r⟩, k ob q⟩⟩
theorem fA {X : Cx} {pins : List (Addr × Obj)} {σ : St} {H : Hp} {s : Shared} {a : Addr} {ob : Obj} {es : List (List Int × Addr × V)} (I : Inv X pins σ H s) (e : H a = some (bR a ob es)) : DctP a es s.heap /\ s.heap.get? a = some ob :=
 (show aY X.prog X.w H s.heap a (.ext fun h => DctP a es h /\ h.get? a = some ob) from I.hok a _ e).1
theorem iz {X : Cx} {pins : List (Addr × Obj)} {σ : St} {H : Hp} {s : Shared} {a : Addr} {ob : Obj} {es : List (List Int × Addr × V)} (I : Inv X pins σ H s) (e : H a = some (bR a ob es)) : DctP a es s.heap := (fA I e).1
inductive TyO (K : PySem.W.Frag) (H : Hp) : V -> String -> Prop where
 | non : TyO K H .non "NoneType"
 | bl (x : Bool) : TyO K H (.bl x) "bool"
 | int (i : Int) : TyO K H (.int i) "int"
 | str (x : Str) : TyO K H (.str x) "str"
 | lst {a : Addr} {xs : List V} (e : SqL K H a xs) : TyO K H (.ref a) "list"
 | tup {a : Addr} {xs : List V} (e : SqT K H a xs) : TyO K H (.ref a) "tuple"
 | dK {a : Addr} {kvs : List (Key × V)} (e : H a = some (.dK kvs)) : TyO K H (.ref a) "dict"
 | dT {a : Addr} {kvs : List (List Key × V)} (e : H a = some (.dT kvs)) : TyO K H (.ref a) "dict"
 | dE {a : Addr} {ob : Obj} {es : List (List Int × Addr × V)} (e : H a = some (bR a ob es)) : TyO K H (.ref a) "dict"
noncomputable def mO (t c : String) : Option Bool := PySem.W.kitOne [] (.type t) (.type c)
theorem oe {K : PySem.W.Frag} {t c : String} : PySem.W.kitOne K (.type t) (.type c) = mO t c := rfl
theorem iA : mO "int" "int" = some true := by decide +kernel
theorem gI : mO "int" "bool" = some false := by decide +kernel
noncomputable def w6 (K : PySem.W.Frag) : List V -> Hp -> VK -> Prop := fun xs H Q => ∃ x t c b, xs = [x, .ty c] /\ TyO K H x t /\ mO t c = some b /\ Q (.bl b) H
theorem og {X : Cx} : cG X (.builtin "isinstance") (w6 X.K) := by
 intro pins s σ H xs us Q I r h
 obtain ⟨x, t, c, b, rfl, ty, e, q⟩ := h
 obtain ⟨u, w', rfl, rx, rc⟩ := vals2 r
 obtain rfl : w' = Value.type c := rc
 have e' : PySem.W.kitOne X.K (.type t) (.type c) = some b := by rw [oe]; exact e
 have fin : ∀ tk, EP X pins σ Q (.bool b) { s with toks := tk } := fun tk => ⟨.bl b, H, I.tok tk, rfl, q⟩
 cases ty with
 | non => exact cA I rx (.non) e' fin
 | bl y => exact cA I rx (.bl y) e' fin
 | int i => exact cA I rx (.int i) e' fin
 | str y => exact cA I rx (.str y) e' fin
 | dK ea => exact cA I rx (.dK ea) e' fin
 | dT ea => exact cA I rx (.dT ea) e' fin
 | @dE a ob es ea =>
  cases rx
  obtain ⟨_, _, _, _, _, o, _, _, h1, h2, _⟩ := iz I ea
  exact PySem.W.kia_one PySem.W.kitx_dict I.kIn ⟨o, h1, h2.1⟩ e' (fun z => nomatch z) fin
 | lst ea =>
  cases rx
  obtain ⟨its, _, pl, _⟩ := I.list ea
  obtain ⟨o, h1, h2, _⟩ := pl.isList
  exact PySem.W.kia_one PySem.W.kitx_list I.kIn ⟨o, h1, h2⟩ e' (fun z => nomatch z) fin
 | tup ea =>
  cases rx
  obtain ⟨its, _, p, _⟩ := I.tuple ea
  obtain ⟨o, h1, h2, _⟩ := p
  exact PySem.W.kia_one PySem.W.kitx_tuple I.kIn ⟨o, h1, h2⟩ e' (fun z => nomatch z) fin
section
variable {X : Cx}
noncomputable def w9 (K : PySem.W.Frag) (H : Hp) (ps : List Addr) (mss : List (List Int)) : Prop := Paired (fun p ms => SqT K H p (List.map V.int ms)) ps mss
end
noncomputable def lz : List Value -> Option (List Int)
 | [] => some []
 | .int i _ :: r => (lz r).map (i :: ·)
 | _ :: _ => none
theorem jw : ∀ {us : List Value} {ns : List Int}, lz us = some ns -> Vals (ns.map V.int) us
 | [], ns, e => by cases e; exact .nil
 | u :: r, ns, e => by
  cases u with
  | int i t =>
   obtain ⟨ms, h1, rfl⟩ := Option.map_eq_some_iff.mp (show (lz r).map (i :: ·) = some ns from e)
   exact .cons ⟨t, rfl⟩ (jw h1)
  | _ => cases e
noncomputable def kq (K : PySem.W.Frag) (a : Addr) : Option (List Value) := match K.lookup a with
 | some ⟨.type "tuple", _, .seq its _, _⟩ => if its.toList.length <= 1000 then some its.toList else none
 | _ => none
theorem lA {K : PySem.W.Frag} {H : Hp} {a : Addr} {us : List Value} {xs : List V} (e : kq K a = some us) (r : Vals xs us) : SqT K H a xs := by
  unfold kq at e
  split at e
  · rename_i c its n sl lk
    split at e
    · rename_i hz
      cases e
      have hs : sizeLine = 16777216 := sizeLine_eq
      exact .inr ⟨_, its, n, lk, rfl, rfl, by have : its.toList.length = its.size := by simp
                                              lia, r⟩
    · cases e
  · cases e
noncomputable def okT (K : PySem.W.Frag) (v : Value) (ns : List Int) : Bool := match v with
 | .ref a => (match kq K a with | some us => decide (lz us = some ns) | none => false)
 | _ => false
theorem xb {K : PySem.W.Frag} {H : Hp} {v : Value} {ns : List Int} (e : okT K v ns = true) : ∃ a, v = .ref a /\ SqT K H a (ns.map V.int) := by
 unfold okT at e
 split at e
 ·rename_i a
  split at e
  ·rename_i us h
   exact ⟨a, rfl, lA h (jw (of_decide_eq_true e))⟩
  ·cases e
 ·cases e
noncomputable def rA (K : PySem.W.Frag) : List Value -> List (List Int) -> Bool
 | [], [] => true
 | v :: r, ns :: s => okT K v ns && rA K r s
 | _, _ => false
theorem iB {K : PySem.W.Frag} {H : Hp} : ∀ {us : List Value} {nss : List (List Int)}, rA K us nss = true -> ∃ ps, Vals (ps.map V.ref) us /\ w9 K H ps nss
 | [], [], _ => ⟨[], .nil, .nil⟩
 | u :: r, ns :: s, e => by
  rw [rA, Bool.and_eq_true] at e
  obtain ⟨a, rfl, h⟩ := xb (H := H) e.1
  obtain ⟨ps, h1, h2⟩ := iB e.2
  exact ⟨a :: ps, .cons rfl h1, .cons h h2⟩
 | [], _ :: _, e => by cases e
 | _ :: _, [], e => by cases e
noncomputable def rB (K : PySem.W.Frag) (v : Value) (nss : List (List Int)) : Bool := match v with
 | .ref a => (match kq K a with | some us => rA K us nss | none => false)
 | _ => false
noncomputable def TTup (K : PySem.W.Frag) (v : V) (nss : List (List Int)) : Prop := ∃ a ps, v = .ref a /\ ∀ H : Hp, SqT K H a (ps.map V.ref) /\ w9 K H ps nss
theorem rC {K : PySem.W.Frag} {v : Value} {nss : List (List Int)} (e : rB K v nss = true) : ∃ x, RelV x v /\ TTup K x nss := by
 unfold rB at e
 split at e
 ·rename_i a
  split at e
  ·rename_i us h
   obtain ⟨ps, h1, h2⟩ := iB (H := fun _ => none) e
   refine ⟨.ref a, rfl, a, ps, rfl, fun H => ⟨lA h h1, ?_⟩⟩
   obtain ⟨ps', h1', h2'⟩ := iB (H := H) e
   have := h1.inj h1'
   have e2 : ps = ps' := by
    have := congrArg (List.map (fun v => match v with | V.ref i => i | _ => 0)) this
    simpa [List.map_map, Function.comp_def] using this
   rw [e2]
   exact h2'
  ·cases e
 ·cases e
noncomputable def rD (K : PySem.W.Frag) : List DictEntry -> List (Int × List (List Int)) -> Bool
 | [], [] => true
 | e :: r, p :: s => Value.isInt p.1 e.key && decide (e.hash = hashInt p.1) && rB K e.val p.2 && rD K r s
 | _, _ => false
noncomputable def okD (K : PySem.W.Frag) (d : Addr) (rows : List (Int × List (List Int))) : Bool := match K.lookup d with
 | some ⟨.type "dict", none, .dict es _, sl⟩ => sl.size == 0 && rD K es.toList rows && decide (rows.map (·.1)).Nodup
 | _ => false
theorem lB {P : Program} {w : World} {K : PySem.W.Frag} : ∀ {es : List DictEntry} {rows : List (Int × List (List Int))}, rD K es rows = true ->
  ∃ kvs : List (Int × Value), Pairs (intKind P w) es kvs /\ (∀ e ∈ es, ∃ k, (intKind P w).is k e.key = true /\ e.hash = (intKind P w).hash k) /\ kvs.map (·.1) = rows.map (·.1) /\
   ∀ k nss, (k, nss) ∈ rows -> (rows.map (·.1)).Nodup -> ∃ v, valueAt kvs k = some v /\ rB K v nss = true
 | [], [], _ => ⟨[], .nil, (fun _ h => nomatch h), rfl, (fun _ _ h => nomatch h)⟩
 | e :: r, p :: s, h => by
  rw [rD, Bool.and_eq_true, Bool.and_eq_true, Bool.and_eq_true] at h
  obtain ⟨⟨⟨h1, h2⟩, h3⟩, h4⟩ := h
  obtain ⟨kvs, g1, g2, g3, g4⟩ := lB (P := P) (w := w) h4
  refine ⟨(p.1, e.val) :: kvs, .cons h1 rfl g1, fun x hx => ?_, by simp [g3], fun k nss hk nd => ?_⟩
  ·rcases List.mem_cons.mp hx with rfl | hx
   ·exact ⟨p.1, h1, of_decide_eq_true h2⟩
   ·exact g2 x hx
  ·rw [List.map_cons, List.nodup_cons] at nd
   rcases List.mem_cons.mp hk with rfl | hk
   ·exact ⟨e.val, by simp [valueAt], h3⟩
   ·obtain ⟨v, e1, e2⟩ := g4 k nss hk nd.2
    refine ⟨v, ?_, e2⟩
    have ne : ¬ p.1 = k := fun z => nd.1 (List.mem_map.mpr ⟨(k, nss), hk, z.symm⟩)
    unfold valueAt at e1 ⊢
    rw [List.find?_cons_of_neg (by simpa using ne)]
    exact e1
 | [], _ :: _, h => by cases h
 | _ :: _, [], h => by cases h
noncomputable def zS (K : PySem.W.Frag) (rows : List (Int × List (List Int))) : R2 := fun x y H Q => ∃ d k nss, x = .ref d /\ y = .int k /\ okD K d rows = true /\ (k, nss) ∈ rows /\ ∀ v, TTup K v nss -> Q v H
theorem rE {X : Cx} {rows : List (Int × List (List Int))} : IxR X (zS X.K rows) := by
 intro value slice pins s σ H x y v u Q I rx ry h hs
 obtain ⟨d, k, nss, rfl, rfl, hd, hk, q⟩ := h
 cases rx
 obtain ⟨t, rfl⟩ := ry
 unfold okD at hd
 split at hd
 ·rename_i es n sl lk
  rw [Bool.and_eq_true, Bool.and_eq_true] at hd
  obtain ⟨⟨h1, h2⟩, h3⟩ := hd
  obtain ⟨kvs, g1, g2, g3, g4⟩ := lB (P := X.prog) (w := X.w) h2
  have nd := of_decide_eq_true h3
  obtain ⟨v, e1, e2⟩ := g4 k nss hk nd
  have sl0 : sl = #[] := by
   have : sl.size = 0 := by simpa using h1
   exact Array.eq_empty_of_size_eq_zero this
  have D : s.heap.DictOf (intKind X.prog X.w) d kvs := ⟨_, es, n, I.kIn d _ lk, ⟨rfl, rfl, sl0⟩, rfl, fun e he => g2 e (by simpa using he), g1, by rw [g3]; exact nd⟩
  obtain ⟨x, rx, tt⟩ := rC e2
  exact tail_any D.typeIs slot_dict_getitem.lookup (wpAny_getItem_of (k := k) (by show Value.isInt k (.int k t) = true; simp [Value.isInt]) D.mapOf e1 ⟨x, H, I.tok _, rx, q x tt⟩) hs
 ·cases hd
end L2
end
variable {H : L2.Hp} {vs : List L2.V} {es : List (List Int × PySem.Addr × L2.V)} {σ : L2.St} {pins : List (PySem.Addr × PySem.Obj)} {ix : List Nat} {v : L2.V} {K : PySem.W.Frag} {ns : List Int} {ms : List Int} {mss : List (List Int)} {tg : List PySem.Str} {cs : List PySem.Str} {bo : List Int}
section
namespace L2
open PySem PySem.Spec PyProof.Rows
noncomputable def aV (env : Env) : List (Str × NameKind) -> List (Str × Addr) -> List (Str × Addr)
 | [], acc => acc
 | (n, k) :: r, acc => aV env r (if (k == NameKind.free) = true then (match env.cells.lookup n with | some c => (n, c) :: acc | none => acc) else acc)
theorem cj {env : Env} : ∀ {l : List (Str × NameKind)} {acc : List (Str × Addr)} {n : Str} {c : Addr}, (n, c) ∈ aV env l acc -> (n, c) ∈ acc \/ env.cells.lookup n = some c
 | [], _, _, _, h => .inl h
 | (m, k) :: r, acc, n, c, h => by
  unfold aV at h
  rcases cj h with h | h
  ·split at h
   ·split at h
    ·rename_i c' e
     rcases List.mem_cons.mp h with h | h
     ·cases h; exact .inr e
     ·exact .inl h
    ·exact .inl h
   ·exact .inl h
  ·exact .inr h
theorem gR {env : Env} : ∀ {l : List (Str × NameKind)} {acc : List (Str × Addr)} {p : Str × Addr}, p ∈ acc -> p ∈ aV env l acc
 | [], _, _, h => h
 | (m, k) :: r, acc, p, h => by
  unfold aV
  refine gR ?_
  split
  ·split
   ·exact List.mem_cons_of_mem _ h
   ·exact h
  ·exact h
theorem fV {env : Env} : ∀ {l : List (Str × NameKind)} {acc : List (Str × Addr)} {n : Str} {c : Addr}, (n, NameKind.free) ∈ l -> env.cells.lookup n = some c -> (n, c) ∈ aV env l acc
 | (m, k) :: r, acc, n, c, h, e => by
  unfold aV
  rcases List.mem_cons.mp h with h | h
  ·cases h
   refine gR ?_
   rw [if_pos (show (NameKind.free == NameKind.free) = true from rfl), e]
   exact List.mem_cons_self
  ·exact fV h e
theorem cellOf_eq {env : Env} {n : Str} {c : Addr} (h : env.cells.lookup n = some c) : cellOf env n = pure c := by
 unfold cellOf
 rw [h]
theorem cC {env : Env} {scope : Scope} (h : ∀ n, (n, NameKind.free) ∈ scope.names -> ∃ c, env.cells.lookup n = some c) : closureFor scope env = pure (aV env scope.names []) := by
 have all : ∀ (l : List (Str × NameKind)) (acc : List (Str × Addr)), (∀ n, (n, NameKind.free) ∈ l -> ∃ c, env.cells.lookup n = some c) ->
   (forIn l acc fun (x : Str × NameKind) (cs : List (Str × Addr)) => (if (x.2 == NameKind.free) = true then (do let c <- cellOf env x.1; pure (ForInStep.yield ((x.1, c) :: cs))) else pure (ForInStep.yield cs) : Sem (ForInStep (List (Str × Addr))))) = pure (aV env l acc) := by
  intro l
  induction l with
  | nil => intro acc _; rfl
  | cons x r ih =>
   intro acc hl
   obtain ⟨n, k⟩ := x
   rw [List.forIn_cons]
   unfold aV
   cases hk : (k == NameKind.free) with
   | true =>
    have hk' : k = NameKind.free := by simpa using hk
    subst hk'
    obtain ⟨c, e⟩ := hl n List.mem_cons_self
    simp only [if_true, cellOf_eq e, pure_bind, e]
    exact ih _ fun m hm => hl m (List.mem_cons_of_mem _ hm)
   | false =>
    simp only [Bool.false_eq_true, if_false, pure_bind]
    exact ih _ fun m hm => hl m (List.mem_cons_of_mem _ hm)
 have q := all scope.names [] h
 unfold closureFor
 first
  | (simp only [bind_pure_comp, map_pure] at q ⊢; rw [q]; rfl)
  | (rw [q]; rfl)
  | exact q
noncomputable def ak (X : Cx) (scope : Scope) (N : List Str) (C : Addr) (fp : List Addr) (s₀ : Shared) (H₀ : Hp) : Cx :=
 { X with N := N, s₀ := s₀, H₀ := H₀, env := compEnvC scope (aV X.env scope.names []) C X.env, outer := X.stack, stack := X.stack, ex := fp, fn := fun _ => false, pn := [], xe := fun _ _ => False }
noncomputable def capt (n : Nat) (ix : List Nat) (σ : St) : St := List.replicate n none ++ ix.map fun i => (σ[i]?).getD none
structure aL (X : Cx) (scope : Scope) (tg cs : List Str) (ix : List Nat) : Prop where
 kind : scope.kind = .function
 nocell : ∀ y ∈ scope.names, y.2 ≠ .cell
 names : ∀ y ∈ scope.names, y.2 = .local -> scope.names.lookup y.1 = some .local
 nd : (tg ++ cs).Nodup
 at_ : ix.map (fun i => X.N[i]?) = cs.map some
 free : ∀ x ∈ cs, (x, NameKind.free) ∈ scope.names /\ scope.names.lookup x = some .free
 out : ∀ x, (x, NameKind.free) ∈ scope.names -> X.env.scope.names.lookup x = some .cell \/ X.env.scope.names.lookup x = some .free
theorem eA {f : Str × NameKind -> Str × NameKind} (hf : ∀ p, (f p).1 = p.1) : ∀ (names : List (Str × NameKind)) (x : Str), (names.map f).lookup x = (names.lookup x).map fun k => (f (x, k)).2
 | [], _ => rfl
 | p :: r, x => by
  have e : f p = (p.1, (f p).2) := by rw [<- hf p]
  rw [List.map_cons, e, List.lookup_cons, List.lookup_cons, eA hf r x]
  cases q : x == p.1 with
  | false => rfl
  | true =>
   have z : x = p.1 := by simpa using q
   subst z
   rfl
noncomputable def freed (env : Env) (p : Str × NameKind) : Bool := p.2 == NameKind.free && env.scope.kind == .function && env.kindOf p.1 == some .cell
theorem cy {env : Env} {names : List (Str × NameKind)} {x : Str} :
  (names.map fun (n, k) => if (k == NameKind.free && env.scope.kind == .function && env.kindOf n == some .cell) then (n, NameKind.cell) else (n, k)).lookup x = (names.lookup x).map fun k => if freed env (x, k) = true then .cell else k := by
 refine (eA (fun p => ?_) names x).trans ?_
 ·dsimp only
  split <;> rfl
 ·congr 1
  funext k
  unfold freed
  dsimp only
  split <;> rfl
theorem cu {env : Env} {names : List (Str × NameKind)} {x : Str} {k : NameKind}
  (h : (names.map fun (n, k) => if (k == NameKind.free && env.scope.kind == .function && env.kindOf n == some .cell) then (n, NameKind.cell) else (n, k)).lookup x = some k) (hk : k = .cell \/ k = .free) (nc : ∀ y ∈ names, y.2 ≠ .cell) : (x, NameKind.free) ∈ names := by
 rw [cy] at h
 cases q : names.lookup x with
 | none => rw [q] at h; cases h
 | some k0 =>
  have hm := PySem.mem_of_lookup q
  suffices z : k0 = .free by rw [<- z]; exact hm
  rw [q] at h
  by_cases c : freed env (x, k0) = true
  ·unfold freed at c
   simp only [Bool.and_eq_true, beq_iff_eq] at c
   exact c.1.1
  ·have h2 : k0 = k := by simpa [c] using h
   rcases hk with e | e
   ·exact absurd (h2.trans e) (nc _ hm)
   ·exact h2.trans e
theorem bL {env : Env} {names : List (Str × NameKind)} {x : Str} (h : names.lookup x = some .free) :
  (names.map fun (n, k) => if (k == NameKind.free && env.scope.kind == .function && env.kindOf n == some .cell) then (n, NameKind.cell) else (n, k)).lookup x = some .cell \/
  (names.map fun (n, k) => if (k == NameKind.free && env.scope.kind == .function && env.kindOf n == some .cell) then (n, NameKind.cell) else (n, k)).lookup x = some .free := by
 rw [cy, h]
 by_cases c : freed env (x, .free) = true
 ·exact .inl (by simp [c])
 ·exact .inr (by simp [c])
section
variable {X : Cx} {pins : List (Addr × Obj)} {σ : St} {H H1 : Hp} {s : Shared}
theorem Inv.track {D : Addr} {o : HO} (I : Inv X pins σ H s) (hn : H D = none) (hs : X.s₀.heap.objs.size <= D) (hL : D ≠ X.env.locals) (hc : ∀ x c, X.env.cells.lookup x = some c -> c ≠ D) (hp : ∀ p ∈ X.pn ++ pins, p.1 ≠ D)
  (new : aY X.prog X.w (upd H D o) s.heap D o) : Inv X pins σ (upd H D o) s := by
 have nb : ∀ b ob, X.s₀.heap.get? b = some ob -> b ≠ D := fun b ob e z => by subst z; exact absurd (Nat.lt_of_lt_of_le (Heap.lt_size e) hs) (Nat.lt_irrefl _)
 refine ⟨I.ok, I.os, I.bare, ⟨I.base.keep, I.base.slot, fun b ob e n hx => ?_, I.base.there, fun b xs e => ?_, fun b ob u e => ?_, fun b ps e => ?_⟩, I.loc, I.cell, ?_, fun x c e => ?_, fun p hpp => ?_, fun b u e => ?_, I.len⟩
 ·rw [au (nb b ob e)]; exact I.base.free b ob e n hx
 ·have q := I.base.tups b xs e
  rw [au (aX q hn)]; exact q
 ·have q := I.base.frzs b ob u e
  rw [au (aX q hn)]; exact q
 ·obtain ⟨more, q⟩ := I.base.tbls b ps e
  exact ⟨more, by rw [au (aX q hn)]; exact q⟩
 ·rw [au hL.symm]; exact I.free
 ·rw [au (hc x c e)]; exact I.freeC x c e
 ·obtain ⟨a, b, c, d, e⟩ := I.pin p hpp
  exact ⟨a, by rw [au (hp p hpp)]; exact b, c, d, e⟩
 ·by_cases hb : b = D
  ·subst hb; rw [aw] at e; cases e; exact new
  ·rw [au hb] at e
   exact (I.hok b u e).stay (fun _ _ _ q => q) (fun c q => by rw [au (aX q hn)]; exact q) fun c xs q => by rw [au (aX q hn)]; exact q
theorem cD {X : Cx} {tg cs : List Str} (hat : ix.map (fun i => X.N[i]?) = cs.map some) {i : Nat} {x : Str} (h1 : (tg ++ cs)[i]? = some x) (h2 : (capt tg.length ix σ)[i]? = some (some v)) :
  x ∈ cs /\ ∃ k : Nat, X.N[k]? = some x /\ σ[k]? = some (some v) := by
 unfold capt at h2
 by_cases hi : i < tg.length
 ·rw [List.getElem?_append_left (by simpa using hi), List.getElem?_replicate, if_pos hi] at h2
  cases h2
 ·rw [List.getElem?_append_right (by simpa using hi), List.length_replicate, List.getElem?_map] at h2
  rw [List.getElem?_append_right (by lia)] at h1
  cases e : ix[i - tg.length]? with
  | none => rw [e] at h2; cases h2
  | some k =>
   rw [e] at h2
   have h2 : (σ[k]?).getD none = some v := Option.some.inj h2
   have q := congrArg (fun l => l[i - tg.length]?) hat
   simp only [List.getElem?_map, e, h1, Option.map_some] at q
   refine ⟨List.mem_of_getElem? h1, k, Option.some.inj q, ?_⟩
   cases z : σ[k]? with
   | none => rw [z] at h2; cases h2
   | some y => rw [z] at h2; exact congrArg some h2
end
noncomputable def PTs (X : Cx) (ifs : List Expr) (t : TT) : Prop :=
 ∀ (pins : List (Addr × Obj)) (s : Shared) (σ : St) (H : Hp) (Q : Bool -> Hp -> Prop), Inv X pins σ H s -> t σ H Q ->
  wpAny (model X.prog X.w) X.A (forIn ifs true fun c r => if r = true then do let ok <- isTrue c X.env (eval c X.env); pure (ForInStep.yield ok) else pure (ForInStep.yield r)) (TP X pins σ Q) X.xe s
noncomputable def uz : TT := fun _ H Q => Q true H
theorem rF {X : Cx} : PTs X [] uz := fun _ _ _ H _ I h => wpAny_tests_nil ⟨H, I, h⟩
theorem rG {X : Cx} {c : Expr} {t : TT} (h : PT X c t) : PTs X [c] t := fun pins s σ H Q I hw => wpAny_tests_one (h pins s σ H Q I hw)
noncomputable def cr (n : Nat) (ix : List Nat) (g : TG) : Prop := ∀ x σ H Q, g x (capt n ix σ) H Q -> g x (capt n ix σ) H fun σ2 H2 => (σ2.length = (capt n ix σ).length /\ ∀ (i : Nat) (v : V), (capt n ix σ)[i]? = some (some v) -> σ2[i]? = some (some v)) /\ Q σ2 H2
theorem bO {n : Nat} {j : Nat} (h : j < n) (e : (capt n ix σ)[j]? = some (some v)) : False := by
 unfold capt at e
 rw [List.getElem?_append_left (by simpa using h), List.getElem?_replicate, if_pos h] at e
 cases e
theorem aM {n : Nat} {j : Nat} (h : j < n) : cr n ix (aZ j) := fun x σ H Q q => ⟨⟨by simp, fun i v e => by
 by_cases hi : j = i
 ·subst hi; exact (bO h e).elim
 ·rw [List.getElem?_set_ne hi]; exact e⟩, q⟩
theorem mP {n : Nat} {m j k : Nat} (h : j < n) (h' : k < n) : cr n ix (wy K m (kZ (aZ j) (kZ (aZ k) wu))) := fun x σ H Q q => by
 obtain ⟨a, xs, e1, hq, hl, v, r, e2, v', r', e3, e4, q⟩ := q
 refine ⟨a, xs, e1, hq, hl, v, r, e2, v', r', e3, e4, ⟨by simp, fun i v e => ?_⟩, q⟩
 by_cases hi : j = i
 ·subst hi; exact (bO h e).elim
 ·by_cases hk : k = i
  ·subst hk; exact (bO h' e).elim
  ·rw [List.getElem?_set_ne hk, List.getElem?_set_ne hi]; exact e
noncomputable def gS (wi : TI) (n : Nat) (ix : List Nat) (g : TG) (tc : TT) (te : TE) : TE := fun σ H Q => wi σ H fun J H1 => ∃ W : Nat -> Nat -> List V -> Hp -> Prop, (∃ m, W 0 m [] H1) /\ ∀ i m ys H2, W i m ys H2 ->
 (J.stop i H2 /\ ys.length <= sizeLine /\ ∀ D, H2 D = none -> Q (.ref D) (upd H2 D (.lst ys))) \/
 (J.go i H2 /\ ys.length < sizeLine /\ ∃ Nx : List V -> Hp -> Prop, (∀ ys' H', Nx ys' H' -> ∃ m', m' < m /\ W (i + 1) m' ys' H') /\
  ∀ x H3, J.yld i H2 x H3 -> g x (capt n ix σ) H3 fun σ2 H4 => tc σ2 H4 fun b H5 => if b = true then te σ2 H5 fun v H6 => Nx (ys ++ [v]) H6 else Nx ys H5)
section
variable {X : Cx} {pins : List (Addr × Obj)} {σ : St} {H H1 : Hp} {s : Shared}
theorem eD {scope : Scope} {tg cs : List Str} {fp : List Addr} {s4 : Shared} (S : aL X scope tg cs ix) (I : Inv X pins σ H s) (hf : ∀ b ∈ fp, dw X pins H b) (ho : ∀ b ∈ fp, ∃ o, s.heap.get? b = some o) {C : Addr} (hC : s.heap.objs.size <= C)
  (hk : ∀ b o, s.heap.get? b = some o -> s4.heap.get? b = some o) (hns : s4.heap.Ns C fun _ => none) (os : s4.os = s.os) (bare : AllBare s4.gens) (hn : H C = none) :
  Inv (ak X scope (tg ++ cs) C fp s H) [] (capt tg.length ix σ) H s4 := by
 have clX : ∀ x c, (aV X.env scope.names []).lookup x = some c -> X.env.cells.lookup x = some c := fun x c e => by
  rcases cj (PySem.mem_of_lookup e) with h | h
  ·cases h
  ·exact h
 have hasC : ∀ x, (x, NameKind.free) ∈ scope.names -> ∃ c, (aV X.env scope.names []).lookup x = some c := fun x hx => by
  obtain ⟨c, e⟩ := I.ok.has x (S.out x hx)
  have m := fV (acc := []) hx e
  cases q : (aV X.env scope.names []).lookup x with
  | some c' => exact ⟨c', rfl⟩
  | none =>
   have := List.lookup_eq_none_iff.mp q (x, c) m
   simp at this
 refine ⟨⟨I.ok.mod, ?_, I.ok.glob, I.ok.blt, hC, fun x y c e1 e2 => I.ok.inj x y c (clX x c e1) (clX y c e2), fun x hx => ?_, fun x c h => ?_, I.ok.hd, I.ok.frames, .inl rfl, fun b hb => ⟨?_, fun x c e => ?_⟩, I.bs, Nat.le_trans I.ok.bsz I.sz, fun b o e hb => ?_, fun b hb hx => ?_, I.stack, I.stkFree⟩,
  os, bare, Un.kept hk, ⟨_, hns, fun i x v e1 e2 e3 => ?_⟩, fun x c e => ?_, hn, fun x c e => I.freeC x c (clX x c e), fun p hp => (by cases hp), I.hok.kept hk, ?_⟩
 ·show (relabel scope X.env).kind = .function
  exact S.kind
 ·have hx' : (relabel scope X.env).names.lookup x = some .cell \/ (relabel scope X.env).names.lookup x = some .free := hx
  rcases hx' with h | h
  ·exact hasC x (cu h (.inl rfl) S.nocell)
  ·exact hasC x (cu h (.inr rfl) S.nocell)
 ·cases h
 ·obtain ⟨o, e⟩ := ho b hb
  exact Nat.ne_of_lt (Nat.lt_of_lt_of_le (Heap.lt_size e) hC)
 ·exact (hf b hb).2.2.2.2.1 x c (clX x c e)
 ·obtain ⟨_, _, _, h, _⟩ := hf b hb
  rcases h with h | h
  ·exact I.ok.noex b o e h
  ·exact absurd (Nat.lt_of_lt_of_le (Heap.lt_size (I.ok.bs b o e).1) h) (Nat.lt_irrefl _)
 ·have hx : b ∈ frs X.stack := hx
  obtain ⟨_, h1, h2, _⟩ := hf b hb
  rcases List.mem_cons.mp (I.stkSub b hx) with h | h
  ·exact h1 h
  ·exact h2 h
 ·obtain ⟨hx, k, h1, h2⟩ := cD (X := X) S.at_ e1 e2
  obtain ⟨hx1, hx2⟩ := S.free x hx
  obtain ⟨m, hnm, hl⟩ := I.loc
  have ov := S.out x hx1
  obtain ⟨u, r, l⟩ := hl k x v h1 h2 (by rcases ov with z | z; exact .inr (.inl z); exact .inr (.inr z))
  refine ⟨u, r, ?_⟩
  rcases l with ⟨l, _⟩ | ⟨_, c, lc, ic⟩
  ·have l : X.env.scope.names.lookup x = some .local := l
   rcases ov with z | z <;> rw [z] at l <;> cases l
  ·obtain ⟨c', e'⟩ := hasC x hx1
   have := (clX x c' e').symm.trans lc
   cases this
   refine .inr ⟨bL hx2, c, e', ?_⟩
   obtain ⟨o, ho1, ho2⟩ := ic
   exact ⟨o, hk c o ho1, ho2⟩
 ·obtain ⟨v, o, ho1, ho2⟩ := I.cell x c (clX x c e)
  exact ⟨v, o, hk c o ho1, ho2⟩
 ·show (capt tg.length ix σ).length = (tg ++ cs).length
  have := congrArg List.length S.at_
  simp only [List.length_map] at this
  unfold capt
  simp [this]
theorem gT {use : Option (Value -> Sem Unit)} {Qc : Value -> Shared -> Prop} {pos' : Pos} {elt target iter : Expr} {ifs : List Expr} {scope : Scope} {pos : Pos} {tg cs : List Str} {wi : TI} {g : TG} {tc : TT} {te : TE} (S : aL X scope tg cs ix) (hcalm : X.calm = true) (kg : cr tg.length ix g) {Φ : Hp -> Prop} (hΦ : ∀ pins σ H s, Inv X pins σ H s -> Φ H)
    (hi : PI X target iter wi) (hg : ∀ C fp s H, PG (ak X scope (tg ++ cs) C fp s H) target g) (hc : ∀ C fp s H, Φ H -> PTs (ak X scope (tg ++ cs) C fp s H) ifs tc) (he : ∀ C fp s H, Φ H -> PE (ak X scope (tg ++ cs) C fp s H) elt te)
    (hs : ∀ x, foldedSetIterable iter X.env x = pure x) {pins : List (Addr × Obj)} {s : Shared} {σ : St} {H : Hp} {Q : VK} (I : Inv X pins σ H s) (h : gS wi tg.length ix g tc te σ H Q)
    (fin : ∀ D C H' s' v, Inv X pins σ H' s' -> Q (.ref D) H' -> dw X pins H' C -> (∃ m, s'.heap.Ns C m) -> compPost (model X.prog X.w) X.A X.xe use Qc (.ref D) C (.ok v) s') :
    wpAny (model X.prog X.w) X.A (comprehension (.ListComp elt [⟨target, iter, ifs, 0⟩] scope pos) scope X.env pos' (newList []) false (eval iter X.env) use) Qc X.xe s := by
  refine wpAny_comprehension_free (use := use) (cl := aV X.env scope.names []) rfl hs (cC fun n hn => I.ok.has n (S.out n hn)) S.kind S.names ?_
  refine wpAny_mono (hi pins s σ H _ I h) (fun v s1 h1 => wpAny_mono h1 (fun itv s2 h2 => ?_) fun _ _ e => e) fun _ _ e => e
  obtain ⟨it, fp, tn, J, H2, rfl, I2, T, st2, f2, W, ⟨m0, w0⟩, turn⟩ := h2
  refine wpAny_newObj_type (wpAny_newFunctionEnv S.nocell (by intro y hy; simp at hy) (fun h1 hns1 hsb1 => ?_) S.kind)
  dsimp only at hns1 hsb1 ⊢
  generalize hP : s2.heap.push { cls := .type "list", dict := none, data := .seq ([] : List Value).toArray } = P2 at hns1 hsb1 ⊢
  have hCs : P2.objs.size = s2.heap.objs.size + 1 := by rw [<- hP, Heap.size_push]
  have hDC : s2.heap.objs.size ≠ P2.objs.size := by rw [hCs]; exact Nat.ne_of_lt (Nat.lt_succ_self _)
  have hCle : s2.heap.objs.size <= P2.objs.size := by rw [hCs]; exact Nat.le_succ _
  generalize hCg : P2.objs.size = C at *
  have old : ∀ b o, s2.heap.get? b = some o -> h1.get? b = some o := fun b o e => hsb1.extBut b o (Nat.ne_of_lt (Nat.lt_of_lt_of_le (Heap.lt_size e) hCle)) (Heap.get?_push_of_some _ (hP ▸ Heap.get?_push_of_some _ e))
  generalize hDg : s2.heap.objs.size = D at *
  have hD0 : h1.get? D = some { cls := .type "list", data := .seq ([] : List Value).toArray 0 } := hsb1.extBut _ _ hDC (Heap.get?_push_of_some _ (hP ▸ hDg ▸ Heap.get?_push_size _ rfl))
  have nC : H2 C = none := I2.hok.fresh (by rw [hDg]; exact hCle)
  have nD : H2 D = none := I2.hok.fresh (by rw [hDg]; exact Nat.le_refl _)
  have fo : ∀ b ∈ fp, ∃ o, s2.heap.get? b = some o := fun b hb => let ⟨o, e, _⟩ := T.obj _ _ st2 b hb; ⟨o, e⟩
  have Dfp : D ∉ fp := fun z => by
    obtain ⟨o, e⟩ := fo D z
    have := Heap.lt_size e
    rw [hDg] at this
    exact absurd this (Nat.lt_irrefl _)
  have Dfs : D ∉ frs X.stack := fun z => by
    rcases List.mem_cons.mp (I2.stkSub D z) with e | e
    · have := I2.lt
      rw [<- e, hDg] at this
      exact absurd this (Nat.lt_irrefl _)
    · exact I2.nofs (by rw [hDg]; exact Nat.le_refl _) e
  have DcY : ∀ x c, (aV X.env scope.names []).lookup x = some c -> c ≠ D := fun x c e => by
    rcases cj (PySem.mem_of_lookup e) with h | h
    · cases h
    · exact (I2.fpOk (H' := H2) (b := D) (by rw [hDg]; exact Nat.le_refl _) nD).2.2.2.2.1 x c h
  -- the block's context
  have Yok : ∀ s4 : Shared, s4 = { s2 with heap := h1, toks := s2.toks + ([] : List (Str × Value)).length } -> Inv (ak X scope (tg ++ cs) C fp s2 H2) [] (capt tg.length ix σ) H2 s4 := by
    rintro s4 rfl
    exact eD S I2 f2 fo (by rw [hDg]; exact hCle) old (by simpa using hns1) rfl I2.bare nC
  -- the loop
  have loop : ∀ s4 : Shared, s4 = { s2 with heap := h1, toks := s2.toks + ([] : List (Str × Value)).length } ->
      codeAny (model X.prog X.w) X.A (.compLoop (.ListComp elt [⟨target, iter, ifs, 0⟩] scope pos) 0 (.ref it) (.ref D) (compEnvC scope (aV X.env scope.names []) C X.env)) (compPost (model X.prog X.w) X.A X.xe use Qc (.ref D) C) s4 := by
    intro s4 e4
    refine codeAny_loop rfl (fun n s' => ∃ i ys its k H', Inv (ak X scope (tg ++ cs) C fp s2 H2) [] (capt tg.length ix σ) H' s' /\ tn i s'.heap /\ (∀ b ∈ fp, H' b = none) /\ H' D = none /\ s'.heap.get? D = some { cls := .type "list", data := .seq (its : List Value).toArray k } /\ Vals ys its /\ W i n ys H')
      ?_ m0 ⟨0, [], [], 0, H2, Yok s4 e4, ?_, fun b hb => (f2 b hb).1, nD, by rw [e4]; exact hD0, .nil, w0⟩
    · rintro n s5 ⟨i, ys, its, k, H5, I5, st5, fr5, d5, o5, v5, w5⟩
      show wpAny _ X.A ((compTurn (.ListComp elt [⟨target, iter, ifs, 0⟩] scope pos) 0 (.ref it) (.ref D) (compEnvC scope (aV X.env scope.names []) C X.env)).onRaise (fun x => do noteFrame x (compEnvC scope (aV X.env scope.names []) C X.env); theTreesLotGoes x)) _ _ s5
      refine wpAny_noted ?_
      rw [compTurn_list]
      have pin0 : Inv (ak X scope (tg ++ cs) C fp s2 H2) [(D, { cls := .type "list", data := .seq its.toArray k })] (capt tg.length ix σ) H5 s5 := I5.pins_of fun p hp => by
        have e : p = (D, { cls := .type "list", data := .seq its.toArray k }) := by simpa using hp
        subst e
        exact ⟨o5, d5, hDC, Dfs, fun v z => by have z' : Data.seq _ _ = Data.cell v := z; cases z'⟩
      have fpY : ∀ {H' : Hp}, (∀ b ∈ fp, H' b = none) -> ∀ b ∈ fp, dw (ak X scope (tg ++ cs) C fp s2 H2) [(D, { cls := .type "list", data := .seq its.toArray k })] H' b := fun hn b hb =>
        ⟨hn b hb, (I5.ok.exf b hb).1, fun z => I5.ok.exfs b hb z, .inl hb, (I5.ok.exf b hb).2, fun p hp z => by
          have hp : p ∈ ([] : List (Addr × Obj)) ++ [(D, { cls := .type "list", data := .seq its.toArray k })] := hp
          have e : p = (D, { cls := .type "list", data := .seq its.toArray k }) := by simpa using hp
          subst e
          have z : D = b := z
          exact Dfp (z ▸ hb)⟩
      refine wpAny_bind (wpAny_standAt (wpAny_bind ?_))
      rcases turn i n ys H5 w5 with ⟨stop, hz, qn⟩ | ⟨go, hz, Nx, hN, step⟩
      · refine thn (T.done (ak X scope (tg ++ cs) C fp s2 H2) rfl rfl rfl hcalm i _ s5 _ H5 _ pin0 (fpY fr5) st5 stop) fun r s6 zr1 => ?_
        obtain ⟨hr, I6⟩ := zr1
        subst hr
        refine wpAny_pure ?_
        obtain ⟨mC, hnsC, _⟩ := id I6.loc
        have IX : Inv X pins σ H5 s6 := I2.call' (ch := fp) I6.os I6.base I6.hok I6.bare fun b hb => let ⟨_, a1, _, a3, a4, a5⟩ := f2 b hb; ⟨a3, a1, a4, a5⟩
        obtain ⟨_, b1, _, b3, b4, b5⟩ := I2.fpOk (H' := H5) (b := D) (by rw [hDg]; exact Nat.le_refl _) d5
        obtain ⟨_, c1, c2, c3, c4, c5⟩ := I2.fpOk (H' := H5) (b := C) (by rw [hDg]; exact hCle) I6.free
        have gD : s6.heap.get? D = some { cls := .type "list", data := .seq its.toArray k } := (I6.pin (D, { cls := .type "list", data := .seq its.toArray k }) (List.mem_append_right _ List.mem_cons_self)).1
        have IXD : Inv X pins σ (upd H5 D (.lst ys)) s6 := IX.track d5 (by rw [<- hDg]; exact I2.sz) b1 b4 b5 ⟨hz, its, k, v5, gD⟩
        exact fin D C _ s6 _ IXD (qn D d5) ⟨by rw [au (Ne.symm hDC)]; exact I6.free, c1, c2, c3, c4, c5⟩ ⟨mC, hnsC⟩
      · refine thn (T.item (ak X scope (tg ++ cs) C fp s2 H2) rfl rfl rfl hcalm i _ s5 _ H5 _ pin0 (fpY fr5) st5 go) fun r s6 zr1 => ?_
        obtain ⟨u, hr, h6⟩ := zr1
        subst hr
        refine wpAny_bind (thn h6 fun _ s7 zr1 => ?_)
        obtain ⟨x, H7, I7, r7, y7, st7, fr7⟩ := zr1
        have I7' := I7.pinned (fpY fr7) (T.obj _ _ st7)
        -- the next turn
        have again : ∀ {σ2 : St} {H8 : Hp} {s8 : Shared} {ys' : List V} {its' : List Value} {k' : Nat} , Inv (ak X scope (tg ++ cs) C fp s2 H2) [] σ2 H8 s8 -> (σ2.length = (capt tg.length ix σ).length /\ ∀ (i : Nat) (v : V), (capt tg.length ix σ)[i]? = some (some v) -> σ2[i]? = some (some v)) ->
            (∀ b ∈ fp, ∀ o, s7.heap.get? b = some o -> s8.heap.get? b = some o) -> (∀ b ∈ fp, H8 b = none) -> H8 D = none -> s8.heap.get? D = some { cls := .type "list", data := .seq its'.toArray k' } -> Vals ys' its' -> Nx ys' H8 ->
            ∃ m, m < n /\ ∃ i ys its k H', Inv (ak X scope (tg ++ cs) C fp s2 H2) [] (capt tg.length ix σ) H' s8 /\ tn i s8.heap /\ (∀ b ∈ fp, H' b = none) /\ H' D = none /\ s8.heap.get? D = some { cls := .type "list", data := .seq (its : List Value).toArray k } /\ Vals ys its /\ W i m ys H' := by
          intro σ2 H8 s8 ys' its' k' I8 kp fk fn dn dg vv nx
          obtain ⟨m', hm, w8⟩ := hN ys' H8 nx
          exact ⟨m', hm, i + 1, ys', its', k', H8, I8.weak kp.1.symm kp.2, T.keep _ _ _ st7 fk, fn, dn, dg, vv, w8⟩
        refine wpAny_bind (wpAny_mono (hg C fp s2 H2 _ s7 _ H7 x u _ I7' r7 (kg x σ H7 _ (step x H7 y7))) (fun _ s8 zr1 => ?_) fun _ _ z => z.elim)
        obtain ⟨σ8, H8, I8, kp8, q8⟩ := zr1
        refine wpAny_bind (wpAny_mono (hc C fp s2 H2 (hΦ _ _ _ _ I2) _ s8 σ8 H8 _ I8 q8) (fun ok s9 zr1 => ?_) fun _ _ z => z.elim)
        obtain ⟨H9, I9, q9⟩ := zr1
        have pinsOf : ∀ {σ' : St} {H' : Hp} {s' : Shared}, Inv (ak X scope (tg ++ cs) C fp s2 H2) ([(D, { cls := .type "list", data := .seq its.toArray k })] ++ bP fp s7.heap) σ' H' s' ->
            (∀ b ∈ fp, ∀ o, s7.heap.get? b = some o -> s'.heap.get? b = some o) /\ (∀ b ∈ fp, H' b = none) /\ H' D = none /\ s'.heap.get? D = some { cls := .type "list", data := .seq its.toArray k } := by
          intro σ' H' s' I'
          refine ⟨fun b hb o e => (I'.pin (b, o) (List.mem_append_right _ (List.mem_append_right _ (aG hb e)))).1, fun b hb => ?_, (I'.pin (D, { cls := .type "list", data := .seq its.toArray k }) (List.mem_append_right _ (List.mem_append_left _ List.mem_cons_self))).2.1, (I'.pin (D, { cls := .type "list", data := .seq its.toArray k }) (List.mem_append_right _ (List.mem_append_left _ List.mem_cons_self))).1⟩
          obtain ⟨o, e, d⟩ := T.obj _ _ st7 b hb
          exact (I'.pin (b, o) (List.mem_append_right _ (List.mem_append_right _ (aG hb e)))).2.1
        cases ok with
        | false =>
          obtain ⟨p1, p2, p3, p4⟩ := pinsOf I9
          exact wpAny_pure ⟨rfl, again (I9.pins_of fun p hp => nomatch hp) kp8 p1 p2 p3 p4 v5 q9⟩
        | true =>
          have q9 : te σ8 H9 fun v H6 => Nx (ys ++ [v]) H6 := q9
          refine wpAny_bind (wpAny_bind (wpAny_mono (he C fp s2 H2 (hΦ _ _ _ _ I2) _ s9 σ8 H9 _ I9 q9) (fun y s10 zr1 => ?_) fun _ _ z => z.elim))
          obtain ⟨v, H10, I10, rv, nx⟩ := zr1
          obtain ⟨p1, p2, p3, p4⟩ := pinsOf I10
          have hl5 := v5.length
          refine wpAny_bind (call_meets F.slot_list_append ⟨_, p4, rfl⟩ F.entry_list_append (F.args_list_append_2 _ _) (PySem.list_append D its.toArray k y (by rw [List.size_toArray]; lia)) ⟨p4, ?_⟩)
          have g10 := PySem.IsL.update p4 (·.push y)
          rw [show its.toArray.push y = (its ++ [y]).toArray by simp] at g10
          have I11 : Inv (ak X scope (tg ++ cs) C fp s2 H2) [] σ8 H10 s10 := I10.pins_of fun p hp => nomatch hp
          have I12 : Inv (ak X scope (tg ++ cs) C fp s2 H2) [] σ8 H10 { s10 with heap := s10.heap.update D (Obj.mapSeq (·.push y)) } :=
            I11.turned (t' := s10.toks) (fun b o hb e => (Heap.get?_update_other s10.heap (Obj.mapSeq (·.push y)) (Ne.symm hb)).trans e) p3 hDC (.inr (by show s2.heap.objs.size <= D; rw [hDg]; exact Nat.le_refl _)) DcY (fun p hp => nomatch hp)
          refine wpAny_pure (wpAny_pure ⟨rfl, again (its' := its ++ [y]) I12 kp8 (fun b hb o e => ?_) p2 p3 g10 (v5.append (.cons rv .nil)) nx⟩)
          exact (Heap.get?_update_other s10.heap (Obj.mapSeq (·.push y)) (fun z : D = b => Dfp (z ▸ hb))).trans (p1 b hb o e)
    · rw [e4]; exact T.keep _ _ _ st2 fun b _ o e => old b o e
  exact codeAny_compStart_list (loop _ rfl) (T.self _ 0 _ _ _ (T.keep _ _ _ st2 fun b _ o e => old b o e) (loop _ rfl))
theorem oh {elt target iter : Expr} {ifs : List Expr} {scope : Scope} {pos : Pos} {tg cs : List Str} {wi : TI} {g : TG} {tc : TT} {te : TE} (S : aL X scope tg cs ix) (hcalm : X.calm = true) (kg : cr tg.length ix g) {Φ : Hp -> Prop} (hΦ : ∀ pins σ H s, Inv X pins σ H s -> Φ H)
  (hi : PI X target iter wi) (hg : ∀ C fp s H, PG (ak X scope (tg ++ cs) C fp s H) target g) (hc : ∀ C fp s H, Φ H -> PTs (ak X scope (tg ++ cs) C fp s H) ifs tc) (he : ∀ C fp s H, Φ H -> PE (ak X scope (tg ++ cs) C fp s H) elt te)
  (hs : ∀ x, foldedSetIterable iter X.env x = pure x := by intro _; rfl) : PE X (.ListComp elt [⟨target, iter, ifs, 0⟩] scope pos) (gS wi tg.length ix g tc te) := by
 intro pins s σ H Q I h
 rw [eval_ListComp]
 refine gT S hcalm kg hΦ hi hg hc he hs I h fun D C H' s' v I' q fp z => ?_
 obtain ⟨f0, c1, _, c3, c4, c5⟩ := fp
 obtain ⟨m, hm⟩ := z
 exact ⟨m, hm, fun h' sb => ⟨.ref D, H', I'.turned (t' := s'.toks) (fun b o hb e => (sb.2 b hb).trans e) f0 c1 c3 c4 c5, rfl, q⟩⟩
end
end L2
end
section
namespace L2
open PySem PySem.Spec PyProof.Rows
section
variable {X : Cx} {pins : List (Addr × Obj)} {σ : St} {H : Hp} {s : Shared}
theorem Inv.trackN {D : Addr} {o : HO} (I : Inv X pins σ H s) (hn : H D = none) (hs : X.s₀.heap.get? D = none) (hL : D ≠ X.env.locals) (hc : ∀ x c, X.env.cells.lookup x = some c -> c ≠ D) (hp : ∀ p ∈ X.pn ++ pins, p.1 ≠ D)
  (new : aY X.prog X.w (upd H D o) s.heap D o) : Inv X pins σ (upd H D o) s := by
 have nb : ∀ b ob, X.s₀.heap.get? b = some ob -> b ≠ D := fun b ob e z => by subst z; rw [hs] at e; cases e
 have nt : ∀ b u, H b = some u -> b ≠ D := fun b u e => aX e hn
 refine ⟨I.ok, I.os, I.bare, ⟨I.base.keep, I.base.slot, fun b ob e n hx => by rw [au (nb b ob e)]; exact I.base.free b ob e n hx, I.base.there, fun b xs e => ?_, fun b ob u e => ?_, fun b ps e => ?_⟩, I.loc, I.cell, by rw [au hL.symm]; exact I.free, fun x c e => by rw [au (hc x c e)]; exact I.freeC x c e, fun p hpp => ?_, fun b u e => ?_, I.len⟩
 ·have q := I.base.tups b xs e
  rw [au (nt b _ q)]; exact q
 ·have q := I.base.frzs b ob u e
  rw [au (nt b _ q)]; exact q
 ·obtain ⟨more, q⟩ := I.base.tbls b ps e
  exact ⟨more, by rw [au (nt b _ q)]; exact q⟩
 ·obtain ⟨a, b, c, d, e⟩ := I.pin p hpp
  exact ⟨a, by rw [au (hp p hpp)]; exact b, c, d, e⟩
 ·by_cases hb : b = D
  ·subst hb; rw [aw] at e; cases e; exact new
  ·rw [au hb] at e
   exact (I.hok b u e).stay (fun _ _ _ q => q) (fun c q => by rw [au (nt c _ q)]; exact q) fun c xs q => by rw [au (nt c _ q)]; exact q
end
end L2
end
section
namespace L2
open PySem PySem.Spec PyProof.Rows
theorem aY.there {P : Program} {w : World} {h : Heap} {a : Addr} {o : HO} (x : aY P w H h a o) : ∃ ob, h.get? a = some ob := by
 cases o with
 | lst xs => obtain ⟨_, _, _, _, e⟩ := x; exact ⟨_, e⟩
 | tup xs => obtain ⟨_, _, _, ob, e, _⟩ := x; exact ⟨_, e⟩
 | dK kvs => obtain ⟨_, _, _, _, o, _, _, e, _⟩ := x; exact ⟨_, e⟩
 | dT kvs => obtain ⟨_, _, _, _, o, _, _, e, _⟩ := x; exact ⟨_, e⟩
 | set S n => obtain ⟨o, _, _, _, e, _⟩ := x; exact ⟨_, e⟩
 | ins C dx fs => obtain ⟨_, _, _, e, _⟩ := x; exact ⟨_, e⟩
 | own y => exact x
 | xd fs => obtain ⟨_, ⟨_, _, _, e, _⟩, _⟩ := x; exact ⟨_, e⟩
 | rng lo hi => obtain ⟨_, _, _, e⟩ := x; exact ⟨_, e⟩
 | frz ob u => obtain ⟨e, _⟩ := x; exact ⟨_, e⟩
 | tbl ps => obtain ⟨_, e, _⟩ := x; exact ⟨_, e⟩
 | met f y => exact ⟨_, x⟩
 | ext φ => exact x.2.1
end L2
end
section
namespace L2
open PySem PySem.Spec PyProof.Rows
noncomputable def iC (scope osc : Scope) (N tg cs : List Str) (ix : List Nat) : Prop :=
 (∀ y ∈ scope.names, y.2 ≠ .cell) /\ (∀ y ∈ scope.names, y.2 = .local -> scope.names.lookup y.1 = some .local) /\ (tg ++ cs).Nodup /\ ix.map (fun i => N[i]?) = cs.map some /\
 (∀ x ∈ cs, (x, NameKind.free) ∈ scope.names /\ scope.names.lookup x = some .free) /\ ∀ y ∈ scope.names, y.2 = .free -> osc.names.lookup y.1 = some .cell \/ osc.names.lookup y.1 = some .free
noncomputable instance (scope osc : Scope) (N tg cs : List Str) (ix : List Nat) : Decidable (iC scope osc N tg cs ix) := by unfold iC; infer_instance
theorem aN {X : Cx} {scope : Scope} {tg cs : List Str} (osc : Scope) (N : List Str) (h : iC scope osc N tg cs ix) (hk : scope.kind = .function := by rfl) (ho : X.env.scope = osc := by rfl) (hN : X.N = N := by rfl) : aL X scope tg cs ix := by
 obtain ⟨h1, h2, h3, h4, h5, h6⟩ := h
 exact ⟨hk, h1, h2, h3, by rw [hN]; exact h4, h5, fun x hx => by rw [ho]; exact h6 (x, .free) hx rfl⟩
end L2
end
section
namespace L2
open PySem PySem.Spec PyProof.Rows
section
variable {X : Cx} {pins : List (Addr × Obj)} {σ : St} {H H1 : Hp} {s : Shared}
theorem oi {elt target iter : Expr} {ifs : List Expr} {scope : Scope} {pos spos py : Pos} {yy : Str} {ii : Nat} {tg cs : List Str} {wi : TI} {g : TG} {tc : TT} {te : TE} (hN0 : X.N.Nodup) (hi0 : X.N[ii]? = some yy) (hx0 : Loc X.env.scope yy)
  (S : aL X scope tg cs ix) (hcalm : X.calm = true) (kg : cr tg.length ix g)
  (hi : PI X target iter wi) (hg : ∀ C fp s H, PG (ak X scope (tg ++ cs) C fp s H) target g) (hc : ∀ C fp s H, PTs (ak X scope (tg ++ cs) C fp s H) ifs tc) (he : ∀ C fp s H, PE (ak X scope (tg ++ cs) C fp s H) elt te)
  (hf0 : X.fn yy = true \/ X.env.scope.names.lookup yy = some .local)
  (hsw : swapsWith (.ListComp elt [⟨target, iter, ifs, 0⟩] scope pos) (some (.Name yy py)) spos.line X.env = pure true)
  (hs : ∀ x, foldedSetIterable iter X.env x = pure x := by intro _; rfl) : PS X (.Assign [.Name yy py] (.ListComp elt [⟨target, iter, ifs, 0⟩] scope pos) spos) (cU (gS wi tg.length ix g tc te) (aZ ii)) := by
 intro pins s σ H Dn I h
 rw [exec_Assign_Name_used _ _ _ _ hsw]
 refine wpAny_bind (wpAny_standAt (wpAny_bind ?_))
 show wpAny _ X.A (do let _ <- comprehension (.ListComp elt [⟨target, iter, ifs, 0⟩] scope pos) scope X.env _ (newList []) false (eval iter X.env) (some (assign (.Name yy py) X.env))) _ _ s
 refine wpAny_bind (wpAny_mono (gT (use := some (assign (.Name yy py) X.env)) (Qc := fun _ s' => SP X pins Dn .next s') S hcalm kg (Φ := fun _ => True) (fun _ _ _ _ _ => trivial) hi hg (fun C fp s H _ => hc C fp s H) (fun C fp s H _ => he C fp s H) hs I h fun D C H' s' v I' q fp z => ?_) (fun _ s' hq => wpAny_pure (wpAny_pure hq)) fun _ _ e => e)
 obtain ⟨f0, c1, _, c3, c4, c5⟩ := fp
 obtain ⟨m, hm⟩ := z
 show wpAny _ X.A (assign (.Name yy py) X.env (.ref D)) _ _ s'
 refine wpAny_assign_Name (eM (v := .ref D) I' hN0 hi0 hx0 rfl (fun s'' I'' zq => ?_) hf0)
 obtain ⟨a, sb, ha⟩ := zq
 have hCa : C ≠ a := by
  rcases ha with rfl | ha
  ·exact c1
  ·exact (c4 _ _ ha).symm
 exact ⟨m, hm.sameBut sb hCa, fun h' sb' => ⟨_, _, I''.turned (t' := s''.toks) (it := C) (fun b o hb e => (sb'.2 b hb).trans e) f0 c1 c3 c4 c5, q⟩⟩
end
end L2
end
section
namespace VL
open PySem L2
noncomputable def IsM : Option HO -> Prop
 | some (.lst _) => True
 | some (.ext _) => True
 | _ => False
theorem IsM.ne {o : Option HO} (h : IsM o) : o ≠ none := by rintro rfl; exact h
noncomputable abbrev AP := Addr -> Prop
noncomputable abbrev FP := Option Addr -> Prop
structure zT where
 ok : PySem.W.Frag -> AP -> FP -> Hp -> Addr -> Prop
 mono : ∀ {K : PySem.W.Frag} {N N' : AP} {F F' : FP} {H H' : Hp} {v : Addr}, (∀ a, N a -> H a ≠ none -> N' a /\ H' a = H a) -> (∀ o, F o -> F' o) -> ok K N F H v -> ok K N' F' H' v
 avoid : ∀ {K : PySem.W.Frag} {N N' : AP} {F : FP} {H : Hp} {v : Addr}, (∀ a, ¬N' a -> IsM (H a)) -> (∀ a, F (some a) -> N' a) -> ok K N F H v -> ok K N' F H v
 both : ∀ {K : PySem.W.Frag} {N : AP} {F F' : FP} {H : Hp} {v : Addr}, (∀ a, N a -> IsM (H a) -> F (some a) -> F' (some a)) -> (F none -> F' none) -> ok K N F H v -> ok K N F' H v
 reN : ∀ {K : PySem.W.Frag} {N N' : AP} {F : FP} {H : Hp} {v : Addr}, (∀ a, IsM (H a) -> N' a) -> ok K N F H v -> ok K N' F H v
inductive D where
 | int (i : Int) | bl (b : Bool) | non | str (x : Str) | ty (n : String) | tup (ds : List D) | lst (ds : List D) | dic (ks : List (List Int)) (vs : List D) | exc (c : Value) | dib (kds : List D) (vs : List D) | oth (k : zT)
noncomputable def kT (ms : List Int) : D := .tup (ms.map .int)
noncomputable def B8 : D -> Int
 | .int i => i
 | .bl b => if b then 1 else 0
 | _ => 0
noncomputable def xf : D -> Bool
 | .int _ => true
 | .bl _ => true
 | _ => false
noncomputable def kN : D -> List Int
 | .tup ds => ds.map B8
 | _ => []
noncomputable def B9 : D -> Bool
 | .tup ds => ds.all xf
 | _ => false
noncomputable def Any : AP := fun _ => True
noncomputable def AnyF : FP := fun _ => True
noncomputable def Fr (H0 : Hp) : FP := fun o => ∃ a, o = some a /\ H0 a = none
mutual
inductive Rep (K : PySem.W.Frag) (N : AP) (F : FP) (H : Hp) : V -> D -> Prop where
 | int (i : Int) : Rep K N F H (.int i) (.int i)
 | bl (b : Bool) : Rep K N F H (.bl b) (.bl b)
 | non : Rep K N F H .non .non
 | str (x : Str) : Rep K N F H (.str x) (.str x)
 | ty (x : String) : Rep K N F H (.ty x) (.ty x)
 | tup {a : Addr} {vs : List V} {ds : List D} (n : N a) (h : Rd H a (.tup vs)) (r : Reps K N F H vs ds) : Rep K N F H (.ref a) (.tup ds)
 | tupK {a : Addr} {vs : List V} {ds : List D} (h : SqT K (fun _ => none) a vs) (r : Reps K N F H vs ds) : Rep K N F H (.ref a) (.tup ds)
 | lst {a : Addr} {vs : List V} {ds : List D} (n : N a) (f : F (some a)) (h : H a = some (.lst vs)) (r : Reps K N F H vs ds) : Rep K N F H (.ref a) (.lst ds)
 | lstF {a : Addr} {vs : List V} {ds : List D} {o : Obj} (n : N a) (f : F none) (h : H a = some (.frz o (.lst vs))) (r : Reps K N F H vs ds) : Rep K N F H (.ref a) (.lst ds)
 | lstK {a : Addr} {vs : List V} {ds : List D} (f : F none) (h : SqL K (fun _ => none) a vs) (r : Reps K N F H vs ds) : Rep K N F H (.ref a) (.lst ds)
 | dic {a : Addr} {ob : Obj} {es : List (List Int × Addr × V)} {ks : List (List Int)} {ds : List D} (n : N a) (f : F (some a)) (h : H a = some (bR a ob es)) (e : es.map (·.1) = ks) (rk : Reps K N F H (es.map fun x => .ref x.2.1) (ks.map kT)) (r : Reps K N F H (es.map (·.2.2)) ds) : Rep K N F H (.ref a) (.dic ks ds)
 | exc {x : Addr} {c : Value} {o : Obj} (n : N x) (h : H x = some (.frz o (.own x))) (e : o.cls = c) : Rep K N F H (.ref x) (.exc c)
 | dib {a : Addr} {ob : Obj} {es : List (List Int × Addr × V)} {kds : List D} {ds : List D} (n : N a) (f : F (some a)) (h : H a = some (bR a ob es)) (e : es.map (·.1) = kds.map kN) (g : kds.all B9 = true) (rk : Reps K N F H (es.map fun x => .ref x.2.1) kds) (r : Reps K N F H (es.map (·.2.2)) ds) : Rep K N F H (.ref a) (.dib kds ds)
 | oth {a : Addr} {k : zT} (h : k.ok K N F H a) : Rep K N F H (.ref a) (.oth k)
inductive Reps (K : PySem.W.Frag) (N : AP) (F : FP) (H : Hp) : List V -> List D -> Prop where
 | nil : Reps K N F H [] []
 | cons {v : V} {d : D} {vs : List V} {ds : List D} (h : Rep K N F H v d) (t : Reps K N F H vs ds) : Reps K N F H (v :: vs) (d :: ds)
end
section
variable {K : PySem.W.Frag} {N N' : AP} {F F' : FP} {H H' H0 : Hp}
theorem Rd.there {a : Addr} {u : HO} (h : Rd H a u) : H a ≠ none := by rcases h with h | ⟨o, h⟩ <;> simp [h]
theorem Rd.keep {a : Addr} {u : HO} (h : Rd H a u) (e : H' a = H a) : Rd H' a u := by
 rcases h with h | ⟨o, h⟩
 ·exact .inl (e.trans h)
 ·exact .inr ⟨o, e.trans h⟩
mutual
theorem Rep.mono (hN : ∀ a, N a -> H a ≠ none -> N' a /\ H' a = H a) (hF : ∀ o, F o -> F' o) {v : V} {d : D} : Rep K N F H v d -> Rep K N' F' H' v d
 | .int i => .int i
 | .bl i => .bl i
 | .non => .non
 | .str i => .str i
 | .ty i => .ty i
 | .tup n h r => .tup (hN _ n (Rd.there h)).1 (Rd.keep h (hN _ n (Rd.there h)).2) (Reps.mono hN hF r)
 | .tupK h r => .tupK h (Reps.mono hN hF r)
 | .lst n f h r => .lst (hN _ n (by simp [h])).1 (hF _ f) ((hN _ n (by simp [h])).2.trans h) (Reps.mono hN hF r)
 | .lstF n f h r => .lstF (hN _ n (by simp [h])).1 (hF _ f) ((hN _ n (by simp [h])).2.trans h) (Reps.mono hN hF r)
 | .lstK f h r => .lstK (hF _ f) h (Reps.mono hN hF r)
 | .dic n f h e rk r => .dic (hN _ n (by simp [h])).1 (hF _ f) ((hN _ n (by simp [h])).2.trans h) e (Reps.mono hN hF rk) (Reps.mono hN hF r)
 | .exc n h e => .exc (hN _ n (by simp [h])).1 ((hN _ n (by simp [h])).2.trans h) e
 | .dib n f h e g rk r => .dib (hN _ n (by simp [h])).1 (hF _ f) ((hN _ n (by simp [h])).2.trans h) e g (Reps.mono hN hF rk) (Reps.mono hN hF r)
 | .oth (k := k) h => .oth (k.mono hN hF h)
theorem Reps.mono (hN : ∀ a, N a -> H a ≠ none -> N' a /\ H' a = H a) (hF : ∀ o, F o -> F' o) {vs : List V} {ds : List D} : Reps K N F H vs ds -> Reps K N' F' H' vs ds
 | .nil => .nil
 | .cons h t => .cons (Rep.mono hN hF h) (Reps.mono hN hF t)
end
theorem Rep.any {d : D} (h : Rep K N F H v d) : Rep K Any AnyF H v d := h.mono (fun _ _ _ => ⟨trivial, rfl⟩) (fun _ _ => trivial)
theorem Reps.any {ds : List D} (h : Reps K N F H vs ds) : Reps K Any AnyF H vs ds := h.mono (fun _ _ _ => ⟨trivial, rfl⟩) (fun _ _ => trivial)
mutual
theorem Rep.avoid (h1 : ∀ a, ¬N' a -> IsM (H a)) (h2 : ∀ a, F (some a) -> N' a) {v : V} {d : D} : Rep K N F H v d -> Rep K N' F H v d
 | .int i => .int i
 | .bl i => .bl i
 | .non => .non
 | .str i => .str i
 | .ty i => .ty i
 | .tup (a := a) n h r => .tup (Classical.byContradiction fun z => by
   have e := h1 a z
   rcases h with h | ⟨o, h⟩ <;> rw [h] at e <;> exact e) h (Reps.avoid h1 h2 r)
 | .tupK h r => .tupK h (Reps.avoid h1 h2 r)
 | .lst n f h r => .lst (h2 _ f) f h (Reps.avoid h1 h2 r)
 | .lstF (a := a) n f h r => .lstF (Classical.byContradiction fun z => by
   have e := h1 a z
   rw [h] at e; exact e) f h (Reps.avoid h1 h2 r)
 | .lstK f h r => .lstK f h (Reps.avoid h1 h2 r)
 | .dic n f h e rk r => .dic (h2 _ f) f h e (Reps.avoid h1 h2 rk) (Reps.avoid h1 h2 r)
 | .exc (x := a) n h e => .exc (Classical.byContradiction fun z => by
   have e := h1 a z
   rw [h] at e; exact e) h e
 | .dib n f h e g rk r => .dib (h2 _ f) f h e g (Reps.avoid h1 h2 rk) (Reps.avoid h1 h2 r)
 | .oth (k := k) h => .oth (k.avoid h1 h2 h)
theorem Reps.avoid (h1 : ∀ a, ¬N' a -> IsM (H a)) (h2 : ∀ a, F (some a) -> N' a) {vs : List V} {ds : List D} : Reps K N F H vs ds -> Reps K N' F H vs ds
 | .nil => .nil
 | .cons h t => .cons (Rep.avoid h1 h2 h) (Reps.avoid h1 h2 t)
end
mutual
noncomputable def flat : D -> Bool
 | .lst _ => false
 | .dic _ _ => false
 | .dib _ _ => false
 | .oth _ => false
 | .tup ds => flats ds
 | _ => true
noncomputable def flats : List D -> Bool
 | [] => true
 | d :: r => flat d && flats r
end
theorem e9 : ∀ ms : List Int, flats (ms.map D.int) = true
 | [] => rfl
 | _ :: r => by simp [flats, flat, e9 r]
theorem fW : ∀ ks : List (List Int), flats (ks.map kT) = true
 | [] => rfl
 | _ :: r => by simp [flats, kT, flat, e9, fW r]
mutual
theorem Rep.flat {v : V} {d : D} : Rep K N F H v d -> VL.flat d = true -> Rep K N F' H v d := fun hh ee => by
 cases hh with
 | int i => exact .int i
 | bl i => exact .bl i
 | non => exact .non
 | str i => exact .str i
 | ty i => exact .ty i
 | tup n h r => have e := ee; exact .tup n h (Reps.flat r (by simpa [VL.flat] using e))
 | tupK h r => have e := ee; exact .tupK h (Reps.flat r (by simpa [VL.flat] using e))
 | lst n f h r => have e := ee; simp [VL.flat] at e
 | lstF n f h r => have e := ee; simp [VL.flat] at e
 | lstK f h r => have e := ee; simp [VL.flat] at e
 | dic n f h _ _ r => have e := ee; simp [VL.flat] at e
 | exc n h e0 => exact .exc n h e0
 | dib n f h _ _ _ r => have e := ee; simp [VL.flat] at e
 | oth h => have e := ee; simp [VL.flat] at e
theorem Reps.flat {vs : List V} {ds : List D} : Reps K N F H vs ds -> flats ds = true -> Reps K N F' H vs ds := fun hh ee => by
 cases hh with
 | nil => exact .nil
 | cons h t =>
  have e := ee
  simp only [flats, Bool.and_eq_true] at e
  exact .cons (Rep.flat h e.1) (Reps.flat t e.2)
end
theorem Reps.length : ∀ {vs : List V} {ds : List D}, Reps K N F H vs ds -> vs.length = ds.length
 | _, _, .nil => rfl
 | _, _, .cons _ t => by simp [Reps.length t]
theorem Reps.get : ∀ {vs : List V} {ds : List D} {i : Nat} {v : V}, Reps K N F H vs ds -> vs[i]? = some v -> ∃ d, ds[i]? = some d /\ Rep K N F H v d
 | _, _, 0, _, .cons h _, e => by simp at e; subst e; exact ⟨_, rfl, h⟩
 | _, _, i + 1, v, .cons _ t, e => by
  obtain ⟨d, h1, h2⟩ := Reps.get (i := i) (v := v) t (by simpa using e)
  exact ⟨d, by simpa using h1, h2⟩
 | _, _, _, _, .nil, e => by simp at e
theorem Reps.getD : ∀ {vs : List V} {ds : List D} {i : Nat} {d : D}, Reps K N F H vs ds -> ds[i]? = some d -> ∃ v, vs[i]? = some v /\ Rep K N F H v d
 | _, _, 0, _, .cons h _, e => by simp at e; subst e; exact ⟨_, rfl, h⟩
 | _, _, i + 1, v, .cons _ t, e => by
  obtain ⟨d, h1, h2⟩ := Reps.getD (i := i) (d := v) t (by simpa using e)
  exact ⟨d, by simpa using h1, h2⟩
 | _, _, _, _, .nil, e => by simp at e
theorem Reps.append : ∀ {vs ws : List V} {ds es : List D}, Reps K N F H vs ds -> Reps K N F H ws es -> Reps K N F H (vs ++ ws) (ds ++ es)
 | _, _, _, _, .nil, s => s
 | _, _, _, _, .cons h t, s => .cons h (Reps.append t s)
theorem Reps.set {d : D} (h : Rep K N F H v d) : ∀ {vs : List V} {ds : List D} (i : Nat), Reps K N F H vs ds -> Reps K N F H (vs.set i v) (ds.set i d)
 | _, _, _, .nil => by simpa using .nil
 | _, _, 0, .cons _ t => by simpa using .cons h t
 | _, _, i + 1, .cons q t => by simpa using .cons q (Reps.set h i t)
theorem Reps.ints : ∀ {ns : List Int}, Reps K N F H (ns.map V.int) (ns.map D.int)
 | [] => .nil
 | _ :: r => .cons (.int _) (Reps.ints (ns := r))
theorem Reps.toInts : ∀ {vs : List V} {ns : List Int}, Reps K N F H vs (ns.map D.int) -> vs = ns.map V.int
 | _, [], .nil => rfl
 | _, n :: ns, .cons h t => by cases h; rw [Reps.toInts t]; rfl
theorem eE {a : Addr} (h : SqT K (fun _ => none) a vs) : SqT K H a vs := by
 rcases h with (h | ⟨o, h⟩) | h
 ·cases h
 ·cases h
 ·exact .inr h
theorem fX {a : Addr} (h : SqL K (fun _ => none) a vs) : SqL K H a vs := by
 rcases h with (h | ⟨o, h⟩) | h
 ·cases h
 ·cases h
 ·exact .inr h
theorem Rep.sqT {ds : List D} (h : Rep K N F H v (.tup ds)) : ∃ a vs, v = .ref a /\ SqT K H a vs /\ Reps K N F H vs ds := by
 cases h with
 | tup n h r => exact ⟨_, _, rfl, .inl h, r⟩
 | tupK h r => exact ⟨_, _, rfl, eE h, r⟩
theorem Rep.sqL {ds : List D} (h : Rep K N F H v (.lst ds)) : ∃ a vs, v = .ref a /\ SqL K H a vs /\ Reps K N F H vs ds := by
 cases h with
 | lst n f h r => exact ⟨_, _, rfl, .inl (.inl h), r⟩
 | lstF n f h r => exact ⟨_, _, rfl, .inl (.inr ⟨_, h⟩), r⟩
 | lstK f h r => exact ⟨_, _, rfl, fX h, r⟩
theorem Rep.of_sqL {a : Addr} {ds : List D} (h : SqL K H a vs) (n : N a) (f : ∀ o, F o) (r : Reps K N F H vs ds) : Rep K N F H (.ref a) (.lst ds) := by
 rcases h with (h | ⟨o, h⟩) | h
 ·exact .lst n (f _) h r
 ·exact .lstF n (f _) h r
 ·exact .lstK (f _) (.inr h) r
end
structure Ca where
 ok : PySem.W.Frag -> Hp -> AP -> Hp -> Addr -> Prop
 ism : ∀ {K : PySem.W.Frag} {H0 : Hp} {N : AP} {H : Hp} {a : Addr}, ok K H0 N H a -> IsM (H a)
 mono : ∀ {K : PySem.W.Frag} {H0 : Hp} {N N' : AP} {H H' : Hp} {a : Addr}, (∀ b, N b -> H b ≠ none -> N' b /\ H' b = H b) -> H' a = H a -> ok K H0 N H a -> ok K H0 N' H' a
inductive Sl where
 | no | val (d : D) | fre (d : D) | own (ds : List D) | pen (ad : Option Addr) (ns : List Int) | odi (ks : List (List Int)) (vs : List D) | obj (k : Ca)
noncomputable def Sl.mut : Sl -> Bool
 | .own _ => true
 | .pen _ _ => true
 | .odi _ _ => true
 | .obj _ => true
 | _ => false
noncomputable def Mo (Z : AP) (σ : St) (S : List Sl) (a : Addr) : Prop := (∃ (i : Nat) (s : Sl), S[i]? = some s /\ s.mut = true /\ σ[i]? = some (some (V.ref a))) \/ Z a
noncomputable abbrev NM (Z : AP) (σ : St) (S : List Sl) : AP := fun a => ¬Mo Z σ S a
noncomputable def mQ (K : PySem.W.Frag) (H0 : Hp) (N : AP) (H : Hp) (o : Option V) : Sl -> Prop
 | .no => True
 | .val d => ∃ v, o = some v /\ Rep K N AnyF H v d
 | .fre d => ∃ v, o = some v /\ Rep K N (Fr H0) H v d
 | .own ds => ∃ a vs, o = some (.ref a) /\ H a = some (.lst vs) /\ H0 a = none /\ Reps K N (Fr H0) H vs ds
 | .pen ad ns => ∃ a, o = some (.ref a) /\ (∀ b, ad = some b -> a = b) /\ H a = some (.lst (ns.map .int))
 | .odi ks ds => ∃ a es, o = some (.ref a) /\ (∃ ob, H a = some (bR a ob es)) /\ H0 a = none /\ (es.map (·.1) = ks /\ Reps K N AnyF H (es.map fun x => V.ref x.2.1) (ks.map kT)) /\ Reps K N (Fr H0) H (es.map (·.2.2)) ds
 | .obj k => ∃ a, o = some (.ref a) /\ H0 a = none /\ k.ok K H0 N H a
structure OK (K : PySem.W.Frag) (H0 : Hp) (Z : AP) (σ : St) (H : Hp) (S : List Sl) : Prop where
 len : σ.length = S.length
 at_ : ∀ (i : Nat) (o : Option V) (s : Sl), σ[i]? = some o -> S[i]? = some s -> mQ K H0 (NM Z σ S) H o s
 inj : ∀ (i j : Nat) (a : Addr) (s t : Sl), S[i]? = some s -> S[j]? = some t -> s.mut = true -> t.mut = true -> σ[i]? = some (some (V.ref a)) -> σ[j]? = some (some (V.ref a)) -> i = j
 dom : ∀ a, H a = none -> H0 a = none
 zl : ∀ a, Z a -> IsM (H a)
 nz : ∀ (i : Nat) (s : Sl) (a : Addr), S[i]? = some s -> s.mut = true -> σ[i]? = some (some (V.ref a)) -> ¬Z a
noncomputable def Step (Z : AP) (σ : St) (S : List Sl) (H : Hp) (σ' : St) (S' : List Sl) (H' : Hp) : Prop := (∀ a, NM Z σ S a -> H a ≠ none -> H' a = H a /\ NM Z σ' S' a) /\ (∀ a, H' a = none -> H a = none) /\ ∀ a, Z a -> H a ≠ none -> H' a = H a
section
variable {K : PySem.W.Frag} {N N' : AP} {F F' : FP} {H H' H'' H0 : Hp} {Z : AP} {σ σ' σ'' : St} {S S' S'' : List Sl}
theorem Step.refl : Step Z σ S H σ S H := ⟨fun _ n _ => ⟨rfl, n⟩, fun _ h => h, fun _ _ _ => rfl⟩
theorem Step.trans (a : Step Z σ S H σ' S' H') (b : Step Z σ' S' H' σ'' S'' H'') : Step Z σ S H σ'' S'' H'' :=
 ⟨fun x n h => by
  obtain ⟨e1, n1⟩ := a.1 x n h
  obtain ⟨e2, n2⟩ := b.1 x n1 (by rw [e1]; exact h)
  exact ⟨e2.trans e1, n2⟩, fun x h => a.2.1 x (b.2.1 x h), fun x z h => by
  have e1 := a.2.2 x z h
  exact (b.2.2 x z (by rw [e1]; exact h)).trans e1⟩
theorem Rep.step {d : D} (h : Rep K (NM Z σ S) F H v d) (st : Step Z σ S H σ' S' H') : Rep K (NM Z σ' S') F H' v d := h.mono (fun a n e => ⟨(st.1 a n e).2, (st.1 a n e).1⟩) fun _ x => x
theorem Reps.step {ds : List D} (h : Reps K (NM Z σ S) F H vs ds) (st : Step Z σ S H σ' S' H') : Reps K (NM Z σ' S') F H' vs ds := h.mono (fun a n e => ⟨(st.1 a n e).2, (st.1 a n e).1⟩) fun _ x => x
theorem Rep.stp {d : D} (h : Rep K (NM Z σ S) F H v d) (st : ∀ a, NM Z σ S a -> H a ≠ none -> H' a = H a /\ NM Z σ' S' a) : Rep K (NM Z σ' S') F H' v d := h.mono (fun a n e => ⟨(st a n e).2, (st a n e).1⟩) fun _ x => x
theorem Reps.stp {ds : List D} (h : Reps K (NM Z σ S) F H vs ds) (st : ∀ a, NM Z σ S a -> H a ≠ none -> H' a = H a /\ NM Z σ' S' a) : Reps K (NM Z σ' S') F H' vs ds := h.mono (fun a n e => ⟨(st a n e).2, (st a n e).1⟩) fun _ x => x
theorem OK.mo (k : OK K H0 Z σ H S) {a : Addr} (h : Mo Z σ S a) : IsM (H a) := by
 rcases h with ⟨i, s, e1, e2, e3⟩ | h
 case inr => exact k.zl a h
 have q := k.at_ i _ s e3 e1
 cases s with
 | no => cases e2
 | val d => cases e2
 | fre d => cases e2
 | own ds => obtain ⟨b, vs, h1, h2, _⟩ := q; cases h1; rw [h2]; trivial
 | pen ad ns => obtain ⟨b, h1, _, h2⟩ := q; cases h1; rw [h2]; trivial
 | odi ks ds => obtain ⟨b, kvs, h1, ⟨ob, h2⟩, _⟩ := q; cases h1; rw [h2]; trivial
 | obj k => obtain ⟨b, h1, _, h2⟩ := q; cases h1; exact k.ism h2
theorem OK.grow (k : OK K H0 Z σ H S) (h : ∀ a, H a ≠ none -> H' a = H a) : OK K H0 Z σ H' S where
 len := k.len
 inj := k.inj
 nz := k.nz
 zl := fun a z => by
  have e := k.zl a z
  rw [h a e.ne]; exact e
 dom := fun a e => k.dom a (Classical.byContradiction fun z => by rw [h a z] at e; exact z e)
 at_ := fun i o s e1 e2 => by
  have q := k.at_ i o s e1 e2
  have hm : ∀ a, NM Z σ S a -> H a ≠ none -> NM Z σ S a /\ H' a = H a := fun a n e => ⟨n, h a e⟩
  cases s with
  | no => trivial
  | val d => obtain ⟨v, e, r⟩ := q; exact ⟨v, e, r.mono hm fun _ x => x⟩
  | fre d => obtain ⟨v, e, r⟩ := q; exact ⟨v, e, r.mono hm fun _ x => x⟩
  | own ds => obtain ⟨a, vs, e, e', e0, r⟩ := q; exact ⟨a, vs, e, by rw [h a (by simp [e'])]; exact e', e0, r.mono hm fun _ x => x⟩
  | pen ad ns => obtain ⟨a, e, e1, e'⟩ := q; exact ⟨a, e, e1, by rw [h a (by simp [e'])]; exact e'⟩
  | odi ks ds => obtain ⟨a, vs, e, ⟨ob, e'⟩, e0, ek, r⟩ := q; exact ⟨a, vs, e, ⟨ob, by rw [h a (by simp [e'])]; exact e'⟩, e0, ⟨ek.1, ek.2.mono hm fun _ x => x⟩, r.mono hm fun _ x => x⟩
  | obj k => obtain ⟨a, e, e0, r⟩ := q; exact ⟨a, e, e0, k.mono hm (h a (k.ism r).ne) r⟩
theorem Step.grow (h : ∀ a, H a ≠ none -> H' a = H a) : Step Z σ S H σ S H' := ⟨fun a n e => ⟨h a e, n⟩, fun a e => Classical.byContradiction fun z => by rw [h a z] at e; exact z e, fun a _ e => h a e⟩
theorem aC {p : Addr} {o : HO} (hp : H p = none) : ∀ a, H a ≠ none -> upd H p o a = H a := fun a e => au fun z => e (by rw [z]; exact hp)
end
inductive VR where
 | d (x : D) | own (i : Nat)
noncomputable def getO : Option Sl -> Option D
 | some (.own ds) => some (.lst ds)
 | some (.pen _ ns) => some (.lst (ns.map .int))
 | some (.odi ks vs) => some (.dic ks vs)
 | _ => none
noncomputable def get (S : List Sl) : VR -> Option D
 | .d x => some x
 | .own i => getO S[i]?
noncomputable def dA (K : PySem.W.Frag) (F : FP) (Z : AP) (σ : St) (S : List Sl) (H : Hp) (v : V) : VR -> Prop
 | .d x => Rep K (NM Z σ S) F H v x
 | .own i => σ[i]? = some (some v)
section
variable {K : PySem.W.Frag} {N N' : AP} {F F' : FP} {H H' H'' H0 : Hp} {Z : AP} {σ σ' σ'' : St} {S S' S'' : List Sl}
theorem dA.step {r : VR} (h : dA K F Z σ S H v r) (st : Step Z σ S H σ S' H') : dA K F Z σ S' H' v r := by
 cases r with
 | d x => exact Rep.step h st
 | own i => exact h
theorem dA.get {r : VR} {x : D} (h : dA K F Z σ S H v r) (k : OK K H0 Z σ H S) (e : get S r = some x) : Rep K Any AnyF H v x := by
 cases r with
 | d y => cases e; exact Rep.any h
 | own i =>
  have h : σ[i]? = some (some v) := h
  have e : getO S[i]? = some x := e
  cases es : S[i]? with
  | none => rw [es] at e; cases e
  | some s =>
   rw [es] at e
   cases s with
   | no => cases e
   | val d => cases e
   | fre d => cases e
   | own ds =>
    cases e
    obtain ⟨a, vs, h1, h2, h3, h4⟩ := k.at_ i _ _ h es
    cases h1
    exact .lst trivial trivial h2 h4.any
   | pen ad ns =>
    cases e
    obtain ⟨a, h1, _, h2⟩ := k.at_ i _ _ h es
    cases h1
    exact .lst trivial trivial h2 Reps.ints
   | odi ks ds =>
    cases e
    obtain ⟨a, kvs, h1, ⟨ob, h2⟩, h3, h4, h5⟩ := k.at_ i _ _ h es
    cases h1
    exact .dic trivial trivial h2 h4.1 h4.2.any h5.any
   | obj k => cases e
end
noncomputable abbrev VT := List Sl -> (VR -> List Sl -> Prop) -> Prop
noncomputable abbrev VTT := List Sl -> (Bool -> List Sl -> Prop) -> Prop
noncomputable abbrev VTA := List Sl -> (List VR -> List Sl -> Prop) -> Prop
noncomputable abbrev VTN := List Sl -> (List D -> List Sl -> Prop) -> Prop
noncomputable def FM (H0 : Hp) (m : Bool) : FP := fun o => m = true -> Fr H0 o
noncomputable def SndE (K : PySem.W.Frag) (m : Bool) (te : TE) (t : VT) : Prop := ∀ H0 Z σ H S Q C, OK K H0 Z σ H S -> t S Q -> (∀ v H' r S', OK K H0 Z σ H' S' -> Step Z σ S H σ S' H' -> dA K (FM H0 m) Z σ S' H' v r -> Q r S' -> C v H') -> te σ H C
noncomputable def SndT (K : PySem.W.Frag) (te : TT) (t : VTT) : Prop := ∀ H0 Z σ H S Q C, OK K H0 Z σ H S -> t S Q -> (∀ b H' S', OK K H0 Z σ H' S' -> Step Z σ S H σ S' H' -> Q b S' -> C b H') -> te σ H C
inductive cw (K : PySem.W.Frag) (F : FP) (Z : AP) (σ : St) (S : List Sl) (H : Hp) : List V -> List VR -> Prop where
 | nil : cw K F Z σ S H [] []
 | cons {v : V} {r : VR} {vs : List V} {rs : List VR} (h : dA K F Z σ S H v r) (t : cw K F Z σ S H vs rs) : cw K F Z σ S H (v :: vs) (r :: rs)
noncomputable def gets (S : List Sl) : List VR -> Option (List D)
 | [] => some []
 | r :: rs => match get S r, gets S rs with
  | some d, some ds => some (d :: ds)
  | _, _ => none
noncomputable def xg (K : PySem.W.Frag) (m : Bool) (te : TA) (t : VTA) : Prop := ∀ H0 Z σ H S Q C, OK K H0 Z σ H S -> t S Q -> (∀ vs H' rs S', OK K H0 Z σ H' S' -> Step Z σ S H σ S' H' -> cw K (FM H0 m) Z σ S' H' vs rs -> Q rs S' -> C vs H') -> te σ H C
noncomputable def SndN (K : PySem.W.Frag) (te : TE) (t : VTN) : Prop := ∀ H0 Z σ H S Q C, OK K H0 Z σ H S -> t S Q -> (∀ a vs ds H1 H' S', OK K H0 Z σ H1 S' -> Step Z σ S H σ S' H1 -> H1 a = none -> (∀ b, H1 b ≠ none -> H' b = H1 b) -> H' a = some (.lst vs) ->
 Reps K (fun b => NM Z σ S' b /\ b ≠ a) (Fr H0) H' vs ds -> Q ds S' -> C (.ref a) H') -> te σ H C
structure VE (K : PySem.W.Frag) (X : Cx) (m : Bool) (e : Expr) (te : TE) (t : VT) : Prop where
 pe : PE X e te
 snd : SndE K m te t
structure VTe (K : PySem.W.Frag) (X : Cx) (e : Expr) (te : TT) (t : VTT) : Prop where
 pe : PT X e te
 snd : SndT K te t
structure VWe (K : PySem.W.Frag) (X : Cx) (e : Expr) (te : TT) (t : VTT) : Prop where
 pe : PW X e te
 snd : SndT K te t
structure VA (K : PySem.W.Frag) (X : Cx) (m : Bool) (es : List Expr) (te : TA) (t : VTA) : Prop where
 pe : PA X es te
 snd : xg K m te t
structure VN (K : PySem.W.Frag) (X : Cx) (e : Expr) (te : TE) (t : VTN) : Prop where
 pe : PE X e te
 snd : SndN K te t
section
variable {K : PySem.W.Frag} {N N' : AP} {F F' : FP} {H H' H'' H0 : Hp} {Z : AP} {σ σ' σ'' : St} {S S' S'' : List Sl}
theorem cw.gets {rs : List VR} {ds : List D} (h : cw K F Z σ S H vs rs) (k : OK K H0 Z σ H S) (e : gets S rs = some ds) : Reps K Any AnyF H vs ds := by
 induction h generalizing ds with
 | nil => cases e; exact .nil
 | cons h t ih =>
  unfold VL.gets at e
  split at e
  ·rename_i d es h1 h2
   cases e
   exact .cons (h.get k h1) (ih h2)
  ·cases e
end
end VL
end
variable {kvs : List (List Int × VL.D)} {ds : List VL.D} {S : List VL.Sl} {d : VL.D} {r : VL.VR} {F : VL.FP} {Z : VL.AP} {H0 : L2.Hp} {rs : List VL.VR} {q : VL.D -> Prop} {p : List VL.D -> (VL.D -> Prop) -> Prop}
section
namespace VL
open PySem L2
section
variable {K : PySem.W.Frag} {X : Cx} {m : Bool} {e a b c : Expr} {ta tb tc te : TE} {va vb vc : VT} {pos : Pos}
theorem FM.any {a : Option Addr} : FM H0 false a := fun z => nomatch z
noncomputable def vC (d : D) : VT := fun S Q => Q (.d d) S
theorem af {i j} : VE K X m (.Constant (.int i) j pos) (tC (.int i)) (vC (.int i)) := ⟨vZ, fun _ _ _ _ _ _ _ k h q => q _ _ (.d (.int i)) _ k .refl (Rep.int i) h⟩
theorem bJ {i j} : VE K X m (.Constant (.bool i) j pos) (tC (.bl i)) (vC (.bl i)) := ⟨zB, fun _ _ _ _ _ _ _ k h q => q _ _ (.d (.bl i)) _ k .refl (Rep.bl i) h⟩
theorem om {j} : VE K X m (.Constant .none j pos) (tC .non) (vC .non) := ⟨v7, fun _ _ _ _ _ _ _ k h q => q _ _ (.d .non) _ k .refl Rep.non h⟩
theorem oo {i j} : VE K X m (.Constant (.str i) j pos) (tC (.str i)) (vC (.str i)) := ⟨v8, fun _ _ _ _ _ _ _ k h q => q _ _ (.d (.str i)) _ k .refl (Rep.str i) h⟩
theorem fY (h : PE X e (tC v)) (r : ∀ N H, Rep K N AnyF H v d) : VE K X false e (tC v) (vC d) := ⟨h, fun _ _ _ _ _ _ _ k h q => q _ _ (.d d) _ k .refl (show Rep K _ _ _ v d from (r _ _).mono (fun _ n _ => ⟨n, rfl⟩) (fun _ _ => FM.any)) h⟩
noncomputable def rdO (i : Nat) : Option Sl -> Option VR
 | some (.val d) => some (.d d)
 | some (.fre d) => some (.d d)
 | some (.own _) => some (.own i)
 | some (.pen _ _) => some (.own i)
 | some (.odi _ _) => some (.own i)
 | some (.obj _) => some (.own i)
 | _ => none
noncomputable def rH (i : Nat) : VT := fun S Q => ∃ r, rdO i S[i]? = some r /\ Q r S
theorem OK.var {H0 H : Hp} (k : OK K H0 Z σ H S) {i : Nat} (h : rdO i S[i]? = some r) : ∃ v, σ[i]? = some (some v) /\ dA K (FM H0 false) Z σ S H v r := by
 have hl := k.len
 cases es : S[i]? with
 | none => rw [es] at h; cases h
 | some s =>
  have hi : i < σ.length := by rw [hl]; exact (List.getElem?_eq_some_iff.mp es).1
  have q := k.at_ i _ s (List.getElem?_eq_getElem hi) es
  rw [es] at h
  cases s with
  | no => cases h
  | val d => obtain ⟨v, e, r'⟩ := q; cases h; exact ⟨v, by rw [List.getElem?_eq_getElem hi, e], r'.mono (fun _ n _ => ⟨n, rfl⟩) fun _ _ => FM.any⟩
  | fre d => obtain ⟨v, e, r'⟩ := q; cases h; exact ⟨v, by rw [List.getElem?_eq_getElem hi, e], r'.mono (fun _ n _ => ⟨n, rfl⟩) fun _ x _ => x⟩
  | own ds => obtain ⟨a, vs, e, _⟩ := q; cases h; exact ⟨.ref a, by rw [List.getElem?_eq_getElem hi, e], by show σ[i]? = _; rw [List.getElem?_eq_getElem hi, e]⟩
  | pen ad ds => obtain ⟨a, e, _⟩ := q; cases h; exact ⟨.ref a, by rw [List.getElem?_eq_getElem hi, e], by show σ[i]? = _; rw [List.getElem?_eq_getElem hi, e]⟩
  | odi ks ds => obtain ⟨a, _, e, _⟩ := q; cases h; exact ⟨.ref a, by rw [List.getElem?_eq_getElem hi, e], by show σ[i]? = _; rw [List.getElem?_eq_getElem hi, e]⟩
  | obj k => obtain ⟨a, e, _⟩ := q; cases h; exact ⟨.ref a, by rw [List.getElem?_eq_getElem hi, e], by show σ[i]? = _; rw [List.getElem?_eq_getElem hi, e]⟩
theorem ae (i : Nat) (h : PE X e (cg i)) : VE K X false e (cg i) (rH i) := ⟨h, fun H0 Z σ H S Q C k zq1 hc => by
 obtain ⟨r, h, q⟩ := zq1
 obtain ⟨v, e, rr⟩ := k.var h
 exact ⟨v, e, hc _ _ _ _ k .refl rr q⟩⟩
noncomputable def oq (t : VT) : VT := fun S Q => t S fun r S' => (match r with | .d d => flat d = true | .own _ => True) /\ Q r S'
theorem aK (h : VE K X false e te va) : VE K X m e te (oq va) := ⟨h.pe, fun H0 Z σ H S Q C k t hc => h.snd H0 Z σ H S _ C k t fun v H' r S' k' st rr ⟨f, q⟩ => hc v H' r S' k' st (by
 cases r with
 | d x => exact Rep.flat rr f
 | own i => exact rr) q⟩
noncomputable def v2 (w : D -> D -> (D -> Prop) -> Prop) (va vb : VT) : VT := fun S Q => va S fun ra S1 => vb S1 fun rb S2 => ∃ d1 d2, get S2 ra = some d1 /\ get S2 rb = some d2 /\ w d1 d2 fun d => Q (.d d) S2
noncomputable def cE (K : PySem.W.Frag) (r : R2) (w : D -> D -> (D -> Prop) -> Prop) : Prop := ∀ (x y : V) (H : Hp) (d1 d2 : D) (q : D -> Prop) (C : VK), Rep K Any AnyF H x d1 -> Rep K Any AnyF H y d2 -> w d1 d2 q -> (∀ z dz, q dz -> (∀ N F, Rep K N F H z dz) -> C z H) -> r x y H C
theorem xh {r : R2} {w : D -> D -> (D -> Prop) -> Prop} (L : cE K r w) (ha : SndE K false ta va) (hb : SndE K false tb vb) : SndE K m (tOp r ta tb) (v2 w va vb) := by
 intro H0 Z σ H S Q C k t hc
 refine ha H0 Z σ H S _ _ k t fun x H1 ra S1 k1 st1 r1 t1 => ?_
 refine hb H0 Z σ H1 S1 _ _ k1 t1 fun y H2 rb S2 k2 st2 r2 zr1 => ?_
 obtain ⟨d1, d2, e1, e2, t2⟩ := zr1
 exact L x y H2 d1 d2 _ _ ((r1.step st2).get k2 e1) (r2.get k2 e2) t2 fun z dz q rz => hc z H2 (.d dz) S2 k2 (st1.trans st2) (rz _ _) q
theorem ay {op : Operator} {r : R2} {w : D -> D -> (D -> Prop) -> Prop} (ho : OpR X (binaryOp op) r) (L : cE K r w) (ha : VE K X false a ta va) (hb : VE K X false b tb vb) : VE K X m (.BinOp a op b pos) (tOp r ta tb) (v2 w va vb) := ⟨jr ho ha.pe hb.pe, xh L ha.snd hb.snd⟩
@[reducible] def ofV : V -> D
 | .int i => .int i
 | .bl b => .bl b
 | .str x => .str x
 | .ty x => .ty x
 | _ => .non
noncomputable def scV : V -> Bool
 | .int _ => true | .bl _ => true | .str _ => true | .non => true | .ty _ => true | _ => false
theorem kr (h : scV v = true) {N : AP} : Rep K N F H v (ofV v) := by
 cases v <;> first | exact .int _ | exact .bl _ | exact .str _ | exact .non | exact .ty _ | cases h
noncomputable def wI (C : Int -> Int -> Prop) (g : Int -> Int -> V) : D -> D -> (D -> Prop) -> Prop := fun d1 d2 q => ∃ i j, d1 = .int i /\ d2 = .int j /\ C i j /\ q (ofV (g i j))
noncomputable def wI0 (g : Int -> Int -> V) : D -> D -> (D -> Prop) -> Prop := fun d1 d2 q => ∃ i j, d1 = .int i /\ d2 = .int j /\ q (ofV (g i j))
theorem bI {C : Int -> Int -> Prop} {g : Int -> Int -> V} (hg : ∀ i j, scV (g i j) = true := by intro _ _; rfl) : cE K (rI C g) (wI C g) := by
 rintro x y H d1 d2 q Cc r1 r2 ⟨i, j, rfl, rfl, c, h⟩ hc
 cases r1; cases r2
 exact ⟨i, j, rfl, rfl, c, hc _ _ h fun _ _ => kr (hg i j)⟩
theorem aH {g : Int -> Int -> V} (hg : ∀ i j, scV (g i j) = true := by intro _ _; rfl) : cE K (rI0 g) (wI0 g) := by
 rintro x y H d1 d2 q Cc r1 r2 ⟨i, j, rfl, rfl, h⟩ hc
 cases r1; cases r2
 exact ⟨i, j, rfl, rfl, hc _ _ h fun _ _ => kr (hg i j)⟩
noncomputable def toV : D -> Option V
 | .int i => some (.int i)
 | .bl b => some (.bl b)
 | .str x => some (.str x)
 | .non => some .non
 | _ => none
theorem fB {u : V} {N : AP} (h : Rep K N F H v d) (e : toV d = some u) : v = u := by
 cases h <;> cases e <;> rfl
noncomputable def wEq : D -> D -> (D -> Prop) -> Prop := fun d1 d2 q => ∃ x y, toV d1 = some x /\ toV d2 = some y /\ qY x y = true /\ q (.bl (decide (x = y)))
noncomputable def wNe : D -> D -> (D -> Prop) -> Prop := fun d1 d2 q => ∃ x y, toV d1 = some x /\ toV d2 = some y /\ qY x y = true /\ q (.bl (!decide (x = y)))
theorem ku : cE K rEq wEq := by
 rintro x y H d1 d2 q C r1 r2 ⟨x', y', e1, e2, s, h⟩ hc
 obtain rfl := fB r1 e1
 obtain rfl := fB r2 e2
 exact ⟨s, hc _ _ h fun _ _ => .bl _⟩
theorem zU : cE K rNe wNe := by
 rintro x y H d1 d2 q C r1 r2 ⟨x', y', e1, e2, s, h⟩ hc
 obtain rfl := fB r1 e1
 obtain rfl := fB r2 e2
 exact ⟨s, hc _ _ h fun _ _ => .bl _⟩
noncomputable def gU (t : VT) : VTT := fun S Q => t S fun r S' => ∃ k, r = .d (.bl k) /\ Q k S'
theorem rJ (h : SndE K m te va) : SndT K (nV te) (gU va) := fun H0 Z σ H S Q C k t hc => h H0 Z σ H S _ _ k t fun v H' r S' k' st rr zq1 => by
 obtain ⟨b, e, q⟩ := zq1
 subst e
 cases (show Rep K _ _ H' v (.bl b) from rr)
 exact ⟨b, rfl, hc b H' S' k' st q⟩
theorem Cb (h : SndE K m te va) : SndT K (tB te) (gU va) := fun H0 Z σ H S Q C k t hc => h H0 Z σ H S _ _ k t fun v H' r S' k' st rr zq1 => by
 obtain ⟨b, e, q⟩ := zq1
 subst e
 cases (show Rep K _ _ H' v (.bl b) from rr)
 exact ⟨b, rfl, hc b H' S' k' st q⟩
theorem bE {op : CmpOp} {r : R2} {w : D -> D -> (D -> Prop) -> Prop} (ho : OpR X (compareOp op) r) (L : cE K r w) (ha : VE K X false a ta va) (hb : VE K X false b tb vb) (hm : behindInMarks op b = false) : VTe K X (.Compare a [op] [b] pos) (nV (tOp r ta tb)) (gU (v2 w va vb)) :=
 ⟨q0 ho ha.pe hb.pe hm, rJ (m := false) (xh L ha.snd hb.snd)⟩
theorem cR {op : CmpOp} {r : R2} {w : D -> D -> (D -> Prop) -> Prop} (ho : OpR X (compareOp op) r) (L : cE K r w) (ha : VE K X false a ta va) (hb : VE K X false b tb vb) (hm : behindInMarks op b = false) : VE K X m (.Compare a [op] [b] pos) (tOp r ta tb) (v2 w va vb) :=
 ⟨qZ ho ha.pe hb.pe hm, xh L ha.snd hb.snd⟩
theorem cS (h : VE K X false e te va) (he : ∀ whole, isTrue e X.env whole = (do let v <- whole; standAt e.pos; holding [v] (truthy v)) := by intro _; rfl) : VTe K X e (tB te) (gU va) := ⟨v9 h.pe he, Cb h.snd⟩
noncomputable def tru : D -> Option Bool
 | .bl b => some b
 | .int i => some (i != 0)
 | .non => some false
 | .lst ds => some !ds.isEmpty
 | .tup ds => some !ds.isEmpty
 | _ => none
section
variable {tA tB' : TT} {wA wB : VTT} {rest : List Expr}
noncomputable def vOr (t u : VTT) : VTT := fun S Q => t S fun c S1 => if c = true then Q true S1 else u S1 Q
noncomputable def zV (t : VTT) : VTT := fun S Q => t S fun c S1 => Q (!c) S1
theorem xi (h : VTe K X a tA wA) : VWe K X (.BoolOp .Or [a] pos) tA wA := ⟨wb h.pe, h.snd⟩
theorem zW (ha : VTe K X a tA wA) (hb : VWe K X (.BoolOp .Or (b :: rest) pos) tB' wB) : VWe K X (.BoolOp .Or (a :: b :: rest) pos) (tOr tA tB') (vOr wA wB) := ⟨zD ha.pe hb.pe, fun H0 Z σ H S Q C k t hc =>
 ha.snd H0 Z σ H S _ _ k t fun c H1 S1 k1 st1 q => by
  cases c with
  | false => rw [if_neg Bool.false_ne_true] at q ⊢; exact hb.snd H0 Z σ H1 S1 _ _ k1 q fun c2 H2 S2 k2 st2 q2 => hc c2 H2 S2 k2 (st1.trans st2) q2
  | true => rw [if_pos rfl] at q ⊢; exact hc true H1 S1 k1 st1 q⟩
theorem zX (h : VWe K X e tA wA) : VTe K X e tA wA := ⟨h.pe.pt, h.snd⟩
theorem fZ (h : VTe K X a tA wA) : VTe K X (.UnaryOp .Not a pos) (zC tA) (zV wA) := ⟨we h.pe, fun H0 Z σ H S Q C k t hc => h.snd H0 Z σ H S _ _ k t fun c H1 S1 k1 st1 q => hc (!c) H1 S1 k1 st1 q⟩
noncomputable def uA (ta tb : VT) : VT := fun S Q => ta S fun r S1 => ∃ c, r = .d (.bl c) /\ if c = true then tb S1 Q else Q (.d (.bl false)) S1
noncomputable def uB (ta : VT) : VT := fun S Q => ta S fun r S1 => ∃ c, r = .d (.bl c) /\ Q (.d (.bl (!c))) S1
theorem f6 {op} (h : VE K X m a ta va) : VE K X m (.BoolOp op [a] pos) ta va := ⟨wg h.pe, h.snd⟩
theorem dH (ha : VE K X m a ta va) (hb : VE K X m (.BoolOp .And (b :: rest) pos) tb vb) : VE K X m (.BoolOp .And (a :: b :: rest) pos) (uj ta tb) (uA va vb) := ⟨wj ha.pe hb.pe, fun H0 Z σ H S Q C k t hc =>
 ha.snd H0 Z σ H S _ _ k t fun v H1 r S1 k1 st1 rr zq1 => by
  obtain ⟨c, e, q⟩ := zq1
  subst e
  cases (show Rep K _ _ H1 v (.bl c) from rr)
  refine ⟨c, rfl, ?_⟩
  cases c with
  | true => rw [if_pos rfl] at q ⊢; exact hb.snd H0 Z σ H1 S1 _ _ k1 q fun v2 H2 r2 S2 k2 st2 rr2 q2 => hc v2 H2 r2 S2 k2 (st1.trans st2) rr2 q2
  | false => rw [if_neg Bool.false_ne_true] at q ⊢; exact hc _ H1 (.d (.bl false)) S1 k1 st1 (Rep.bl false) q⟩
theorem ot (ha : VE K X m a ta va) : VE K X m (.UnaryOp .Not a pos) (uk ta) (uB va) := ⟨wm ha.pe, fun H0 Z σ H S Q C k t hc =>
 ha.snd H0 Z σ H S _ _ k t fun v H1 r S1 k1 st1 rr zq1 => by
  obtain ⟨c, e, q⟩ := zq1
  subst e
  cases (show Rep K _ _ H1 v (.bl c) from rr)
  exact ⟨c, rfl, hc _ H1 (.d (.bl (!c))) S1 k1 st1 (Rep.bl _) q⟩⟩
noncomputable def vIf (t : VTT) (ta tb : VT) : VT := fun S Q => t S fun c S1 => if c = true then ta S1 Q else tb S1 Q
theorem f7 (hc : VTe K X c tA wA) (ha : VE K X m a ta va) (hb : VE K X m b tb vb) : VE K X m (.IfExp c a b pos) (tIf tA ta tb) (vIf wA va vb) := ⟨nK hc.pe ha.pe hb.pe, fun H0 Z σ H S Q C k t hq =>
 hc.snd H0 Z σ H S _ _ k t fun c H1 S1 k1 st1 q => by
  cases c with
  | true => rw [if_pos rfl] at q ⊢; exact ha.snd H0 Z σ H1 S1 _ _ k1 q fun v2 H2 r2 S2 k2 st2 rr2 q2 => hq v2 H2 r2 S2 k2 (st1.trans st2) rr2 q2
  | false => rw [if_neg Bool.false_ne_true] at q ⊢; exact hb.snd H0 Z σ H1 S1 _ _ k1 q fun v2 H2 r2 S2 k2 st2 rr2 q2 => hq v2 H2 r2 S2 k2 (st1.trans st2) rr2 q2⟩
end
noncomputable def vUn (g : Int -> V) (va : VT) : VT := fun S Q => va S fun r S1 => ∃ i, get S1 r = some (.int i) /\ Q (.d (ofV (g i))) S1
theorem d9 {op : UnaryOp} {g : Int -> V} (ho : UnR X (unaryOp op) (rU g)) (ha : VE K X false a ta va) (hg : ∀ i, scV (g i) = true := by intro _; rfl) : VE K X m (.UnaryOp op a pos) (tUn (rU g) ta) (vUn g va) := ⟨zI ho ha.pe, fun H0 Z σ H S Q C k t hc =>
 ha.snd H0 Z σ H S _ _ k t fun v H1 r S1 k1 st1 rr zq1 => by
  obtain ⟨i, e, q⟩ := zq1
  cases rr.get k1 e
  exact ⟨i, rfl, hc _ H1 (.d (ofV (g i))) S1 k1 st1 (kr (hg i)) q⟩⟩
section
variable {es : List Expr} {tr : TA} {vr : VTA}
noncomputable def xj : VTA := fun S Q => Q [] S
noncomputable def lC (va : VT) (vr : VTA) : VTA := fun S Q => va S fun r S1 => vr S1 fun rs S2 => Q (r :: rs) S2
theorem ah : VA K X m [] fR xj := ⟨dD, fun _ _ _ _ _ _ _ k h q => q _ _ _ _ k .refl .nil h⟩
theorem aa (ha : VE K X m e te va) (hr : VA K X m es tr vr) (hs : starEach (e :: es) X.env = (false, eval e X.env) :: starEach es X.env := by rfl) : VA K X m (e :: es) (cV te tr) (lC va vr) := ⟨bZ ha.pe hr.pe hs, fun H0 Z σ H S Q C k t hc =>
 ha.snd H0 Z σ H S _ _ k t fun v H1 r S1 k1 st1 rr q => hr.snd H0 Z σ H1 S1 _ _ k1 q fun vs H2 rs S2 k2 st2 rrs q2 => hc (v :: vs) H2 (r :: rs) S2 k2 (st1.trans st2) (.cons (rr.step st2) rrs) q2⟩
noncomputable def allD : List VR -> Option (List D)
 | [] => some []
 | .d x :: r => (allD r).map (x :: ·)
 | _ :: _ => none
theorem cw.allD (h : cw K F Z σ S H vs rs) (e : VL.allD rs = some ds) : Reps K (NM Z σ S) F H vs ds := by
 induction h generalizing ds with
 | nil => cases e; exact .nil
 | @cons v r vs rs h t ih =>
  cases r with
  | d x =>
   obtain ⟨es, h1, rfl⟩ := Option.map_eq_some_iff.mp (show (VL.allD rs).map (x :: ·) = some ds from e)
   exact .cons h (ih h1)
  | own i => cases e
theorem cw.length (h : cw K F Z σ S H vs rs) : vs.length = rs.length := by
 induction h with
 | nil => rfl
 | cons h t ih => simp [ih]
theorem cH : ∀ {rs : List VR} {ds : List D}, allD rs = some ds -> ds.length = rs.length
 | [], _, e => by cases e; rfl
 | .d x :: r, ds, e => by
  obtain ⟨es, h1, rfl⟩ := Option.map_eq_some_iff.mp (show (VL.allD r).map (x :: ·) = some ds from e)
  simp [cH h1]
 | .own _ :: _, _, e => by cases e
noncomputable def zY (vr : VTA) : VT := fun S Q => vr S fun rs S1 => ∃ ds, allD rs = some ds /\ ds.length <= 1000 /\ Q (.d (.tup ds)) S1
theorem small {n : Nat} (h : n <= 1000) : n <= sizeLine := by rw [sizeLine_eq]; lia
theorem OK.nm {H0 H : Hp} (k : OK K H0 Z σ H S) {p : Addr} (hp : H p = none) : NM Z σ S p := fun z => by
 have e := k.mo z
 rw [hp] at e; exact e
theorem aq {x1} (h : VA K X m es tr vr) : VE K X m (.Tuple es x1 pos) (wN tr) (zY vr) := ⟨nY h.pe, fun H0 Z σ H S Q C k t hc =>
 h.snd H0 Z σ H S _ _ k t fun vs H1 rs S1 k1 st1 rrs ⟨ds, e, hl, q⟩ => ⟨small (by rw [rrs.length, <- cH e]; exact hl), fun p hp => by
  have g := aC (o := .tup vs) hp
  exact hc _ _ (.d (.tup ds)) S1 (k1.grow g) (st1.trans (.grow g)) (Rep.tup (k1.nm hp) (.inl aw) ((rrs.allD e).mono (fun a n e => ⟨n, g a e⟩) fun _ x => x)) q⟩⟩
noncomputable def xk (vr : VTA) : VTN := fun S Q => vr S fun rs S1 => ∃ ds, allD rs = some ds /\ ds.length <= 1000 /\ Q ds S1
theorem bA {H0 H : Hp} {p : Addr} {o : HO} (hp : H p = none) (h : Reps K (NM Z σ S) (FM H0 true) H vs ds) : Reps K (fun b => NM Z σ S b /\ b ≠ p) (Fr H0) (upd H p o) vs ds :=
 h.mono (fun a n e => ⟨⟨n, fun z => e (by rw [z]; exact hp)⟩, aC hp a e⟩) fun _ x => x rfl
theorem aR (h : VA K X true es tr vr) : VN K X (.List es pos) (wO tr) (xk vr) := ⟨nZ h.pe, fun H0 Z σ H S Q C k t hc =>
 h.snd H0 Z σ H S _ _ k t fun vs H1 rs S1 k1 st1 rrs ⟨ds, e, hl, q⟩ => ⟨small (by rw [rrs.length, <- cH e]; exact hl), fun p hp =>
  hc p vs ds H1 _ S1 k1 st1 hp (aC hp) aw (bA hp (rrs.allD e)) q⟩⟩
noncomputable def mR (t : VTN) : VT := fun S Q => t S fun ds S1 => Q (.d (.lst ds)) S1
theorem bf {t : VTN} (h : VN K X e te t) : VE K X m e te (mR t) := ⟨h.pe, fun H0 Z σ H S Q C k t hc => h.snd H0 Z σ H S _ _ k t fun a vs ds H1 H' S1 k1 st1 ha hg hl rr q => by
 refine hc _ H' (.d (.lst ds)) S1 (k1.grow hg) (st1.trans (.grow hg)) (Rep.lst (k1.nm ha) (fun _ => ⟨a, rfl, k1.dom a ha⟩) hl (rr.mono (fun b n e => ⟨n.1, rfl⟩) fun _ x _ => x)) q⟩
end
theorem dA.elems {H0 H : Hp} (h : dA K F Z σ S H v r) (k : OK K H0 Z σ H S) (e : VL.get S r = some (.lst ds)) : ∃ a vs, v = .ref a /\ SqL K H a vs /\ Reps K (NM Z σ S) AnyF H vs ds := by
 cases r with
 | d y =>
  cases e
  obtain ⟨a, vs, rfl, hq, rr⟩ := Rep.sqL h
  exact ⟨a, vs, rfl, hq, rr.mono (fun _ n _ => ⟨n, rfl⟩) fun _ _ => trivial⟩
 | own i =>
  have h : σ[i]? = some (some v) := h
  have e : getO S[i]? = some (.lst ds) := e
  cases es : S[i]? with
  | none => rw [es] at e; cases e
  | some s =>
   rw [es] at e
   cases s with
   | no => cases e
   | val d => cases e
   | fre d => cases e
   | own ds =>
    cases e
    obtain ⟨a, vs, h1, h2, h3, h4⟩ := k.at_ i _ _ h es
    cases h1
    exact ⟨a, vs, rfl, .inl (.inl h2), h4.mono (fun _ n _ => ⟨n, rfl⟩) fun _ _ => trivial⟩
   | pen ad ns =>
    cases e
    obtain ⟨a, h1, _, h2⟩ := k.at_ i _ _ h es
    cases h1
    exact ⟨a, _, rfl, .inl (.inl h2), Reps.ints⟩
   | odi ks ds => cases e
   | obj k => cases e
theorem dA.elemsT {H0 H : Hp} (h : dA K F Z σ S H v r) (k : OK K H0 Z σ H S) (e : VL.get S r = some (.tup ds)) : ∃ a vs, v = .ref a /\ SqT K H a vs /\ Reps K (NM Z σ S) AnyF H vs ds := by
 cases r with
 | d y =>
  cases e
  cases (show Rep K (NM Z σ S) F H v (.tup ds) from h) with
  | tup n h2 r2 => exact ⟨_, _, rfl, .inl h2, r2.mono (fun _ n _ => ⟨n, rfl⟩) fun _ _ => trivial⟩
  | tupK h2 r2 => exact ⟨_, _, rfl, eE h2, r2.mono (fun _ n _ => ⟨n, rfl⟩) fun _ _ => trivial⟩
 | own i =>
  have e : getO S[i]? = some (.tup ds) := e
  cases es : S[i]? with
  | none => rw [es] at e; cases e
  | some s => rw [es] at e; cases s <;> cases e
end
end VL
end
section
namespace VL
open PySem L2
section
variable {K : PySem.W.Frag} {X : Cx} {m : Bool} {e a b c : Expr} {ta tb tc te : TE} {va vb vc : VT} {pos : Pos}
theorem f9 {N : AP} {i : Int} (r : Reps K N F H vs ds) (h : atI ds i = some d) : ∃ v, atI vs i = some v /\ Rep K N F H v d := by
 unfold atI at h ⊢
 rw [r.length]
 cases e : ixN ds.length i with
 | none => rw [e] at h; cases h
 | some j =>
  rw [e] at h
  exact r.getD h
noncomputable def vIx (va vb : VT) : VT := fun S Q => va S fun ra S1 => vb S1 fun rb S2 => ∃ ds i d, (get S2 ra = some (.lst ds) \/ get S2 ra = some (.tup ds)) /\ get S2 rb = some (.int i) /\ atI ds i = some d /\ Q (.d d) S2
theorem aE (hK : X.K = K) (ha : VE K X false a ta va) (hb : VE K X false b tb vb) (hs : dY b) : VE K X false (.Subscript a b pos) (tOp (rIx K) ta tb) (vIx va vb) := ⟨by subst hK; exact jt n4 ha.pe hb.pe hs, fun H0 Z σ H S Q C k t hc =>
 ha.snd H0 Z σ H S _ _ k t fun x H1 ra S1 k1 st1 r1 t1 => hb.snd H0 Z σ H1 S1 _ _ k1 t1 fun y H2 rb S2 k2 st2 r2 zq1 => by
  obtain ⟨ds, i, d, e1, e2, e3, q⟩ := zq1
  cases r2.get k2 e2
  have fin : ∀ v, Rep K (NM Z σ S2) AnyF H2 v d -> C v H2 := fun v rv => hc v H2 (.d d) S2 k2 (st1.trans st2) (show Rep K _ _ H2 v d from rv.mono (fun _ n _ => ⟨n, rfl⟩) fun _ _ => FM.any) q
  rcases e1 with e1 | e1
  ·obtain ⟨p, vs, rfl, hq, rr⟩ := (r1.step st2).elems k2 e1
   obtain ⟨v, h1, h2⟩ := f9 rr e3
   exact .inl ⟨p, vs, i, v, rfl, rfl, hq, h1, fin v h2⟩
  ·obtain ⟨p, vs, rfl, hq, rr⟩ := (r1.step st2).elemsT k2 e1
   obtain ⟨v, h1, h2⟩ := f9 rr e3
   exact .inr (.inl ⟨p, vs, i, v, rfl, rfl, hq, h1, fin v h2⟩)⟩
section
variable {es : List Expr} {tr : TA} {vr : VTA} {x : Str} {p : Pos} {id T : String} {r : List V -> Hp -> VK -> Prop}
noncomputable def vCB (w : List D -> (D -> Prop) -> Prop) (vr : VTA) : VT := fun S Q => vr S fun rs S1 => ∃ ds, gets S1 rs = some ds /\ w ds fun d => Q (.d d) S1
noncomputable def gV (K : PySem.W.Frag) (r : List V -> Hp -> VK -> Prop) (w : List D -> (D -> Prop) -> Prop) : Prop := ∀ (xs : List V) (H : Hp) (ds : List D) (q : D -> Prop) (C : VK), Reps K Any AnyF H xs ds -> w ds q -> (∀ z dz, q dz -> (∀ N F, Rep K N F H z dz) -> C z H) -> r xs H C
theorem Cd {w : List D -> (D -> Prop) -> Prop} (L : gV K r w) (ha : xg K false tr vr) : SndE K m (tCB r tr) (vCB w vr) := fun H0 Z σ H S Q C k t hc =>
 ha H0 Z σ H S _ _ k t fun vs H1 rs S1 k1 st1 rrs zt1 => by obtain ⟨ds, e, q⟩ := zt1; exact L vs H1 ds _ _ (rrs.gets k1 e) q fun z dz q rz => hc z H1 (.d dz) S1 k1 st1 (rz _ _) q
theorem aS {w : List D -> (D -> Prop) -> Prop} (hc : cG X (.builtin id) r) (L : gV K r w) (hg : Gl X x) (hm : X.mg x = none) (hv : bootBuiltins x = some (.builtin id)) (ha : VA K X false (e :: es) tr vr) (hn : x ≠ "__name__" := by decide) (hdb : (x == ("__debug__" : Str)) = false := by decide)
  (he : starEach (e :: es) X.env = (false, eval e X.env) :: starEach es X.env := by rfl) (hpl : (backTo pos (starEach es X.env)).any (·.1) = false := by rfl) : VE K X m (.Call (.Name x p) (e :: es) [] pos) (tCB r tr) (vCB w vr) := ⟨fT hc hg hm hv ha.pe hn hdb he hpl, Cd L ha.snd⟩
theorem rep1 {N : AP} {xs : List V} (h : Reps K N F H xs [d]) : ∃ v, xs = [v] /\ Rep K N F H v d := by
 cases h with | cons h t => cases t; exact ⟨_, rfl, h⟩
theorem rep2 {N : AP} {xs : List V} {d d' : D} (h : Reps K N F H xs [d, d']) : ∃ v u, xs = [v, u] /\ Rep K N F H v d /\ Rep K N F H u d' := by
 cases h with | cons h t => cases t with | cons h' t => cases t; exact ⟨_, _, rfl, h, h'⟩
noncomputable def xl : List D -> (D -> Prop) -> Prop := fun ds q => ∃ es, (ds = [.lst es] \/ ds = [.tup es]) /\ q (.int es.length)
theorem fc : gV K (fun xs H Q => ∃ p ys, xs = [.ref p] /\ (SqL K H p ys \/ SqT K H p ys) /\ Q (.int ys.length) H) xl := by
 rintro xs H ds q C r ⟨es, rfl | rfl, h⟩ hc
 ·obtain ⟨v, rfl, rv⟩ := rep1 r
  obtain ⟨a, vs, rfl, hq, rr⟩ := rv.sqL
  exact ⟨a, vs, rfl, .inl hq, by rw [rr.length]; exact hc _ _ h fun _ _ => .int _⟩
 ·obtain ⟨v, rfl, rv⟩ := rep1 r
  obtain ⟨a, vs, rfl, hq, rr⟩ := rv.sqT
  exact ⟨a, vs, rfl, .inr hq, by rw [rr.length]; exact hc _ _ h fun _ _ => .int _⟩
noncomputable def wMM (g : Int -> Int -> Int) : List D -> (D -> Prop) -> Prop := fun ds q => ∃ i j, ds = [.int i, .int j] /\ q (.int (g i j))
theorem Ce {g : Int -> Int -> Int} : gV K (fun xs H Q => ∃ i j, xs = [.int i, .int j] /\ Q (.int (g i j)) H) (wMM g) := by
 rintro xs H ds q C r ⟨i, j, rfl, h⟩ hc
 obtain ⟨v, u, rfl, rv, ru⟩ := rep2 r
 cases rv; cases ru
 exact ⟨i, j, rfl, hc _ _ h fun _ _ => .int _⟩
noncomputable def tyD : D -> String
 | .int _ => "int" | .bl _ => "bool" | .non => "NoneType" | .str _ => "str" | .tup _ => "tuple" | .lst _ => "list" | .ty _ => "type" | .dic _ _ => "dict" | .exc _ => "" | .dib _ _ => "dict" | .oth _ => ""
noncomputable def isE : D -> Bool
 | .exc _ => true
 | .oth _ => true
 | _ => false
noncomputable def zZ : List D -> (D -> Prop) -> Prop := fun ds q => ∃ x c b, ds = [x, .ty c] /\ (∀ n, x ≠ .ty n) /\ isE x = false /\ mO (tyD x) c = some b /\ q (.bl b)
theorem jx : gV K (w6 K) zZ := by
 rintro xs H ds q C r ⟨x, c, b, rfl, hn, hE, e, h⟩ hc
 obtain ⟨v, u, rfl, rv, ru⟩ := rep2 r
 cases ru
 refine ⟨v, tyD x, c, b, rfl, ?_, e, hc _ _ h fun _ _ => .bl _⟩
 cases rv with
 | int i => exact .int i
 | bl i => exact .bl i
 | non => exact .non
 | str i => exact .str i
 | ty i => exact (hn _ rfl).elim
 | tup n h r => exact .tup (.inl h)
 | tupK h r => exact .tup (eE h)
 | lst n f h r => exact .lst (.inl (.inl h))
 | lstF n f h r => exact .lst (.inl (.inr ⟨_, h⟩))
 | lstK f h r => exact .lst (fX h)
 | dic n f h e _ r => exact .dE h
 | exc n h e => cases hE
 | oth h => cases hE
 | dib n f h e _ _ r => exact .dE h
theorem cw.one {r : VR} (h : cw K F Z σ S H vs [r]) : ∃ v, vs = [v] /\ dA K F Z σ S H v r := by
 cases h with | cons h t => cases t; exact ⟨_, rfl, h⟩
noncomputable def lD (vr : VTA) : VTN := fun S Q => vr S fun rs S1 => ∃ r ds, rs = [r] /\ (get S1 r = some (.lst ds) \/ get S1 r = some (.tup ds)) /\ flats ds = true /\ Q ds S1
theorem gW {H0 H : Hp} {p : Addr} {o : HO} (hp : H p = none) (h : Reps K (NM Z σ S) F H vs ds) (f : flats ds = true) : Reps K (fun b => NM Z σ S b /\ b ≠ p) (Fr H0) (upd H p o) vs ds :=
 bA hp (Reps.flat h f)
theorem rK (hK : X.K = K) (hg : Gl X "list") (hm : X.mg "list" = none) (ha : VA K X false [e] tr vr) (he : starEach [e] X.env = [(false, eval e X.env)] := by rfl) :
  VN K X (.Call (.Name "list" p) [e] [] pos) (tCB (fun xs H Q => ∃ p ys, xs = [.ref p] /\ (SqL K H p ys \/ SqT K H p ys) /\ ∀ l, H l = none -> Q (.ref l) (upd H l (.lst ys))) tr) (lD vr) :=
 ⟨by subst hK; exact dX iy hg hm rp ha.pe (by decide) (by decide) he rfl, fun H0 Z σ H S Q C k t hc => ha.snd H0 Z σ H S _ _ k t fun vs H1 rs S1 k1 st1 rrs zq1 => by
  obtain ⟨r, ds, e1, e2, f, q⟩ := zq1
  subst e1
  obtain ⟨v, rfl, rv⟩ := rrs.one
  rcases e2 with e2 | e2
  ·obtain ⟨a, ys, rfl, hq, rr⟩ := rv.elems k1 e2
   exact ⟨a, ys, rfl, .inl hq, fun l hl => hc l ys ds H1 _ S1 k1 st1 hl (aC hl) aw (gW hl rr f) q⟩
  ·obtain ⟨a, ys, rfl, hq, rr⟩ := rv.elemsT k1 e2
   exact ⟨a, ys, rfl, .inr hq, fun l hl => hc l ys ds H1 _ S1 k1 st1 hl (aC hl) aw (gW hl rr f) q⟩⟩
noncomputable def ou (vr : VTA) : VT := fun S Q => vr S fun rs S1 => ∃ r ds, rs = [r] /\ (get S1 r = some (.lst ds) \/ r = .d (.tup ds)) /\ flats ds = true /\ Q (.d (.tup ds)) S1
theorem gb (hK : X.K = K) (hg : Gl X "tuple") (hm : X.mg "tuple" = none) (ha : VA K X false [e] tr vr) (he : starEach [e] X.env = [(false, eval e X.env)] := by rfl) :
  VE K X m (.Call (.Name "tuple" p) [e] [] pos) (tCB (fun xs H Q => ∃ p ys, xs = [.ref p] /\ ((SqL K H p ys /\ ∀ l, H l = none -> Q (.ref l) (upd H l (.tup ys))) \/ (SqT K H p ys /\ Q (.ref p) H))) tr) (ou vr) :=
 ⟨by subst hK; exact dX gH hg hm fU ha.pe (by decide) (by decide) he rfl, fun H0 Z σ H S Q C k t hc => ha.snd H0 Z σ H S _ _ k t fun vs H1 rs S1 k1 st1 rrs zq1 => by
  obtain ⟨r, ds, e1, e2, f, q⟩ := zq1
  subst e1
  obtain ⟨v, rfl, rv⟩ := rrs.one
  rcases e2 with e2 | e2
  ·obtain ⟨a, ys, rfl, hq, rr⟩ := rv.elems k1 e2
   refine ⟨a, ys, rfl, .inl ⟨hq, fun l hl => ?_⟩⟩
   have g := aC (o := .tup ys) hl
   exact hc _ _ (.d (.tup ds)) S1 (k1.grow g) (st1.trans (.grow g)) (Rep.tup (k1.nm hl) (.inl aw) ((Reps.flat rr f).mono (fun a n e => ⟨n, g a e⟩) fun _ x => x)) q
  ·subst e2
   obtain ⟨a, ys, rfl, hq, rr⟩ := Rep.sqT (show Rep K _ _ H1 v (.tup ds) from rv)
   refine ⟨a, ys, rfl, .inr ⟨hq, hc _ _ (.d (.tup ds)) S1 k1 st1 ?_ q⟩⟩
   exact Rep.flat (show Rep K _ _ H1 _ (.tup ds) from rv) (by simpa [flat] using f)⟩
@[reducible] def eT (ms : List Int) : D := .tup (ms.map .int)
@[reducible] def eL (mss : List (List Int)) : D := .lst (mss.map eT)
theorem de : ∀ ms : List Int, flats (ms.map D.int) = true
 | [] => rfl
 | _ :: r => by simp [flats, flat, de r]
theorem gc : ∀ mss : List (List Int), flats (mss.map eT) = true
 | [] => rfl
 | _ :: r => by simp [flats, eT, flat, de, gc r]
end
noncomputable def spP (K : PySem.W.Frag) (p : List D -> (D -> Prop) -> Prop) : Sp := fun vs H Q _ => ∃ ds R, Reps K Any AnyF H vs ds /\ p ds R /\ ∀ d v H', R d -> (∀ a, H a ≠ none -> H' a = H a) -> Rep K Any (Fr H) H' v d -> Q v H'
noncomputable def spI (K : PySem.W.Frag) (j : Nat) (p : List Int -> List D -> (D -> List Int -> Prop) -> Prop) : Sp := fun vs H Q _ => ∃ a ws us ns ds es R, vs = ws ++ .ref a :: us /\ ws.length = j /\ H a = some (.lst (ns.map .int)) /\ Reps K (· ≠ a) AnyF H ws ds /\ Reps K (· ≠ a) AnyF H us es /\ p ns (ds ++ es) R /\
 ∀ d ns' v H', R d ns' -> (∀ b, b ≠ a -> H b ≠ none -> H' b = H b) -> H' a = some (.lst (ns'.map .int)) -> Rep K (· ≠ a) (Fr H) H' v d -> Q v H'
section
variable {es : List Expr} {tr : TA} {vr : VTA} {x : Str} {p0 : Pos} {j k : Nat} {ps : List Str}
noncomputable def vFn (p : List D -> (D -> Prop) -> Prop) (vr : VTA) : VT := fun S Q => vr S fun rs S1 => ∃ ds, gets S1 rs = some ds /\ p ds fun d => Q (.d d) S1
noncomputable def Aa (p : List D -> (D -> Prop) -> Prop) (vr : VTA) : VTN := fun S Q => vr S fun rs S1 => ∃ ds, gets S1 rs = some ds /\ p ds fun d => ∃ es, d = .lst es /\ flats es = true /\ Q es S1
theorem bz (E : Has X.prog X.w X.K X.mg X.base k x ps (spP K p)) (hr : bQ j X.A) (ha : VA K X false (e :: es) tr vr)
  (hk : k <= j := by decide) (hg : Gl X x := by rfl) (hdb : (x == ("__debug__" : Str)) = false := by decide) (he : starEach (e :: es) X.env = (false, eval e X.env) :: starEach es X.env := by rfl)
  (hpl : (backTo pos (starEach es X.env)).any (·.1) = false := by rfl) : VE K X m (.Call (.Name x p0) (e :: es) [] pos) (fS (spP K p) [] E0 tr) (vFn p vr) := ⟨ly E hr ha.pe hk hg hdb he hpl, fun H0 Z σ H S Q C k t hc =>
 ha.snd H0 Z σ H S _ _ k t fun vs H1 rs S1 k1 st1 rrs zq1 => by
  obtain ⟨ds, e, q⟩ := zq1
  refine ⟨ds, _, by rw [List.append_nil]; exact rrs.gets k1 e, q, fun d v H' q g r => ?_⟩
  refine hc v H' (.d d) S1 (k1.grow g) (st1.trans (.grow g)) (show Rep K _ _ H' v d from ?_) q
  refine (Rep.avoid (N' := NM Z σ S1) (fun a z => ?_) (fun a zq1 => by obtain ⟨b, e, f⟩ := zq1; cases e; exact k1.nm f) r).mono (fun _ n _ => ⟨n, rfl⟩) (fun o zt1 _ => by obtain ⟨b, e, f⟩ := zt1; exact ⟨b, e, k1.dom b f⟩)
  have e := k1.mo (Classical.not_not.mp z)
  rw [g a e.ne]; exact e⟩
theorem ow (E : Has X.prog X.w X.K X.mg X.base k x ps (spP K p)) (hr : bQ j X.A) (ha : VA K X false (e :: es) tr vr)
  (hk : k <= j := by decide) (hg : Gl X x := by rfl) (hdb : (x == ("__debug__" : Str)) = false := by decide) (he : starEach (e :: es) X.env = (false, eval e X.env) :: starEach es X.env := by rfl)
  (hpl : (backTo pos (starEach es X.env)).any (·.1) = false := by rfl) : VN K X (.Call (.Name x p0) (e :: es) [] pos) (fS (spP K p) [] E0 tr) (Aa p vr) := ⟨ly E hr ha.pe hk hg hdb he hpl, fun H0 Z σ H S Q C k t hc =>
 ha.snd H0 Z σ H S _ _ k t fun vs H1 rs S1 k1 st1 rrs zq1 => by
  obtain ⟨ds, e, q⟩ := zq1
  refine ⟨ds, _, by rw [List.append_nil]; exact rrs.gets k1 e, q, fun d v H' ⟨es, ed, hf, q⟩ g r => ?_⟩
  subst ed
  have r2 := Rep.avoid (N' := NM Z σ S1) (fun a z => by
   have e := k1.mo (Classical.not_not.mp z)
   rw [g a e.ne]; exact e) (fun a zq1 => by obtain ⟨b, e, f⟩ := zq1; cases e; exact k1.nm f) r
  cases r2 with
  | @lst a ws _ n f h rs =>
   obtain ⟨b, e, f⟩ := f
   cases e
   refine hc a ws es H1 H' S1 k1 st1 f g h ?_ q
   refine (Reps.avoid (N' := fun b => NM Z σ S1 b /\ b ≠ a) (fun b z => ?_) (fun b fb => fb.elim) (Reps.flat (F' := fun _ => False) rs hf)).mono (fun _ n _ => ⟨n, rfl⟩) (fun o f => f.elim)
   by_cases hb : b = a
   ·subst hb; rw [h]; trivial
   ·have e := k1.mo (Classical.byContradiction fun y => z ⟨y, hb⟩)
    rw [g b e.ne]; exact e
  | lstF n f h rs => obtain ⟨b, e, f⟩ := f; cases e
  | lstK f h rs => obtain ⟨b, e, f⟩ := f; cases e⟩
end
end
end VL
end
section
namespace VL
open PySem L2
section
variable {K : PySem.W.Frag} {H H' H0 : Hp} {Z : AP} {σ : St} {S : List Sl}
theorem OK.put (k : OK K H0 Z σ H S) {i : Nat} {o : Option V} {s : Sl} (hi : i < S.length)
  (hN : ∀ a, NM Z σ S a -> H a ≠ none -> NM Z (σ.set i o) (S.set i s) a /\ H' a = H a)
  (hM : ∀ j s', j ≠ i -> S[j]? = some s' -> s'.mut = true -> ∀ a, σ[j]? = some (some (V.ref a)) -> H' a = H a)
  (hs : mQ K H0 (NM Z (σ.set i o) (S.set i s)) H' o s)
  (hj : ∀ j a t, j ≠ i -> S[j]? = some t -> t.mut = true -> s.mut = true -> o = some (V.ref a) -> σ[j]? ≠ some (some (V.ref a)))
  (hd : ∀ a, H' a = none -> H a = none) (hz : ∀ a, Z a -> IsM (H' a)) (hnz : ∀ a, s.mut = true -> o = some (V.ref a) -> ¬Z a) : OK K H0 Z (σ.set i o) H' (S.set i s) where
 len := by simp [k.len]
 dom := fun a e => k.dom a (hd a e)
 zl := hz
 nz := fun j t a h1 h2 h3 => by
  have hi' : i < σ.length := by rw [k.len]; exact hi
  by_cases hji : i = j
  ·subst hji
   rw [List.getElem?_set_self hi] at h1
   rw [List.getElem?_set_self hi'] at h3
   cases h1
   exact hnz a h2 (Option.some.inj h3)
  ·rw [List.getElem?_set_ne hji] at h1 h3
   exact k.nz j t a h1 h2 h3
 inj := fun a b c t u h1 h2 m1 m2 h3 h4 => by
  have hi' : i < σ.length := by rw [k.len]; exact hi
  by_cases ha : i = a
  ·by_cases hb : i = b
   ·lia
   ·subst ha
    rw [List.getElem?_set_self hi] at h1
    rw [List.getElem?_set_self hi'] at h3
    rw [List.getElem?_set_ne hb] at h2 h4
    cases h1
    exact (hj b c u (fun z => hb z.symm) h2 m2 m1 (Option.some.inj h3) h4).elim
  ·by_cases hb : i = b
   ·subst hb
    rw [List.getElem?_set_self hi] at h2
    rw [List.getElem?_set_self hi'] at h4
    rw [List.getElem?_set_ne ha] at h1 h3
    cases h2
    exact (hj a c t (fun z => ha z.symm) h1 m1 m2 (Option.some.inj h4) h3).elim
   ·rw [List.getElem?_set_ne ha] at h1 h3
    rw [List.getElem?_set_ne hb] at h2 h4
    exact k.inj a b c t u h1 h2 m1 m2 h3 h4
 at_ := fun j o' s' h1 h2 => by
  have hi' : i < σ.length := by rw [k.len]; exact hi
  by_cases hji : i = j
  ·subst hji
   rw [List.getElem?_set_self hi'] at h1
   rw [List.getElem?_set_self hi] at h2
   cases h1; cases h2
   exact hs
  ·rw [List.getElem?_set_ne hji] at h1 h2
   have q := k.at_ j o' s' h1 h2
   cases s' with
   | no => trivial
   | val d => obtain ⟨v, e, r⟩ := q; exact ⟨v, e, r.mono hN fun _ x => x⟩
   | fre d => obtain ⟨v, e, r⟩ := q; exact ⟨v, e, r.mono hN fun _ x => x⟩
   | own ds =>
    obtain ⟨a, vs, e, e', e0, r⟩ := q
    exact ⟨a, vs, e, by rw [hM j _ (fun z => hji z.symm) h2 rfl a (by rw [h1, e])]; exact e', e0, r.mono hN fun _ x => x⟩
   | pen ad ns =>
    obtain ⟨a, e, e1, e'⟩ := q
    exact ⟨a, e, e1, by rw [hM j _ (fun z => hji z.symm) h2 rfl a (by rw [h1, e])]; exact e'⟩
   | odi ks ds =>
    obtain ⟨a, vs, e, e', e0, ek, r⟩ := q
    exact ⟨a, vs, e, by rw [hM j _ (fun z => hji z.symm) h2 rfl a (by rw [h1, e])]; exact e', e0, ⟨ek.1, ek.2.mono hN fun _ x => x⟩, r.mono hN fun _ x => x⟩
   | obj k =>
    obtain ⟨a, e, e0, r⟩ := q
    exact ⟨a, e, e0, k.mono hN (hM j _ (fun z => hji z.symm) h2 rfl a (by rw [h1, e])) r⟩
theorem gg {i : Nat} {o : Option V} {s : Sl} {a : Addr} (h : Mo Z (σ.set i o) (S.set i s) a) : Mo Z σ S a \/ (s.mut = true /\ o = some (V.ref a)) := by
 rcases h with ⟨j, t, h1, h2, h3⟩ | h
 ·by_cases hji : i = j
  ·subst hji
   have l1 := (List.getElem?_eq_some_iff.mp h1).1
   have l2 := (List.getElem?_eq_some_iff.mp h3).1
   rw [List.length_set] at l1 l2
   rw [List.getElem?_set_self l1] at h1
   rw [List.getElem?_set_self l2] at h3
   cases h1
   exact .inr ⟨h2, Option.some.inj h3⟩
  ·rw [List.getElem?_set_ne hji] at h1 h3
   exact .inl (.inl ⟨j, t, h1, h2, h3⟩)
 ·exact .inl (.inr h)
theorem OK.setVal (k : OK K H0 Z σ H S) {i : Nat} (hi : i < S.length) (h : Rep K (NM Z σ S) AnyF H v d) : OK K H0 Z (σ.set i (some v)) H (S.set i (.val d)) /\ Step Z σ S H (σ.set i (some v)) (S.set i (.val d)) H := by
 have n : ∀ a, NM Z σ S a -> NM Z (σ.set i (some v)) (S.set i (.val d)) a := fun a x z => by
  rcases gg z with z | ⟨z, _⟩
  ·exact x z
  ·cases z
 exact ⟨k.put hi (fun a x _ => ⟨n a x, rfl⟩) (fun _ _ _ _ _ _ _ => rfl) ⟨v, rfl, h.mono (fun a x _ => ⟨n a x, rfl⟩) fun _ x => x⟩ (fun _ _ _ _ _ _ z => nomatch z) (fun _ e => e) k.zl (fun _ z => nomatch z), fun a x _ => ⟨rfl, n a x⟩, fun _ e => e, fun _ _ _ => rfl⟩
theorem OK.setNew (k : OK K H0 Z σ H S) {i : Nat} {a : Addr} {s : Sl} (hi : i < S.length) (ha : H a = none) (hg : ∀ b, H b ≠ none -> H' b = H b) (hs : mQ K H0 (fun b => NM Z σ S b /\ b ≠ a) H' (some (.ref a)) s) (hm : s.mut = true) :
  OK K H0 Z (σ.set i (some (.ref a))) H' (S.set i s) /\ Step Z σ S H (σ.set i (some (.ref a))) (S.set i s) H' := by
 have n : ∀ b, NM Z σ S b /\ b ≠ a -> NM Z (σ.set i (some (.ref a))) (S.set i s) b := fun b x z => by
  rcases gg z with z | ⟨_, z⟩
  ·exact x.1 z
  ·cases z; exact x.2 rfl
 have n' : ∀ b, NM Z σ S b -> H b ≠ none -> NM Z (σ.set i (some (.ref a))) (S.set i s) b := fun b x e => n b ⟨x, fun z => e (by rw [z]; exact ha)⟩
 refine ⟨k.put hi (fun b x e => ⟨n' b x e, hg b e⟩) (fun j s' hj h1 h2 b h3 => ?_) ?_ (fun j b t hj h1 h2 h3 h4 h5 => ?_) (fun b e => Classical.byContradiction fun z => by rw [hg b z] at e; exact z e) (fun b z => ?_) (fun b h1 h2 z => ?_), fun b x e => ⟨hg b e, n' b x e⟩, fun b e => Classical.byContradiction fun z => by rw [hg b z] at e; exact z e, fun b z e => hg b e⟩
 ·have e := k.mo (.inl ⟨j, s', h1, h2, h3⟩)
  exact hg b e.ne
 ·cases s with
  | no => trivial
  | val d => cases hm
  | fre d => cases hm
  | own ds => obtain ⟨b, vs, e, e', e0, r⟩ := hs; exact ⟨b, vs, e, e', e0, r.mono (fun c x _ => ⟨n c x, rfl⟩) fun _ x => x⟩
  | pen ad ns => exact hs
  | obj k => obtain ⟨b, e, e0, r⟩ := hs; exact ⟨b, e, e0, k.mono (fun c x _ => ⟨n c x, rfl⟩) rfl r⟩
  | odi ks ds => obtain ⟨b, vs, e, e', e0, ek, r⟩ := hs; exact ⟨b, vs, e, e', e0, ⟨ek.1, ek.2.mono (fun c x _ => ⟨n c x, rfl⟩) fun _ x => x⟩, r.mono (fun c x _ => ⟨n c x, rfl⟩) fun _ x => x⟩
 ·cases h4
  have e := k.mo (.inl ⟨j, t, h1, h2, h5⟩)
  rw [ha] at e; exact e
 ·have e := k.zl b z
  rw [hg b e.ne]; exact e
 ·cases h2
  have e := k.zl _ z
  rw [ha] at e; exact e
theorem ox {α : Type} {l : List α} {i : Nat} {o : α} (h : l[i]? = some o) : l.set i o = l := by
 obtain ⟨h1, rfl⟩ := List.getElem?_eq_some_iff.mp h
 exact List.set_getElem_self h1
theorem OK.chgD (k : OK K H0 Z σ H S) {i : Nat} {a : Addr} {s₀ s : Sl} {o : HO} (h1 : S[i]? = some s₀) (h2 : s₀.mut = true) (h3 : σ[i]? = some (some (.ref a))) (hm : s.mut = true) (hs : mQ K H0 (NM Z σ S) (upd H a o) (some (.ref a)) s) :
  OK K H0 Z σ (upd H a o) (S.set i s) /\ Step Z σ S H σ (S.set i s) (upd H a o) := by
 have hi : i < S.length := (List.getElem?_eq_some_iff.mp h1).1
 have ma : Mo Z σ S a := .inl ⟨i, s₀, h1, h2, h3⟩
 have ea := k.mo ma
 have hza : ¬Z a := k.nz i s₀ a h1 h2 h3
 have e3 := ox h3
 have n : ∀ b, NM Z σ S b -> NM Z σ (S.set i s) b := fun b x z => by
  rw [<- e3] at z
  rcases gg z with z | ⟨_, z⟩
  ·exact x z
  ·cases z; exact x ma
 have ne : ∀ b, NM Z σ S b -> b ≠ a := fun b x z => x (by rw [z]; exact ma)
 have q := k.put (H' := upd H a o) (i := i) (o := some (.ref a)) (s := s) hi (fun b x e => ⟨by rw [e3]; exact n b x, au (ne b x)⟩) (fun j s' hj g1 g2 b g3 => au fun z => hj (by subst z; exact k.inj j i b s' s₀ g1 h1 g2 h2 g3 h3)) (by
  rw [e3]
  cases s with
  | no => trivial
  | val d => cases hm
  | fre d => cases hm
  | own ds => obtain ⟨b, vs, e, e', e0, r⟩ := hs; exact ⟨b, vs, e, e', e0, r.mono (fun c x _ => ⟨n c x, rfl⟩) fun _ x => x⟩
  | pen ad ns => exact hs
  | obj k => obtain ⟨b, e, e0, r⟩ := hs; exact ⟨b, e, e0, k.mono (fun c x _ => ⟨n c x, rfl⟩) rfl r⟩
  | odi ks ds => obtain ⟨b, vs, e, e', e0, ek, r⟩ := hs; exact ⟨b, vs, e, e', e0, ⟨ek.1, ek.2.mono (fun c x _ => ⟨n c x, rfl⟩) fun _ x => x⟩, r.mono (fun c x _ => ⟨n c x, rfl⟩) fun _ x => x⟩) (fun j b t hj g1 g2 g3 g4 g5 => by
   cases g4
   exact hj (k.inj j i a t s₀ g1 h1 g2 h2 g5 h3)) (fun b e => by
   by_cases hb : b = a
   ·subst hb; rw [aw] at e; cases e
   ·rw [au hb] at e; exact e) (fun b z => by
   by_cases hb : b = a
   ·subst hb; exact (hza z).elim
   ·have e := k.zl b z
    rw [au hb]; exact e) (fun b _ e => by cases e; exact hza)
 rw [e3] at q
 refine ⟨q, fun b x e => ⟨au (ne b x), n b x⟩, fun b e => ?_, fun b z e => au fun y => hza (by rw [<- y]; exact z)⟩
 by_cases hb : b = a
 ·subst hb; rw [aw] at e; cases e
 ·rw [au hb] at e; exact e
theorem OK.chg (k : OK K H0 Z σ H S) {i : Nat} {a : Addr} {s₀ s : Sl} {o : HO} (h1 : S[i]? = some s₀) (h2 : s₀.mut = true) (h3 : σ[i]? = some (some (.ref a))) (ho : ∃ us, o = .lst us) (hm : s.mut = true) (hs : mQ K H0 (NM Z σ S) (upd H a o) (some (.ref a)) s) :
  OK K H0 Z σ (upd H a o) (S.set i s) /\ Step Z σ S H σ (S.set i s) (upd H a o) := k.chgD h1 h2 h3 hm hs
end
structure ba where
 nx : List Sl -> Prop
 rt : D -> List Sl -> Prop
 bk : List Sl -> Prop := fun _ => False
 ct : List Sl -> Prop := fun _ => False
noncomputable abbrev VTS := ba -> List Sl -> Prop
noncomputable def NP (σ : St) (S : List Sl) : AP := fun a => ∀ (i : Nat) (ad : Option Addr) (ns : List Int), S[i]? = some (.pen ad ns) -> σ[i]? ≠ some (some (V.ref a))
structure Lf (K : PySem.W.Frag) (H0 : Hp) (Z : AP) (σ : St) (S : List Sl) (H : Hp) (V : ba) (E : Ends) : Prop where
 nx : ∀ σ' H' S', OK K H0 Z σ' H' S' -> Step Z σ S H σ' S' H' -> V.nx S' -> E.nx σ' H'
 bk : ∀ σ' H' S', OK K H0 Z σ' H' S' -> Step Z σ S H σ' S' H' -> V.bk S' -> E.bk σ' H'
 ct : ∀ σ' H' S', OK K H0 Z σ' H' S' -> Step Z σ S H σ' S' H' -> V.ct S' -> E.ct σ' H'
 rt : ∀ v d σ' H' S', OK K H0 Z σ' H' S' -> Step Z σ S H σ' S' H' -> Rep K (NP σ' S') (Fr H0) H' v d -> V.rt d S' -> E.rt v H'
theorem Lf.step {H0 H H1 : Hp} {σ σ1 : St} {S S1 : List Sl} {V : ba} {E : Ends} (l : Lf K H0 Z σ S H V E) (st : Step Z σ S H σ1 S1 H1) : Lf K H0 Z σ1 S1 H1 V E :=
 ⟨fun _ _ _ k s => l.nx _ _ _ k (st.trans s), fun _ _ _ k s => l.bk _ _ _ k (st.trans s), fun _ _ _ k s => l.ct _ _ _ k (st.trans s), fun _ _ _ _ _ k s => l.rt _ _ _ _ _ k (st.trans s)⟩
noncomputable def xm (K : PySem.W.Frag) (ts : TS) (t : VTS) : Prop := ∀ H0 Z σ H S V E, OK K H0 Z σ H S -> t V S -> Lf K H0 Z σ S H V E -> ts E σ H
structure VS (K : PySem.W.Frag) (X : Cx) (st : Stmt) (ts : TS) (t : VTS) : Prop where
 ps : PS X st ts
 snd : xm K ts t
structure VSs (K : PySem.W.Frag) (X : Cx) (st : List Stmt) (ts : TS) (t : VTS) : Prop where
 ps : PSs X st ts
 snd : xm K ts t
inductive Wk : List Sl -> List Sl -> Prop where
 | nil : Wk [] []
 | keep {s : Sl} {S S' : List Sl} : Wk S S' -> Wk (s :: S) (s :: S')
 | fz {ds : List D} {S S' : List Sl} : Wk S S' -> Wk (.own ds :: S) (.val (.lst ds) :: S')
 | fd {ks : List (List Int)} {ds : List D} {S S' : List Sl} : Wk S S' -> Wk (.odi ks ds :: S) (.val (.dic ks ds) :: S')
 | drop {s : Sl} {S S' : List Sl} : Wk S S' -> Wk (s :: S) (.no :: S')
theorem Wk.refl : ∀ S, Wk S S
 | [] => .nil
 | _ :: r => .keep (Wk.refl r)
theorem Wk.len {S S' : List Sl} (h : Wk S S') : S.length = S'.length := by induction h <;> simp_all
theorem Wk.at_ {S S' : List Sl} (h : Wk S S') : ∀ {i : Nat} {s : Sl}, S'[i]? = some s -> ∃ s₀, S[i]? = some s₀ /\ (s = s₀ \/ s = .no \/ (∃ ds, s₀ = .own ds /\ s = .val (.lst ds)) \/ ∃ ks ds, s₀ = .odi ks ds /\ s = .val (.dic ks ds)) := by
 induction h with
 | nil => intro i s h; simp at h
 | keep h ih =>
  intro i s e
  cases i with
  | zero => simp at e; subst e; exact ⟨_, rfl, .inl rfl⟩
  | succ i => simpa using ih (i := i) (by simpa using e)
 | fz h ih =>
  intro i s e
  cases i with
  | zero => simp at e; subst e; exact ⟨_, rfl, .inr (.inr (.inl ⟨_, rfl, rfl⟩))⟩
  | succ i => simpa using ih (i := i) (by simpa using e)
 | fd h ih =>
  intro i s e
  cases i with
  | zero => simp at e; subst e; exact ⟨_, rfl, .inr (.inr (.inr ⟨_, _, rfl, rfl⟩))⟩
  | succ i => simpa using ih (i := i) (by simpa using e)
 | drop h ih =>
  intro i s e
  cases i with
  | zero => simp at e; subst e; exact ⟨_, rfl, .inr (.inl rfl)⟩
  | succ i => simpa using ih (i := i) (by simpa using e)
theorem Wk.mut {S S' : List Sl} (h : Wk S S') {i : Nat} {s : Sl} (e : S'[i]? = some s) (m : s.mut = true) : S[i]? = some s := by
 obtain ⟨s₀, h1, rfl | rfl | ⟨ds, rfl, rfl⟩ | ⟨ks, ds, rfl, rfl⟩⟩ := h.at_ e
 ·exact h1
 ·cases m
 ·cases m
 ·cases m
theorem OK.wk {H H0 : Hp} {S S' : List Sl} (k : OK K H0 Z σ H S) (w : Wk S S') : OK K H0 Z σ H S' /\ Step Z σ S H σ S' H := by
 have n : ∀ a, NM Z σ S a -> NM Z σ S' a := fun a x z => by
  rcases z with ⟨i, s, h1, h2, h3⟩ | z
  ·exact x (.inl ⟨i, s, w.mut h1 h2, h2, h3⟩)
  ·exact x (.inr z)
 refine ⟨⟨by rw [k.len, w.len], fun i o s h1 h2 => ?_, fun i j a s t h1 h2 m1 m2 h3 h4 => k.inj i j a s t (w.mut h1 m1) (w.mut h2 m2) m1 m2 h3 h4, k.dom, k.zl, fun i s a h1 m h3 => k.nz i s a (w.mut h1 m) m h3⟩, fun a x _ => ⟨rfl, n a x⟩, fun _ e => e, fun _ _ _ => rfl⟩
 obtain ⟨s₀, e, rfl | rfl | ⟨ds, rfl, rfl⟩ | ⟨ks, ds, rfl, rfl⟩⟩ := w.at_ h2
 ·have q := k.at_ i o s h1 e
  cases s with
  | no => trivial
  | val d => obtain ⟨v, e, r⟩ := q; exact ⟨v, e, r.mono (fun a x _ => ⟨n a x, rfl⟩) fun _ x => x⟩
  | fre d => obtain ⟨v, e, r⟩ := q; exact ⟨v, e, r.mono (fun a x _ => ⟨n a x, rfl⟩) fun _ x => x⟩
  | own ds => obtain ⟨a, vs, e, e', e0, r⟩ := q; exact ⟨a, vs, e, e', e0, r.mono (fun a x _ => ⟨n a x, rfl⟩) fun _ x => x⟩
  | pen ad ns => exact q
  | odi ks ds => obtain ⟨a, vs, e, e', e0, ek, r⟩ := q; exact ⟨a, vs, e, e', e0, ⟨ek.1, ek.2.mono (fun a x _ => ⟨n a x, rfl⟩) fun _ x => x⟩, r.mono (fun a x _ => ⟨n a x, rfl⟩) fun _ x => x⟩
  | obj k => obtain ⟨a, e, e0, r⟩ := q; exact ⟨a, e, e0, k.mono (fun a x _ => ⟨n a x, rfl⟩) rfl r⟩
 ·trivial
 ·obtain ⟨a, vs, e1, e2, e3, r⟩ := k.at_ i o _ h1 e
  subst e1
  refine ⟨.ref a, rfl, .lst ?_ trivial e2 (r.mono (fun a x _ => ⟨n a x, rfl⟩) fun _ _ => trivial)⟩
  intro z
  rcases z with ⟨j, s, g1, g2, g3⟩ | z
  ·have := k.inj i j a _ s e (w.mut g1 g2) rfl g2 h1 g3
   subst this
   rw [h2] at g1; cases g1; cases g2
  ·exact k.nz i _ a e rfl h1 z
 ·obtain ⟨a, vs, e1, ⟨ob, e2⟩, e3, ek, r⟩ := k.at_ i o _ h1 e
  subst e1
  refine ⟨.ref a, rfl, .dic ?_ trivial e2 ek.1 (ek.2.mono (fun a x _ => ⟨n a x, rfl⟩) fun _ _ => trivial) (r.mono (fun a x _ => ⟨n a x, rfl⟩) fun _ _ => trivial)⟩
  intro z
  rcases z with ⟨j, s, g1, g2, g3⟩ | z
  ·have := k.inj i j a _ s e (w.mut g1 g2) rfl g2 h1 g3
   subst this
   rw [h2] at g1; cases g1; cases g2
  ·exact k.nz i _ a e rfl h1 z
section
variable {K : PySem.W.Frag} {X : Cx} {m : Bool} {e a b c : Expr} {ta tb tc te : TE} {va vb vc : VT} {pos : Pos} {st : Stmt} {rest : List Stmt} {t u : TS} {v w : VTS}
noncomputable def uC : VTS := fun V S => V.nx S
noncomputable def Ab (t u : VTS) : VTS := fun V S => t { V with nx := fun S' => ∃ S'', Wk S' S'' /\ u V S'' } S
theorem bw : VSs K X [] nL uC := ⟨kW, fun H0 Z σ H S V E k h l => l.nx σ H S k .refl h⟩
theorem ao (h : VS K X st t v) : VSs K X [st] t v := ⟨kX h.ps, h.snd⟩
theorem ai (h1 : VS K X st t v) (h2 : VSs K X rest u w) : VSs K X (st :: rest) (nM t u) (Ab v w) := ⟨ez h1.ps h2.ps, fun H0 Z σ H S V E k h l =>
 h1.snd H0 Z σ H S _ _ k h ⟨fun σ' H' S' k' st zt1 => by obtain ⟨S'', wk, q⟩ := zt1; exact h2.snd H0 Z σ' H' S'' V E (k'.wk wk).1 q (l.step (st.trans (k'.wk wk).2)), l.bk, l.ct, l.rt⟩⟩
noncomputable def xn : VTS := fun _ _ => False
theorem jy : VS K X st fO xn := ⟨nO, fun _ _ _ _ _ _ _ _ h _ => h.elim⟩
noncomputable def uD (va : VT) : VTS := fun V S => va S fun _ S1 => V.nx S1
theorem df (h : VE K X false e te va) (hs : swapsWith e none pos.line X.env = pure false := by rfl) : VS K X (.Expr e pos) (nN te) (uD va) := ⟨kY h.pe hs, fun H0 Z σ H S V E k t l => h.snd H0 Z σ H S _ _ k t fun v H' r S' k' st _ q => l.nx σ H' S' k' st q⟩
noncomputable def retO : Option Sl -> Option D
 | some (.own ds) => some (.lst ds)
 | some (.odi ks ds) => some (.dic ks ds)
 | _ => none
noncomputable def retD (S : List Sl) : VR -> Option D
 | .d x => some x
 | .own i => retO S[i]?
noncomputable def Ac (va : VT) : VTS := fun V S => va S fun r S1 => ∃ d, retD S1 r = some d /\ V.rt d S1
theorem OK.ret {H0 H : Hp} {v : V} (k : OK K H0 Z σ H S) (h : dA K (FM H0 true) Z σ S H v r) (e : retD S r = some d) : Rep K (NP σ S) (Fr H0) H v d := by
 have np : ∀ a, NM Z σ S a -> NP σ S a := fun a n i ad ns h1 h2 => n (.inl ⟨i, _, h1, rfl, h2⟩)
 cases r with
 | d x => cases e; exact Rep.mono (fun a n _ => ⟨np a n, rfl⟩) (fun _ x => x rfl) h
 | own i =>
  have h : σ[i]? = some (some v) := h
  have e : retO S[i]? = some d := e
  cases es : S[i]? with
  | none => rw [es] at e; cases e
  | some s =>
   rw [es] at e
   cases s with
   | fre d => cases e
   | own ds =>
    cases e
    obtain ⟨a, vs, h1, h2, h3, h4⟩ := k.at_ _ _ _ h es
    cases h1
    refine .lst (fun i2 ad ns g1 g2 => ?_) ⟨a, rfl, h3⟩ h2 (h4.mono (fun a n _ => ⟨np a n, rfl⟩) fun _ x => x)
    have := k.inj _ _ a _ _ es g1 rfl rfl h g2
    subst this
    rw [es] at g1; cases g1
   | odi ks ds =>
    cases e
    obtain ⟨a, vs, h1, ⟨ob, h2⟩, h3, hk, h4⟩ := k.at_ _ _ _ h es
    cases h1
    refine .dic (fun i2 ad ns g1 g2 => ?_) ⟨a, rfl, h3⟩ h2 hk.1 (Reps.flat (hk.2.mono (fun a n _ => ⟨np a n, rfl⟩) fun _ x => x) (fW _)) (h4.mono (fun a n _ => ⟨np a n, rfl⟩) fun _ x => x)
    have := k.inj _ _ a _ _ es g1 rfl rfl h g2
    subst this
    rw [es] at g1; cases g1
   | no => cases e
   | val x => cases e
   | pen a b => cases e
   | obj k => cases e
theorem aF (h : VE K X true e te va) : VS K X (.Return (some e) pos) (zE te) (Ac va) := ⟨wo h.pe, fun H0 Z σ H S V E k t l => h.snd H0 Z σ H S _ _ k t fun v H' r S' k' st rr zt1 => by obtain ⟨d, e, q⟩ := zt1; exact l.rt v d σ H' S' k' st (k'.ret rr e) q⟩
noncomputable def Ad (c : VTT) (t u : VTS) : VTS := fun V S => c S fun b S1 => if b = true then t V S1 else u V S1
theorem ck {A B : List Stmt} {tA : TT} {wA : VTT} (hc : VTe K X c tA wA) (ha : VSs K X A t v) (hb : VSs K X B u w) : VS K X (.If c A B pos) (wq tA t u) (Ad wA v w) := ⟨um hc.pe ha.ps hb.ps, fun H0 Z σ H S V E k t l =>
 hc.snd H0 Z σ H S _ _ k t fun b H1 S1 k1 st1 q => by
  cases b with
  | true => rw [if_pos rfl] at q ⊢; exact ha.snd H0 Z σ H1 S1 V E k1 q (l.step st1)
  | false => rw [if_neg Bool.false_ne_true] at q ⊢; exact hb.snd H0 Z σ H1 S1 V E k1 q (l.step st1)⟩
noncomputable abbrev VG := D -> List Sl -> (List Sl -> Prop) -> Prop
noncomputable def SndG (K : PySem.W.Frag) (g : TG) (vg : VG) : Prop := ∀ H0 Z σ H S v d Q C, OK K H0 Z σ H S -> Rep K (NM Z σ S) AnyF H v d -> vg d S Q -> (∀ σ' H' S', OK K H0 Z σ' H' S' -> Step Z σ S H σ' S' H' -> Q S' -> C σ' H') -> g v σ H C
noncomputable def Ae (g : TG) : Prop := ∀ x σ H Q1 Q2, (∀ σ H, Q1 σ H -> Q2 σ H) -> g x σ H Q1 -> g x σ H Q2
noncomputable def xo (g : TGs) : Prop := ∀ x σ H Q1 Q2, (∀ σ H, Q1 σ H -> Q2 σ H) -> g x σ H Q1 -> g x σ H Q2
structure VGe (K : PySem.W.Frag) (X : Cx) (e : Expr) (g : TG) (vg : VG) : Prop where
 pg : PG X e g
 snd : SndG K g vg
 mono : Ae g
noncomputable def vgN (i : Nat) : VG := fun d S Q => i < S.length /\ Q (S.set i (.val d))
theorem aB {i : Nat} (h : PG X e (aZ i)) : VGe K X e (aZ i) (vgN i) := ⟨h, fun H0 Z σ H S v d Q C k r zt1 hc => by obtain ⟨hi, q⟩ := zt1; exact hc _ _ _ (k.setVal hi r).1 (k.setVal hi r).2 q, fun _ _ _ _ _ h q => h _ _ q⟩
noncomputable def Af (K : PySem.W.Frag) (g : TGs) (vg : List D -> List Sl -> (List Sl -> Prop) -> Prop) : Prop := ∀ H0 Z σ H S vs ds Q C, OK K H0 Z σ H S -> Reps K (NM Z σ S) AnyF H vs ds -> vg ds S Q -> (∀ σ' H' S', OK K H0 Z σ' H' S' -> Step Z σ S H σ' S' H' -> Q S' -> C σ' H') -> g vs σ H C
structure VGs (K : PySem.W.Frag) (X : Cx) (es : List Expr) (g : TGs) (vg : List D -> List Sl -> (List Sl -> Prop) -> Prop) : Prop where
 pg : PGs X es g
 snd : Af K g vg
 mono : xo g
noncomputable def uE : List D -> List Sl -> (List Sl -> Prop) -> Prop := fun ds S Q => ds = [] /\ Q S
noncomputable def oy (t : VG) (u : List D -> List Sl -> (List Sl -> Prop) -> Prop) : List D -> List Sl -> (List Sl -> Prop) -> Prop := fun ds S Q => ∃ d r, ds = d :: r /\ t d S fun S1 => u r S1 Q
theorem dh : VGs K X [] wu uE := ⟨qV, fun H0 Z σ H S vs ds Q C k r zq1 hc => by obtain ⟨e, q⟩ := zq1; subst e; cases r; exact ⟨rfl, hc _ _ _ k .refl q⟩, fun _ _ _ _ _ h q => ⟨q.1, h _ _ q.2⟩⟩
theorem aT {es : List Expr} {g : TG} {gs : TGs} {vg : VG} {vgs : List D -> List Sl -> (List Sl -> Prop) -> Prop} (h1 : VGe K X e g vg) (h2 : VGs K X es gs vgs) (hs : (assignEach (e :: es) X.env).map (·.2) = assign e X.env :: (assignEach es X.env).map (·.2) := by rfl) :
  VGs K X (e :: es) (kZ g gs) (oy vg vgs) := ⟨nP h1.pg h2.pg hs, fun H0 Z σ H S vs ds Q C k r zq1 hc => by
 obtain ⟨d, rd, e, q⟩ := zq1
 subst e
 cases r with
 | cons rv rr => exact ⟨_, _, rfl, h1.snd H0 Z σ H S _ _ _ _ k rv q fun σ1 H1 S1 k1 st1 q1 => h2.snd H0 Z σ1 H1 S1 _ _ _ _ k1 (rr.step st1) q1 fun σ2 H2 S2 k2 st2 q2 => hc _ _ _ k2 (st1.trans st2) q2⟩, fun x σ H Q1 Q2 h zt1 => by obtain ⟨v, r, e, q⟩ := zt1; exact ⟨v, r, e, h1.mono _ _ _ _ _ (fun σ' H' q' => h2.mono _ _ _ _ _ h q') q⟩⟩
noncomputable def vgT (n : Nat) (u : List D -> List Sl -> (List Sl -> Prop) -> Prop) : VG := fun d S Q => ∃ ds, d = .tup ds /\ ds.length = n /\ u ds S Q
theorem eh {es : List Expr} {kk : Nat} {gs : TGs} {vgs : List D -> List Sl -> (List Sl -> Prop) -> Prop} {n : Nat} (hK : X.K = K) (hc : X.calm = true) (h : VGs K X es gs vgs) (hn : (assignEach es X.env).length = n := by rfl) (hst : (assignEach es X.env).findIdx? (·.1) = none := by rfl) :
  VGe K X (.Tuple es kk pos) (wy K n gs) (vgT n vgs) := ⟨by subst hK; exact wz hc h.pg hn hst, fun H0 Z σ H S v d Q C k r zq1 hcc => by
 obtain ⟨ds, e, hl, q⟩ := zq1
 subst e
 obtain ⟨a, vs, rfl, hq, rr⟩ := r.sqT
 exact ⟨a, vs, rfl, hq, by rw [rr.length]; exact hl, h.snd H0 Z σ H S _ _ _ _ k rr q hcc⟩, fun x σ H Q1 Q2 hh zt1 => by obtain ⟨a, xs, e1, e2, e3, q⟩ := zt1; exact ⟨a, xs, e1, e2, e3, h.mono _ _ _ _ _ hh q⟩⟩
noncomputable def kz (va : VT) (g : VG) : VTS := fun V S => va S fun r S1 => ∃ d, r = .d d /\ g d S1 V.nx
theorem iD {g : TG} {vg : VG} (ha : SndE K m te va) (hg : SndG K g vg) : xm K (cU te g) (kz va vg) := fun H0 Z σ H S V E k t l => ha H0 Z σ H S _ _ k t fun v H1 r S1 k1 st1 rr zq1 => by
 obtain ⟨d, e, q⟩ := zq1
 subst e
 exact hg H0 Z σ H1 S1 v d _ _ k1 (Rep.mono (fun _ n _ => ⟨n, rfl⟩) (fun _ _ => trivial) rr) q fun σ2 H2 S2 k2 st2 q2 => l.nx σ2 H2 S2 k2 (st1.trans st2) q2
theorem xp {i : Nat} {x : Str} {pos' : Pos} (ps : ∀ te, PE X e te -> PS X (.Assign [.Name x pos'] e pos) (cU te (aZ i))) (h : VE K X false e te va) : VS K X (.Assign [.Name x pos'] e pos) (cU te (aZ i)) (kz va (vgN i)) :=
 ⟨ps te h.pe, iD h.snd fun H0 Z σ H S v d Q C k r zt1 hc => by obtain ⟨hi, q⟩ := zt1; exact hc _ _ _ (k.setVal hi r).1 (k.setVal hi r).2 q⟩
theorem oz {tg : Expr} {g : TG} {vg : VG} (h : VE K X false e te va) (hg : VGe K X tg g vg) (hs : swapsWithSole [tg] e pos.line X.env = pure false := by rfl) (hw : swappedStores [tg] e X.env = pure none := by rfl)
  (h1 : (assignEach [tg] X.env).map (·.2) = [assign tg X.env] := by rfl) : VS K X (.Assign [tg] e pos) (cU te g) (kz va vg) := ⟨nQ h.pe hg.pg hs hw h1, iD h.snd hg.snd⟩
noncomputable def oA (i : Nat) (t : VTN) : VTS := fun V S => t S fun ds S1 => i < S1.length /\ V.nx (S1.set i (.own ds))
theorem cz {i : Nat} {x : Str} {pos' : Pos} {tn : VTN} (ps : ∀ te, PE X e te -> PS X (.Assign [.Name x pos'] e pos) (cU te (aZ i))) (h : VN K X e te tn) : VS K X (.Assign [.Name x pos'] e pos) (cU te (aZ i)) (oA i tn) :=
 ⟨ps te h.pe, fun H0 Z σ H S V E k t l => h.snd H0 Z σ H S _ _ k t fun a vs ds H1 H' S' k1 st1 ha hg hl rr zq1 => by
  obtain ⟨hi, q⟩ := zq1
  obtain ⟨k2, st2⟩ := k1.setNew (s := .own ds) hi ha hg ⟨a, vs, rfl, hl, k1.dom a ha, rr⟩ rfl
  exact l.nx _ _ _ k2 (st1.trans st2) q⟩
noncomputable def uF (i : Nat) (t : VTN) : VTS := fun V S => t S fun ds S1 => ∃ ns : List Int, ds = ns.map .int /\ i < S1.length /\ V.nx (S1.set i (.pen none ns))
theorem lE {i : Nat} {x : Str} {pos' : Pos} {tn : VTN} (ps : ∀ te, PE X e te -> PS X (.Assign [.Name x pos'] e pos) (cU te (aZ i))) (h : VN K X e te tn) : VS K X (.Assign [.Name x pos'] e pos) (cU te (aZ i)) (uF i tn) :=
 ⟨ps te h.pe, fun H0 Z σ H S V E k t l => h.snd H0 Z σ H S _ _ k t fun a vs ds H1 H' S' k1 st1 ha hg hl rr zq1 => by
  obtain ⟨ns, e, hi, q⟩ := zq1
  subst e
  obtain ⟨k2, st2⟩ := k1.setNew (s := .pen none ns) hi ha hg ⟨a, rfl, (fun _ z => nomatch z), by rw [<- Reps.toInts rr]; exact hl⟩ rfl
  exact l.nx _ _ _ k2 (st1.trans st2) q⟩
end
end VL
end
section
namespace VL
open PySem L2
section
variable {K : PySem.W.Frag} {X : Cx} {m : Bool} {e a b c : Expr} {ta tb tc te ti : TE} {va vb vc vi : VT} {pos : Pos} {st : Stmt} {rest : List Stmt} {t u : TS} {v w : VTS}
theorem OK.ownAt {H0 H : Hp} (k : OK K H0 Z σ H S) {i : Nat} {s : Sl} (e : S[i]? = some s) : ∃ o, σ[i]? = some o /\ mQ K H0 (NM Z σ S) H o s := by
 have hi : i < σ.length := by rw [k.len]; exact (List.getElem?_eq_some_iff.mp e).1
 exact ⟨_, List.getElem?_eq_getElem hi, k.at_ i _ s (List.getElem?_eq_getElem hi) e⟩
noncomputable def xq (i : Nat) (ve : VT) : VT := fun S Q => (∃ ds, S[i]? = some (.own ds)) /\ ve S fun r S1 => ∃ d ds, r = .d d /\ S1[i]? = some (.own ds) /\ ds.length <= 1000000 /\ Q (.d .non) (S1.set i (.own (ds ++ [d])))
theorem xr {apos : Pos} {o : Expr} (i : Nat) (hK : X.K = K) (ho : PE X o (cg i)) (h : VE K X true e te va) (pe : ∀ te, PE X e te -> PE X (.Call (.Attribute o "append" apos) [e] [] pos) (tBM X.K "list" fy (cg i) (cV te fR))) :
  VE K X m (.Call (.Attribute o "append" apos) [e] [] pos) (tBM K "list" fy (cg i) (cV te fR)) (xq i va) := ⟨by subst hK; exact pe te h.pe, fun H0 Z σ H S Q C k zq1 hc => by
 obtain ⟨⟨ds0, e0⟩, t⟩ := zq1
 obtain ⟨o, h1, a, vs, rfl, h2, h3, h4⟩ := k.ownAt e0
 refine ⟨.ref a, h1, .inl ⟨rfl, vs, .inl (.inl h2)⟩, ?_⟩
 refine h.snd H0 Z σ H S _ _ k t fun x H1 r S1 k1 st1 rr zr1 => ?_
 obtain ⟨d, ds, er, e1, hl, q⟩ := zr1
 subst er
 obtain ⟨o', g1, a', vs', rfl, g2, g3, g4⟩ := k1.ownAt e1
 rw [h1] at g1; cases g1
 refine ⟨a, vs', x, rfl, rfl, g2, by rw [g4.length, sizeLine_eq]; lia, ?_⟩
 have na : NM Z σ S1 a -> False := fun n => n (.inl ⟨i, _, e1, rfl, h1⟩)
 have hm : ∀ b, NM Z σ S1 b -> H1 b ≠ none -> NM Z σ S1 b /\ upd H1 a (.lst (vs' ++ [x])) b = H1 b := fun b n _ => ⟨n, au fun z => na (by rw [<- z]; exact n)⟩
 obtain ⟨k2, st2⟩ := k1.chg (s := .own (ds ++ [d])) (o := .lst (vs' ++ [x])) e1 rfl h1 ⟨_, rfl⟩ rfl ⟨a, _, rfl, aw, g3, Reps.append (g4.mono hm fun _ x => x) (.cons (Rep.mono hm (fun _ x => x rfl) rr) .nil)⟩
 exact hc .non _ (.d .non) _ k2 (st1.trans st2) Rep.non q⟩
theorem oB {apos : Pos} {o : Expr} (i : Nat) (hK : X.K = K) (ho : PE X o (cg i)) (h : VE K X true e te va) (hbase : attributeBase o "append" X.env (eval o X.env) = eval o X.env := by rfl)
  (hfew : ((backTo pos (starEach (e :: []) X.env)).all (fun x => !x.1) && (backToKw pos (keywordEach [] X.env)).all (fun x => x.1.isSome)
   && decide ((e :: []).length + ([] : List Keyword).length + (if ([] : List Keyword).isEmpty then 0 else 1) < 30)) = true := by rfl)
  (hline : (apos.endLine == pos.line) = true := by rfl) (hs : starEach (e :: []) X.env = (false, eval e X.env) :: starEach [] X.env := by rfl) (hplain : (backTo pos (starEach [] X.env)).any (·.1) = false := by rfl) :
  VE K X m (.Call (.Attribute o "append" apos) [e] [] pos) (tBM K "list" fy (cg i) (cV te fR)) (xq i va) :=
 xr i hK ho h fun te hp => uy PySem.F.plainAttrs_list PySem.F.slot_list_append PySem.F.type_list_append mJ ho (bZ hp dD hs) hbase hfew hline hs hplain
noncomputable def oC (i : Nat) (ve vi : VT) : VTS := fun V S => ve S fun r S1 => (∃ s, S1[i]? = some s /\ s.mut = true) /\ vi S1 fun ri S2 => ∃ j, get S2 ri = some (.int j) /\
  ((∃ ad ns k n, S2[i]? = some (.pen ad ns) /\ ixN ns.length j = some k /\ r = .d (.int n) /\ V.nx (S2.set i (.pen ad (ns.set k n)))) \/
   (∃ ds k d, S2[i]? = some (.own ds) /\ ixN ds.length j = some k /\ r = .d d /\ V.nx (S2.set i (.own (ds.set k d)))))
theorem jz {o ie : Expr} {posS : Pos} (i : Nat) (ho : PE X o (cg i)) (h : VE K X true e te va) (hi : VE K X false ie ti vi)
  (ha : ∀ v, assign (.Subscript o ie posS) X.env v = (do
   let ov <- holding [v] (eval o X.env)
   let iv <- holding [v, ov] (eval ie X.env)
   standAt posS
   holding [v, ov, iv] (setItem ov iv v)
   release [v, ov, iv] []) := by intro _; rfl)
  (hs : swapsWithSole [.Subscript o ie posS] e pos.line X.env = pure false := by rfl) (hw : swappedStores [.Subscript o ie posS] e X.env = pure none := by rfl)
  (h1 : (assignEach [.Subscript o ie posS] X.env).map (·.2) = [assign (.Subscript o ie posS) X.env] := by rfl) :
  VS K X (.Assign [.Subscript o ie posS] e pos) (cU te (wC (cg i) ti n5)) (oC i va vi) := ⟨nQ h.pe (wD ho hi.pe set_list ha) hs hw h1, fun H0 Z σ H S V E k t l => by
 refine h.snd H0 Z σ H S _ _ k t fun x H1 r S1 k1 st1 rr zr1 => ?_
 obtain ⟨⟨s1, em, hm1⟩, q⟩ := zr1
 -- the slot's address stays: σ is one
 have fin : ∀ (p : Addr), σ[i]? = some (some (.ref p)) -> wC (cg i) ti n5 x σ H1 E.nx := fun p hp => by
  refine ⟨.ref p, hp, hi.snd H0 Z σ H1 S1 _ _ k1 q fun y H2 ri S2 k2 st2 r2 zr1 => ?_⟩
  obtain ⟨j, ej, q2⟩ := zr1
  cases r2.get k2 ej
  have rr2 := rr.step st2
  rcases q2 with ⟨ad, ns, kk, n, e1, e2, er, q2⟩ | ⟨ds, kk, d, e1, e2, er, q2⟩
  ·subst er
   cases (show Rep K _ _ H2 x (.int n) from rr2)
   obtain ⟨o', g1, a', rfl, g2, g3⟩ := k2.ownAt e1
   rw [hp] at g1; cases g1
   refine ⟨p, _, j, kk, rfl, rfl, g3, by rw [List.length_map]; exact e2, ?_⟩
   obtain ⟨k3, st3⟩ := k2.chg (s := .pen ad (ns.set kk n)) (o := .lst ((ns.map L2.V.int).set kk (.int n))) e1 rfl hp ⟨_, rfl⟩ rfl ⟨p, rfl, g2, by rw [aw, List.map_set]⟩
   exact l.nx _ _ _ k3 ((st1.trans st2).trans st3) q2
  ·subst er
   obtain ⟨o', g1, a', vs, rfl, g2, g3, g4⟩ := k2.ownAt e1
   rw [hp] at g1; cases g1
   refine ⟨p, _, j, kk, rfl, rfl, g2, by rw [g4.length]; exact e2, ?_⟩
   have na : NM Z σ S2 p -> False := fun n => n (.inl ⟨i, _, e1, rfl, hp⟩)
   have hm : ∀ b, NM Z σ S2 b -> H2 b ≠ none -> NM Z σ S2 b /\ upd H2 p (.lst (vs.set kk x)) b = H2 b := fun b n _ => ⟨n, au fun z => na (by rw [<- z]; exact n)⟩
   obtain ⟨k3, st3⟩ := k2.chg (s := .own (ds.set kk d)) (o := .lst (vs.set kk x)) e1 rfl hp ⟨_, rfl⟩ rfl ⟨p, _, rfl, aw, g3, Reps.set (Rep.mono hm (fun _ x => x rfl) rr2) kk (g4.mono hm fun _ x => x)⟩
   exact l.nx _ _ _ k3 ((st1.trans st2).trans st3) q2
 -- which address it is: look once
 obtain ⟨o1, g1, g2⟩ := k1.ownAt em
 cases s1 with
 | no => cases hm1
 | val d => cases hm1
 | fre d => cases hm1
 | own ds => obtain ⟨p, _, rfl, _⟩ := g2; exact fin p g1
 | pen ad ns => obtain ⟨p, rfl, _⟩ := g2; exact fin p g1
 | odi ks ds => obtain ⟨p, _, rfl, _⟩ := g2; exact fin p g1
 | obj k => obtain ⟨p, rfl, _⟩ := g2; exact fin p g1⟩
noncomputable def pick : List VR -> Nat -> Option (Nat × List VR)
 | .own i :: r, 0 => some (i, r)
 | x :: r, j + 1 => (pick r j).map fun p => (p.1, x :: p.2)
 | _, _ => none
noncomputable def xt (j : Nat) (p : List Int -> List D -> (D -> List Int -> Prop) -> Prop) (vr : VTA) : VT := fun S Q => vr S fun rs S1 => ∃ i rs' ad ns ds, pick rs j = some (i, rs') /\ S1[i]? = some (.pen ad ns) /\ allD rs' = some ds /\ p ns ds fun d ns' => Q (.d d) (S1.set i (.pen ad ns'))
theorem cw.pick : ∀ {j : Nat} {vs : List V} {rs : List VR} {i : Nat} {rs' : List VR}, cw K F Z σ S H vs rs -> VL.pick rs j = some (i, rs') -> ∃ v ws us, vs = ws ++ v :: us /\ ws.length = j /\ σ[i]? = some (some v) /\ cw K F Z σ S H (ws ++ us) rs' /\ ws.length <= (ws ++ us).length
 | 0, _, _, i, rs', .cons (r := r) h t, e => by
  cases r with
  | d x => cases e
  | own k => cases e; exact ⟨_, [], _, rfl, rfl, h, t, by simp⟩
 | j + 1, _, _, i, rs', .cons (r := r) (rs := rs) h t, e => by
  have e' : (VL.pick rs j).map (fun p => (p.1, r :: p.2)) = some (i, rs') := by cases r <;> exact e
  obtain ⟨⟨i', q⟩, h1, h2⟩ := Option.map_eq_some_iff.mp e'
  cases h2
  obtain ⟨v, ws, us, rfl, hl, hs, rr, _⟩ := cw.pick t h1
  exact ⟨v, _ :: ws, us, rfl, by simp [hl], hs, .cons h rr, by simp⟩
 | _, _, _, _, _, .nil, e => by cases e
theorem Reps.splitAt {N : AP} : ∀ {ws us : List V} {ds : List D}, Reps K N F H (ws ++ us) ds -> ∃ d1 d2, ds = d1 ++ d2 /\ Reps K N F H ws d1 /\ Reps K N F H us d2
 | [], us, ds, h => ⟨[], ds, rfl, .nil, h⟩
 | w :: ws, us, _, .cons h t => by
  obtain ⟨d1, d2, rfl, h1, h2⟩ := Reps.splitAt (ws := ws) t
  exact ⟨_ :: d1, d2, rfl, .cons h h1, h2⟩
section
variable {es : List Expr} {tr : TA} {vr : VTA} {x : Str} {p0 : Pos} {j k : Nat} {ps : List Str}
theorem bS {jj : Nat} {p : List Int -> List D -> (D -> List Int -> Prop) -> Prop} (E : Has X.prog X.w X.K X.mg X.base k x ps (spI K jj p)) (hr : bQ j X.A) (ha : VA K X false (e :: es) tr vr)
  (hk : k <= j := by decide) (hg : Gl X x := by rfl) (hdb : (x == ("__debug__" : Str)) = false := by decide) (he : starEach (e :: es) X.env = (false, eval e X.env) :: starEach es X.env := by rfl)
  (hpl : (backTo pos (starEach es X.env)).any (·.1) = false := by rfl) : VE K X m (.Call (.Name x p0) (e :: es) [] pos) (fS (spI K jj p) [] E0 tr) (xt jj p vr) := ⟨ly E hr ha.pe hk hg hdb he hpl, fun H0 Z σ H S Q C k t hc =>
 ha.snd H0 Z σ H S _ _ k t fun vs H1 rs S1 k1 st1 rrs zq1 => by
  obtain ⟨i, rs', ad, ns, ds, e1, e2, e3, q⟩ := zq1
  obtain ⟨v, ws, us, rfl, hl, hs, rr, _⟩ := rrs.pick e1
  obtain ⟨o, g1, a, rfl, g2, g3⟩ := k1.ownAt e2
  rw [hs] at g1; cases g1
  have ma : Mo Z σ S1 a := .inl ⟨i, _, e2, rfl, hs⟩
  obtain ⟨d1, d2, rfl, r1, r2⟩ := Reps.splitAt (rr.allD e3)
  have hm : ∀ b, NM Z σ S1 b -> H1 b ≠ none -> b ≠ a /\ H1 b = H1 b := fun b n _ => ⟨fun z => n (by rw [z]; exact ma), rfl⟩
  refine ⟨a, ws, us, ns, d1, d2, _, by rw [List.append_nil], hl, g3, r1.mono hm fun _ _ => trivial, r2.mono hm fun _ _ => trivial, q, fun d ns' v H' q g ga rv => ?_⟩
  -- the pen changed, and the heap grown
  have hG : ∀ b, upd H1 a (.lst (ns'.map V.int)) b ≠ none -> H' b = upd H1 a (.lst (ns'.map V.int)) b := fun b hb => by
   by_cases hba : b = a
   ·subst hba; rw [aw]; exact ga
   ·rw [au hba] at hb ⊢; exact g b hba hb
  obtain ⟨k2, st2⟩ := k1.chg (s := .pen ad ns') (o := .lst (ns'.map V.int)) e2 rfl hs ⟨_, rfl⟩ rfl ⟨a, rfl, g2, aw⟩
  have k3 := k2.grow hG
  refine hc v H' (.d d) _ k3 ((st1.trans st2).trans (.grow hG)) (show Rep K _ _ H' v d from ?_) q
  refine (Rep.avoid (N' := NM Z σ (S1.set i (.pen ad ns'))) (fun b z => k3.mo (Classical.not_not.mp z)) (fun b zr1 => ?_) rv).mono (fun _ n _ => ⟨n, rfl⟩) (fun o zt1 _ => by obtain ⟨c, ec, f⟩ := zt1; exact ⟨c, ec, k1.dom c f⟩)
  obtain ⟨c, ec, f⟩ := zr1
  cases ec
  refine k2.nm ?_
  rw [au]
  ·exact f
  ·intro z; subst z; rw [g3] at f; cases f⟩
end
end
end VL
end
section
namespace VL
open PySem L2
noncomputable def Gd (K : PySem.W.Frag) (Z : AP) (J : It) (ds : List D) (σ : St) (S : List Sl) (H : Hp) : Prop := ∀ σ2 S2 H2, (∀ p, H2 p = none -> NM Z σ2 S2 p) -> (∀ a, NM Z σ S a -> H a ≠ none -> H2 a = H a /\ NM Z σ2 S2 a) -> ∀ i, (i < ds.length -> J.go i H2) /\ (∀ x H3, J.yld i H2 x H3 -> i < ds.length -> (∀ a, H2 a ≠ none -> H3 a = H2 a) /\ ∃ d, ds[i]? = some d /\ Rep K (NM Z σ2 S2) AnyF H3 x d) /\ (i = ds.length -> J.stop i H2)
noncomputable def SndI (K : PySem.W.Frag) (wi : TI) (vi : VTN) : Prop := ∀ H0 Z σ H S Q C, OK K H0 Z σ H S -> vi S Q -> (∀ J ds H' S', OK K H0 Z σ H' S' -> Step Z σ S H σ S' H' -> Gd K Z J ds σ S' H' -> Q ds S' -> C J H') -> wi σ H C
structure VI (K : PySem.W.Frag) (X : Cx) (tg e : Expr) (wi : TI) (vi : VTN) : Prop where
 pi : PI X tg e wi
 snd : SndI K wi vi
section
variable {K : PySem.W.Frag} {X : Cx} {m : Bool} {e a b c tg : Expr} {ta tb tc te ti : TE} {va vb vc : VT} {pos : Pos} {st : Stmt} {rest : List Stmt} {t u : TS} {v w : VTS}
noncomputable def Ag (va : VT) : VTN := fun S Q => va S fun r S1 => ∃ ds, r = .d (.lst ds) /\ Q ds S1
noncomputable def Ah (va : VT) : VTN := fun S Q => va S fun r S1 => ∃ ds, r = .d (.tup ds) /\ Q ds S1
theorem b7 (hK : X.K = K) (h : VE K X false e te va) : VI K X tg e (uo K te) (Ag va) := ⟨by subst hK; exact qW h.pe, fun H0 Z σ H S Q C k t hc => h.snd H0 Z σ H S _ _ k t fun v H1 r S1 k1 st1 rr zq1 => by
 obtain ⟨ds, e, q⟩ := zq1
 subst e
 have rr : Rep K _ _ H1 v (.lst ds) := rr
 obtain ⟨a, vs, rfl, hq, _⟩ := rr.sqL
 refine ⟨a, rfl, ⟨vs, hq⟩, hc _ ds H1 S1 k1 st1 (fun σ2 S2 H2 _ st2 i => ?_) q⟩
 obtain ⟨a', vs', e, hq2, r2⟩ := (rr.stp st2).sqL
 cases e
 refine ⟨fun hi => ?_, fun x H3 hy hi => ?_, fun hi => ⟨vs', hq2, by rw [r2.length]; lia⟩⟩
 ·obtain ⟨v, h1, _⟩ := r2.getD (List.getElem?_eq_getElem hi)
  exact ⟨vs', v, hq2, h1⟩
 ·obtain ⟨e, h2⟩ := hy
  obtain ⟨d, h3, h4⟩ := r2.get (h2 vs' hq2)
  exact ⟨fun _ _ => by rw [e], d, h3, h4.mono (fun _ n _ => ⟨n, by rw [e]⟩) fun _ _ => trivial⟩⟩
theorem xu (hK : X.K = K) (h : VE K X false e te va) : VI K X tg e (zG K te) (Ah va) := ⟨by subst hK; exact wG h.pe, fun H0 Z σ H S Q C k t hc => h.snd H0 Z σ H S _ _ k t fun v H1 r S1 k1 st1 rr zq1 => by
 obtain ⟨ds, e, q⟩ := zq1
 subst e
 have rr : Rep K _ _ H1 v (.tup ds) := rr
 obtain ⟨a, vs, rfl, hq, _⟩ := rr.sqT
 refine ⟨a, rfl, ⟨vs, hq⟩, hc _ ds H1 S1 k1 st1 (fun σ2 S2 H2 _ st2 i => ?_) q⟩
 obtain ⟨a', vs', e, hq2, r2⟩ := (rr.stp st2).sqT
 cases e
 refine ⟨fun hi => ?_, fun x H3 hy hi => ?_, fun hi => ⟨vs', hq2, by rw [r2.length]; lia⟩⟩
 ·obtain ⟨v, h1, _⟩ := r2.getD (List.getElem?_eq_getElem hi)
  exact ⟨vs', v, hq2, h1⟩
 ·obtain ⟨e, h2⟩ := hy
  obtain ⟨d, h3, h4⟩ := r2.get (h2 vs' hq2)
  exact ⟨fun _ _ => by rw [e], d, h3, h4.mono (fun _ n _ => ⟨n, by rw [e]⟩) fun _ _ => trivial⟩⟩
noncomputable def rg (lo : Int) (n : Nat) : List D := (List.range n).map fun (i : Nat) => D.int (lo + (i : Int))
theorem eR (lo : Int) (n : Nat) : (rg lo n).length = n := by simp [rg]
theorem oD {lo : Int} {n i : Nat} (h : i < n) : (rg lo n)[i]? = some (.int (lo + (i : Int))) := by simp [rg, h]
theorem oE {lo : Int} {n : Nat} : Gd K Z (Itr lo n) (rg lo n) σ S H := fun σ2 S2 H2 _ st2 i => by
 rw [eR]
 refine ⟨fun h => h, fun x H3 zt1 hi => by obtain ⟨e, hx⟩ := zt1; exact ⟨fun _ _ => by rw [e], _, oD hi, by rw [hx]; exact .int _⟩, fun h => by rw [h]; exact Nat.le_refl _⟩
section
variable {tr : TA} {vr : VTA} {p : Pos}
noncomputable def Ai (vr : VTA) : VTN := fun S Q => vr S fun rs S1 => ∃ j : Int, rs = [.d (.int j)] /\ -(2 ^ 62) <= j /\ j < 2 ^ 62 /\ Q (rg 0 j.toNat) S1
noncomputable def Aj (vr : VTA) : VTN := fun S Q => vr S fun rs S1 => ∃ i j : Int, rs = [.d (.int i), .d (.int j)] /\ (-(2 ^ 62) <= i /\ i < 2 ^ 62 /\ -(2 ^ 62) <= j /\ j < 2 ^ 62) /\ Q (rg i (j - i).toNat) S1
theorem bC (hg : Gl X "range") (hm : X.mg "range" = none) (ha : VA K X false [a] tr vr) (hs : starEach [a] X.env = [(false, eval a X.env)] := by rfl) : VI K X tg (.Call (.Name "range" p) [a] [] pos) (uq tr) (Ai vr) := ⟨mE hg hm ha.pe hs, fun H0 Z σ H S Q C k t hc =>
 ha.snd H0 Z σ H S _ _ k t fun vs H1 rs S1 k1 st1 rrs zq1 => by
  obtain ⟨j, e, h1, h2, q⟩ := zq1
  subst e
  cases rrs with
  | cons r t =>
   cases t
   cases (show Rep K _ _ H1 _ (.int j) from r)
   exact ⟨j, rfl, h1, h2, hc _ _ H1 S1 k1 st1 oE q⟩⟩
theorem mS (hg : Gl X "range") (hm : X.mg "range" = none) (ha : VA K X false [a, b] tr vr) (hs : starEach [a, b] X.env = [(false, eval a X.env), (false, eval b X.env)] := by rfl) (hs2 : starEach [b] X.env = [(false, eval b X.env)] := by rfl) : VI K X tg (.Call (.Name "range" p) [a, b] [] pos) (ur tr) (Aj vr) := ⟨mF hg hm ha.pe hs hs2, fun H0 Z σ H S Q C k t hc =>
 ha.snd H0 Z σ H S _ _ k t fun vs H1 rs S1 k1 st1 rrs zq1 => by
  obtain ⟨i, j, e, h1, q⟩ := zq1
  subst e
  cases rrs with
  | cons r t =>
   cases t with
   | cons r' t =>
    cases t
    cases (show Rep K _ _ H1 _ (.int i) from r)
    cases (show Rep K _ _ H1 _ (.int j) from r')
    exact ⟨i, j, rfl, h1, hc _ _ H1 S1 k1 st1 oE q⟩⟩
end
noncomputable def runFor (vg : VG) (vb : VTS) (V : ba) : List D -> List Sl -> Prop
 | [] => V.nx
 | d :: r => fun S => vg d S fun S3 => vb ⟨runFor vg vb V r, V.rt, V.nx, runFor vg vb V r⟩ S3
noncomputable def Ak (vi : VTN) (vg : VG) (vb : VTS) : VTS := fun V S => vi S fun ds S1 => runFor vg vb V ds S1 \/ ∃ Iv : Nat -> List Sl -> Prop, Iv 0 S1 /\ (∀ i d S2, ds[i]? = some d -> Iv i S2 -> vg d S2 fun S3 => vb { V with nx := Iv (i + 1), ct := Iv (i + 1), bk := V.nx } S3) /\ ∀ S2, Iv ds.length S2 -> V.nx S2
theorem dI {body : List Stmt} {wi : TI} {vi : VTN} {g : TG} {vg : VG} (hp : PassesOwn (model X.prog X.w) X.A X.env X.xe) (hc : X.calm = true) (hi : VI K X tg e wi vi) (hg : VGe K X tg g vg) (hb : VSs K X body t v) (hs : ∀ x, foldedSetIterable e X.env x = pure x := by intro _; rfl) :
  VS K X (.For tg e body [] pos) (zH wi g t) (Ak vi vg v) := ⟨wH hp hc hi.pi hg.pg hb.ps hs, fun H0 Z σ H S V E k t l => hi.snd H0 Z σ H S _ _ k t fun J ds H1 S1 k1 st1 gd hh => by
 rcases hh with hr | ⟨Iv, i0, hs, hd⟩
 ·refine ⟨fun i m σ H => m = ds.length - i /\ i <= ds.length /\ ∃ S2, OK K H0 Z σ H S2 /\ Step Z _ S1 H1 σ S2 H /\ runFor vg v V (ds.drop i) S2, ⟨ds.length, by simp, Nat.zero_le _, S1, k1, .refl, by simpa using hr⟩, ?_⟩
  rintro i m σ2 H2 ⟨rfl, hi, S2, k2, st2, p⟩
  obtain ⟨g1, g2, g3⟩ := gd σ2 S2 H2 (fun _ => k2.nm) st2.1 i
  by_cases hlt : i < ds.length
  ·rw [List.drop_eq_getElem_cons hlt] at p
   refine .inr ⟨g1 hlt, fun σ' H' => ∃ S', OK K H0 Z σ' H' S' /\ Step Z σ S1 H1 σ' S' H' /\ runFor vg v V (ds.drop (i + 1)) S', fun σ' H' p' => ⟨ds.length - (i + 1), by lia, rfl, hlt, p'⟩, fun x H3 y => ?_⟩
   obtain ⟨hgr, d, hd', rd⟩ := g2 x H3 y hlt
   replace k2 := k2.grow hgr
   replace st2 := st2.trans (.grow hgr)
   rw [List.getElem?_eq_getElem hlt] at hd'
   cases hd'
   refine hg.snd H0 Z σ2 H3 S2 x _ _ _ k2 rd p fun σ4 H4 S4 k4 st4 q4 => ?_
   refine hb.snd H0 Z σ4 H4 S4 _ _ k4 q4 ⟨fun σ' H' S' k' s' q' => ⟨S', k', (st2.trans st4).trans s', q'⟩, fun σ' H' S' k' s' q' => l.nx σ' H' S' k' (((st1.trans st2).trans st4).trans s') q', fun σ' H' S' k' s' q' => ⟨S', k', (st2.trans st4).trans s', q'⟩, fun v d σ' H' S' k' s' r' q' => l.rt v d σ' H' S' k' (((st1.trans st2).trans st4).trans s') r' q'⟩
  ·have e : i = ds.length := by lia
   rw [e, List.drop_length] at p
   exact .inl ⟨g3 e, l.nx _ _ _ k2 (st1.trans st2) p⟩
 refine ⟨fun i m σ H => m = ds.length - i /\ i <= ds.length /\ ∃ S2, OK K H0 Z σ H S2 /\ Step Z _ S1 H1 σ S2 H /\ Iv i S2, ⟨ds.length, by simp, Nat.zero_le _, S1, k1, .refl, i0⟩, ?_⟩
 rintro i m σ2 H2 ⟨rfl, hi, S2, k2, st2, p⟩
 obtain ⟨g1, g2, g3⟩ := gd σ2 S2 H2 (fun _ => k2.nm) st2.1 i
 by_cases hlt : i < ds.length
 ·refine .inr ⟨g1 hlt, fun σ' H' => ∃ S', OK K H0 Z σ' H' S' /\ Step Z σ S1 H1 σ' S' H' /\ Iv (i + 1) S', fun σ' H' p' => ⟨ds.length - (i + 1), by lia, rfl, hlt, p'⟩, fun x H3 y => ?_⟩
  obtain ⟨hgr, d, hd', rd⟩ := g2 x H3 y hlt
  replace k2 := k2.grow hgr
  replace st2 := st2.trans (.grow hgr)
  refine hg.snd H0 Z σ2 H3 S2 x d _ _ k2 rd (hs i d S2 hd' p) fun σ4 H4 S4 k4 st4 q4 => ?_
  refine hb.snd H0 Z σ4 H4 S4 _ _ k4 q4 ⟨fun σ' H' S' k' s' q' => ⟨S', k', (st2.trans st4).trans s', q'⟩, fun σ' H' S' k' s' q' => l.nx σ' H' S' k' (((st1.trans st2).trans st4).trans s') q', fun σ' H' S' k' s' q' => ⟨S', k', (st2.trans st4).trans s', q'⟩, fun v d σ' H' S' k' s' r' q' => l.rt v d σ' H' S' k' (((st1.trans st2).trans st4).trans s') r' q'⟩
 ·have e : i = ds.length := by lia
  exact .inl ⟨g3 e, l.nx _ _ _ k2 (st1.trans st2) (hd S2 (by rw [<- e]; exact p))⟩⟩
end
noncomputable def aO (n : Nat) (ix : List Nat) (S : List Sl) : List Sl := List.replicate n .no ++ ix.map fun i => (S[i]?).getD .no
noncomputable def jA (s t : Sl) : Sl := if s.mut then (if t.mut then t else .no) else s
noncomputable def bM (n : Nat) (ix : List Nat) (T : List Sl) : Nat -> List Sl -> List Sl
 | _, [] => []
 | k, s :: r => (match ix.idxOf? k with | some j => jA s ((T[n + j]?).getD .no) | none => s) :: bM n ix T (k + 1) r
noncomputable def backS (n : Nat) (ix : List Nat) (S T : List Sl) : List Sl := bM n ix T 0 S
noncomputable def Zin (Z : AP) (ix : List Nat) (σ : St) (S : List Sl) : AP := fun a => Z a \/ ∃ (i : Nat) (s : Sl), i ∉ ix /\ S[i]? = some s /\ s.mut = true /\ σ[i]? = some (some (V.ref a))
section
variable {K : PySem.W.Frag} {H H' H0 : Hp} {Z : AP} {σ σ' : St} {S T : List Sl} {n : Nat} {ix : List Nat}
theorem gh (k : Nat) : (bM n ix T k S).length = S.length := by
 induction S generalizing k with
 | nil => rfl
 | cons s r ih => simp [bM, ih]
theorem rL (k : Nat) {i : Nat} {s : Sl} (h : S[i]? = some s) : (bM n ix T k S)[i]? = some (match ix.idxOf? (k + i) with | some j => jA s ((T[n + j]?).getD .no) | none => s) := by
 induction S generalizing k i with
 | nil => simp at h
 | cons s' r ih =>
  cases i with
  | zero => simp at h; subst h; rfl
  | succ i =>
   simp at h
   simp only [bM, List.getElem?_cons_succ]
   rw [ih (k + 1) h, show k + 1 + i = k + (i + 1) by lia]
theorem iE {j : Nat} {s : Sl} (h : (aO n ix S)[j]? = some s) (m : s.mut = true) : ∃ k i, j = n + k /\ ix[k]? = some i /\ S[i]? = some s := by
 unfold aO at h
 by_cases hj : j < n
 ·rw [List.getElem?_append_left (by simpa using hj)] at h
  simp [hj] at h
  subst h; cases m
 ·rw [List.getElem?_append_right (by simp; lia)] at h
  simp only [List.length_replicate, List.getElem?_map] at h
  cases hk : ix[j - n]? with
  | none => rw [hk] at h; cases h
  | some i =>
   rw [hk] at h
   simp at h
   refine ⟨j - n, i, by lia, hk, ?_⟩
   cases hs : S[i]? with
   | none => rw [hs] at h; simp at h; subst h; cases m
   | some s' => rw [hs] at h; simp at h; subst h; rfl
theorem rM {j : Nat} {s : Sl} (h : (aO n ix S)[j]? = some s) : s = .no \/ ∃ k i, j = n + k /\ ix[k]? = some i /\ S[i]? = some s := by
 unfold aO at h
 by_cases hj : j < n
 ·rw [List.getElem?_append_left (by simpa using hj)] at h
  simp [hj] at h
  exact .inl h.symm
 ·rw [List.getElem?_append_right (by simp; lia)] at h
  simp only [List.length_replicate, List.getElem?_map] at h
  cases hk : ix[j - n]? with
  | none => rw [hk] at h; cases h
  | some i =>
   rw [hk] at h
   simp at h
   cases hs : S[i]? with
   | none => rw [hs] at h; simp at h; exact .inl h.symm
   | some s' => rw [hs] at h; simp at h; subst h; exact .inr ⟨j - n, i, by lia, hk, hs⟩
theorem eF {k i : Nat} (h : ix[k]? = some i) : (capt n ix σ)[n + k]? = some ((σ[i]?).getD none) := by
 unfold capt
 rw [List.getElem?_append_right (by simp)]
 simp [h]
theorem rN {k i : Nat} (h : ix[k]? = some i) : (aO n ix S)[n + k]? = some ((S[i]?).getD .no) := by
 unfold aO
 rw [List.getElem?_append_right (by simp)]
 simp [h]
theorem cD {k i : Nat} (h : ix[k]? = some i) (e : (capt n ix σ)[n + k]? = some (some v)) : σ[i]? = some (some v) := by
 rw [eF h] at e
 cases hs : σ[i]? with
 | none => rw [hs] at e; cases e
 | some o => rw [hs] at e; simp at e; rw [e]
theorem di {a : Addr} : Mo (Zin Z ix σ S) (capt n ix σ) (aO n ix S) a ↔ Mo Z σ S a := by
 constructor
 ·rintro (⟨j, s, h1, h2, h3⟩ | h | ⟨i, s, _, h1, h2, h3⟩)
  ·obtain ⟨k, i, rfl, hk, hs⟩ := iE h1 h2
   exact .inl ⟨i, s, hs, h2, cD hk h3⟩
  ·exact .inr h
  ·exact .inl ⟨i, s, h1, h2, h3⟩
 ·rintro (⟨i, s, h1, h2, h3⟩ | h)
  ·by_cases hi : i ∈ ix
   ·obtain ⟨k, hk⟩ := List.getElem?_of_mem hi
    refine .inl ⟨n + k, s, ?_, h2, ?_⟩
    ·rw [rN hk, h1]; rfl
    ·rw [eF hk, h3]; rfl
   ·exact .inr (.inr ⟨i, s, hi, h1, h2, h3⟩)
  ·exact .inr (.inl h)
theorem mT {l : List Nat} (h : l.Nodup) : ∀ {i j x : Nat}, l[i]? = some x -> l[j]? = some x -> i = j := fun {i j x} h1 h2 => by
 obtain ⟨a, e1⟩ := List.getElem?_eq_some_iff.mp h1
 obtain ⟨b, e2⟩ := List.getElem?_eq_some_iff.mp h2
 have hp := List.pairwise_iff_getElem.mp h
 rcases Nat.lt_trichotomy i j with c | c | c
 ·exact (hp i j a b c (by rw [e1, e2])).elim
 ·exact c
 ·exact (hp j i b a c (by rw [e1, e2])).elim
theorem OK.capt (k : OK K H0 Z σ H S) (hn : ix.Nodup) : OK K H0 (Zin Z ix σ S) (L2.capt n ix σ) H (aO n ix S) where
 len := by simp [L2.capt, aO]
 dom := k.dom
 zl := fun a z => by
  rcases z with z | ⟨i, s, _, h1, h2, h3⟩
  ·exact k.zl a z
  ·exact k.mo (.inl ⟨i, s, h1, h2, h3⟩)
 nz := fun j s a h1 h2 h3 z => by
  obtain ⟨q, i, rfl, hk, hs⟩ := iE h1 h2
  have e := cD hk h3
  rcases z with z | ⟨i', s', hi', g1, g2, g3⟩
  ·exact k.nz i s a hs h2 e z
  ·have := k.inj i i' a s s' hs g1 h2 g2 e g3
   subst this
   exact hi' (List.mem_of_getElem? hk)
 inj := fun j j' a s s' h1 h2 m1 m2 h3 h4 => by
  obtain ⟨q, i, rfl, hk, hs⟩ := iE h1 m1
  obtain ⟨q', i', rfl, hk', hs'⟩ := iE h2 m2
  have := k.inj i i' a s s' hs hs' m1 m2 (cD hk h3) (cD hk' h4)
  subst this
  rw [mT hn hk hk']
 at_ := fun j o s h1 h2 => by
  have hN : ∀ a, NM Z σ S a -> NM (Zin Z ix σ S) (L2.capt n ix σ) (aO n ix S) a := fun a x z => x (di.mp z)
  rcases rM h2 with rfl | ⟨q, i, rfl, hk, hs⟩
  ·trivial
  ·rw [eF hk] at h1
   obtain ⟨o', e1, sl⟩ := k.ownAt hs
   rw [e1] at h1
   simp at h1
   subst h1
   cases s with
   | no => trivial
   | val d => obtain ⟨v, e, r⟩ := sl; exact ⟨v, e, r.mono (fun a x _ => ⟨hN a x, rfl⟩) fun _ x => x⟩
   | fre d => obtain ⟨v, e, r⟩ := sl; exact ⟨v, e, r.mono (fun a x _ => ⟨hN a x, rfl⟩) fun _ x => x⟩
   | own ds => obtain ⟨a, vs, e, e', e0, r⟩ := sl; exact ⟨a, vs, e, e', e0, r.mono (fun a x _ => ⟨hN a x, rfl⟩) fun _ x => x⟩
   | pen ad ns => exact sl
   | odi ks ds => obtain ⟨a, vs, e, e', e0, ek, r⟩ := sl; exact ⟨a, vs, e, e', e0, ⟨ek.1, ek.2.mono (fun a x _ => ⟨hN a x, rfl⟩) fun _ x => x⟩, r.mono (fun a x _ => ⟨hN a x, rfl⟩) fun _ x => x⟩
   | obj k => obtain ⟨a, e, e0, r⟩ := sl; exact ⟨a, e, e0, k.mono (fun a x _ => ⟨hN a x, rfl⟩) rfl r⟩
theorem oF {i j : Nat} (h : ix.idxOf? i = some j) : ix[j]? = some i := by
 unfold List.idxOf? at h
 obtain ⟨h1, h2, _⟩ := List.findIdx?_eq_some_iff_getElem.mp h
 rw [List.getElem?_eq_getElem h1]
 simpa using h2
theorem oG {i : Nat} (h : ix.idxOf? i = none) : i ∉ ix := by
 unfold List.idxOf? at h
 intro hm
 have := List.findIdx?_eq_none_iff.mp h i hm
 simp at this
theorem jB {i : Nat} {s : Sl} (h : S[i]? = some s) : (backS n ix S T)[i]? = some (match ix.idxOf? i with | some j => jA s ((T[n + j]?).getD .no) | none => s) := by
 have := rL (n := n) (ix := ix) (T := T) 0 h
 rwa [Nat.zero_add] at this
theorem cW {i : Nat} {s' : Sl} (h : (backS n ix S T)[i]? = some s') (m : s'.mut = true) : ∃ s, S[i]? = some s /\ s.mut = true /\ ((∃ j, ix[j]? = some i /\ T[n + j]? = some s') \/ (i ∉ ix /\ s = s')) := by
 have hl : i < S.length := by
  have := (List.getElem?_eq_some_iff.mp h).1
  rwa [show (backS n ix S T).length = S.length from gh 0] at this
 have e := jB (n := n) (ix := ix) (T := T) (List.getElem?_eq_getElem hl)
 rw [h] at e
 have e := Option.some.inj e
 refine ⟨_, List.getElem?_eq_getElem hl, ?_⟩
 cases hx : ix.idxOf? i with
 | none =>
  rw [hx] at e
  have e : s' = S[i] := e
  exact ⟨by rw [<- e]; exact m, .inr ⟨oG hx, e.symm⟩⟩
 | some j =>
  rw [hx] at e
  simp only [jA] at e
  by_cases hm : (S[i]).mut = true
  ·rw [if_pos hm] at e
   refine ⟨hm, .inl ⟨j, oF hx, ?_⟩⟩
   cases ht : T[n + j]? with
   | none => rw [ht] at e; simp [Sl.mut] at e; subst e; cases m
   | some t =>
    rw [ht] at e
    simp only [Option.getD_some] at e
    by_cases htm : t.mut = true
    ·rw [if_pos htm] at e; rw [e]
    ·rw [if_neg htm] at e; subst e; cases m
  ·rw [if_neg hm] at e; subst e; exact (hm m).elim
theorem mU {i : Nat} {s' : Sl} (h : (backS n ix S T)[i]? = some s') (m : s'.mut = false) : s' = .no \/ S[i]? = some s' := by
 have hl : i < S.length := by
  have := (List.getElem?_eq_some_iff.mp h).1
  rwa [show (backS n ix S T).length = S.length from gh 0] at this
 have e := jB (n := n) (ix := ix) (T := T) (List.getElem?_eq_getElem hl)
 rw [h] at e
 have e := Option.some.inj e
 cases hx : ix.idxOf? i with
 | none => rw [hx] at e; exact .inr (by rw [List.getElem?_eq_getElem hl, e])
 | some j =>
  rw [hx] at e
  simp only [jA] at e
  by_cases hm : (S[i]).mut = true
  ·rw [if_pos hm] at e
   by_cases htm : ((T[n + j]?).getD .no).mut = true
   ·rw [if_pos htm] at e; rw [e, htm] at m; cases m
   ·rw [if_neg htm] at e; exact .inl e
  ·rw [if_neg hm] at e; exact .inr (by rw [List.getElem?_eq_getElem hl, e])
theorem OK.back (k : OK K H0 Z σ H S) (k' : OK K H0 (Zin Z ix σ S) σ' H' T) (st : Step (Zin Z ix σ S) (L2.capt n ix σ) (aO n ix S) H σ' T H') (hσ : ∀ (i : Nat) (v : V), (L2.capt n ix σ)[i]? = some (some v) -> σ'[i]? = some (some v)) :
  OK K H0 Z σ H' (backS n ix S T) /\ Step Z σ S H σ (backS n ix S T) H' /\ ∀ a, NM (Zin Z ix σ S) σ' T a -> NM Z σ (backS n ix S T) a := by
 have mo' : ∀ a, Mo Z σ (backS n ix S T) a -> Mo (Zin Z ix σ S) σ' T a := fun a z => by
  rcases z with ⟨i, s', h1, h2, h3⟩ | z
  ·obtain ⟨s, e, em, ⟨j, hj, ht⟩ | ⟨hi, rfl⟩⟩ := cW h1 h2
   ·exact .inl ⟨n + j, s', ht, h2, hσ _ _ (by rw [eF hj, h3]; rfl)⟩
   ·exact .inr (.inr ⟨i, s, hi, e, em, h3⟩)
  ·exact .inr (.inl z)
 have nm' : ∀ a, NM (Zin Z ix σ S) σ' T a -> NM Z σ (backS n ix S T) a := fun a x z => x (mo' a z)
 have nm0 : ∀ a, NM Z σ S a -> NM (Zin Z ix σ S) (L2.capt n ix σ) (aO n ix S) a := fun a x z => x (di.mp z)
 have old : ∀ a, NM Z σ S a -> H a ≠ none -> NM Z σ (backS n ix S T) a /\ H' a = H a := fun a x e => ⟨nm' a (st.1 a (nm0 a x) e).2, (st.1 a (nm0 a x) e).1⟩
 refine ⟨⟨by rw [show (backS n ix S T).length = S.length from gh 0]; exact k.len, fun i o s' h1 h2 => ?_, fun i j a s t h1 h2 m1 m2 h3 h4 => ?_, fun a e => k'.dom a e, fun a z => k'.zl a (.inl z), fun i s a h1 m h3 z => ?_⟩, ⟨fun a x e => ⟨(old a x e).2, (old a x e).1⟩, st.2.1, fun a z e => st.2.2 a (.inl z) e⟩, nm'⟩
 ·cases hm : s'.mut with
  | true =>
   obtain ⟨s, e, em, ⟨j, hj, ht⟩ | ⟨hi, rfl⟩⟩ := cW h2 hm
   ·have eo : ∃ v, o = some v := by
     obtain ⟨o', e1, q⟩ := k.ownAt e
     rw [h1] at e1; cases e1
     cases s with
     | no => cases em
     | val d => cases em
     | fre d => cases em
     | own ds => obtain ⟨a, _, e, _⟩ := q; exact ⟨_, e⟩
     | pen ad ns => obtain ⟨a, e, _⟩ := q; exact ⟨_, e⟩
     | odi ks ds => obtain ⟨a, _, e, _⟩ := q; exact ⟨_, e⟩
     | obj k => obtain ⟨a, e, _⟩ := q; exact ⟨_, e⟩
    obtain ⟨v, rfl⟩ := eo
    have q := k'.at_ (n + j) (some v) s' (hσ _ _ (by rw [eF hj, h1]; rfl)) ht
    cases s' with
    | no => cases hm
    | val d => cases hm
    | fre d => cases hm
    | own ds => obtain ⟨a, vs, e, e', e0, r⟩ := q; exact ⟨a, vs, e, e', e0, r.mono (fun a x _ => ⟨nm' a x, rfl⟩) fun _ x => x⟩
    | pen ad ns => exact q
    | odi ks ds => obtain ⟨a, vs, e, e', e0, ek, r⟩ := q; exact ⟨a, vs, e, e', e0, ⟨ek.1, ek.2.mono (fun a x _ => ⟨nm' a x, rfl⟩) fun _ x => x⟩, r.mono (fun a x _ => ⟨nm' a x, rfl⟩) fun _ x => x⟩
    | obj k => obtain ⟨a, e, e0, r⟩ := q; exact ⟨a, e, e0, k.mono (fun a x _ => ⟨nm' a x, rfl⟩) rfl r⟩
   ·obtain ⟨o', e1, q⟩ := k.ownAt e
    rw [h1] at e1; cases e1
    have hz : ∀ a us, o = some (V.ref a) -> H a = some us -> H' a = H a := fun a us eo ea => st.2.2 a (.inr ⟨i, s, hi, e, em, by rw [h1, eo]⟩) (by simp [ea])
    cases s with
    | no => cases hm
    | val d => cases hm
    | fre d => cases hm
    | own ds => obtain ⟨a, vs, e, e', e0, r⟩ := q; exact ⟨a, vs, e, (hz a _ e e').trans e', e0, r.mono old fun _ x => x⟩
    | pen ad ns => obtain ⟨a, e, e1, e'⟩ := q; exact ⟨a, e, e1, (hz a _ e e').trans e'⟩
    | odi ks ds => obtain ⟨a, vs, e, ⟨ob, e'⟩, e0, ek, r⟩ := q; exact ⟨a, vs, e, ⟨ob, (hz a _ e e').trans e'⟩, e0, ⟨ek.1, ek.2.mono old fun _ x => x⟩, r.mono old fun _ x => x⟩
    | obj k => obtain ⟨a, e, e0, r⟩ := q; exact ⟨a, e, e0, k.mono old (hz a _ e (Option.ne_none_iff_exists'.mp (k.ism r).ne).choose_spec) r⟩
  | false =>
   rcases mU h2 hm with rfl | e
   ·trivial
   ·have q := k.at_ i o s' h1 e
    cases s' with
    | no => trivial
    | val d => obtain ⟨v, e, r⟩ := q; exact ⟨v, e, r.mono old fun _ x => x⟩
    | fre d => obtain ⟨v, e, r⟩ := q; exact ⟨v, e, r.mono old fun _ x => x⟩
    | own ds => cases hm
    | pen ad ns => cases hm
    | odi ks ds => cases hm
    | obj k => cases hm
 ·obtain ⟨s0, e0, em0, c1⟩ := cW h1 m1
  obtain ⟨t0, f0, fm0, c2⟩ := cW h2 m2
  exact k.inj i j a s0 t0 e0 f0 em0 fm0 h3 h4
 ·obtain ⟨s0, e0, em0, c1⟩ := cW h1 m
  exact k.nz i s0 a e0 em0 h3 z
end
section
variable {K : PySem.W.Frag} {X : Cx} {e a b c tg elt iter : Expr} {te : TE} {va : VT} {pos : Pos}
structure VTs (K : PySem.W.Frag) (X : Cx) (ifs : List Expr) (te : TT) (t : VTT) : Prop where
 pe : PTs X ifs te
 snd : SndT K te t
noncomputable def uG : VTT := fun S Q => Q true S
theorem b8 : VTs K X [] uz uG := ⟨rF, fun _ _ _ _ _ _ _ k h q => q _ _ _ k .refl h⟩
theorem eG {tA : TT} {wA : VTT} (h : VTe K X c tA wA) : VTs K X [c] tA wA := ⟨rG h.pe, h.snd⟩
noncomputable def lF (vi : VTN) (n : Nat) (ix : List Nat) (vg : VG) (vt : VTT) (ve : VT) : VTN := fun S Q => vi S fun ds S1 => ds.length <= 1000000 /\ ∃ Iv : Nat -> List D -> List Sl -> Prop, Iv 0 [] S1 /\
 (∀ i d ys S2, ds[i]? = some d -> Iv i ys S2 -> vg d (aO n ix S2) fun S3 => vt S3 fun b S4 => if b = true then ve S4 fun r S5 => ∃ x, r = .d x /\ Iv (i + 1) (ys ++ [x]) (backS n ix S2 S5) else Iv (i + 1) ys (backS n ix S2 S4)) /\
 ∀ ys S2, Iv ds.length ys S2 -> Q ys S2
theorem oH {ifs : List Expr} {scope : Scope} {tg cs : List Str} {target : Expr} {wi : TI} {vi : VTN} {g : TG} {vg : VG} {tc : TT} {vt : VTT} {te : TE} {ve : VT} (Sc : aL X scope tg cs ix) (hcalm : X.calm = true) (kg : cr tg.length ix g) (hnd : ix.Nodup) {Φ : Hp -> Prop} (hΦ : ∀ pins σ H s, Inv X pins σ H s -> Φ H) (h0 : Φ X.H₀)
  (hi : VI K X target iter wi vi) (hg : ∀ C fp s H, VGe K (ak X scope (tg ++ cs) C fp s H) target g vg) (hc : ∀ C fp s H, Φ H -> VTs K (ak X scope (tg ++ cs) C fp s H) ifs tc vt) (he : ∀ C fp s H, Φ H -> VE K (ak X scope (tg ++ cs) C fp s H) true elt te ve)
  (hs : ∀ x, foldedSetIterable iter X.env x = pure x := by intro _; rfl) : VN K X (.ListComp elt [⟨target, iter, ifs, 0⟩] scope pos) (gS wi tg.length ix g tc te) (lF vi tg.length ix vg vt ve) := by
 have sg : SndG K g vg := (hg 0 [] X.s₀ (fun _ => none)).snd
 have sc : SndT K tc vt := (hc 0 [] X.s₀ X.H₀ h0).snd
 have se : SndE K true te ve := (he 0 [] X.s₀ X.H₀ h0).snd
 refine ⟨oh Sc hcalm kg hΦ hi.pi (fun C fp s H => (hg C fp s H).pg) (fun C fp s H z => (hc C fp s H z).pe) (fun C fp s H z => (he C fp s H z).pe) hs, fun H0 Z σ H S Q C k t hq => ?_⟩
 refine hi.snd H0 Z σ H S _ _ k t fun J ds H1 S1 k1 st1 gd zr1 => ?_
 obtain ⟨hl, Iv, i0, hs, hd⟩ := zr1
 refine ⟨fun i m ys H => m = ds.length - i /\ i <= ds.length /\ ys.length <= i /\ ∃ S2 zs, OK K H0 Z σ H S2 /\ Step Z σ S1 H1 σ S2 H /\ Reps K (NM Z σ S2) (Fr H0) H ys zs /\ Iv i zs S2, ⟨ds.length, by simp, Nat.zero_le _, Nat.le_refl _, S1, [], k1, .refl, .nil, i0⟩, ?_⟩
 rintro i m ys H2 ⟨rfl, hi, hy, S2, zs, k2, st2, rz, p⟩
 obtain ⟨g1, g2, g3⟩ := gd σ S2 H2 (fun _ => k2.nm) st2.1 i
 have hsz : (1000000 : Nat) < sizeLine := by rw [sizeLine_eq]; lia
 by_cases hlt : i < ds.length
 ·refine .inr ⟨g1 hlt, by lia, fun ys' H' => ys'.length <= i + 1 /\ ∃ S' zs', OK K H0 Z σ H' S' /\ Step Z σ S1 H1 σ S' H' /\ Reps K (NM Z σ S') (Fr H0) H' ys' zs' /\ Iv (i + 1) zs' S', fun ys' H' zt1 => by obtain ⟨p1, p2⟩ := zt1; exact ⟨ds.length - (i + 1), by lia, rfl, hlt, p1, p2⟩, fun x H3 y => ?_⟩
  obtain ⟨hgr, d, hd', rd⟩ := g2 x H3 y hlt
  replace k2 := k2.grow hgr
  replace st2 := st2.trans (.grow hgr)
  replace rz := rz.step (.grow hgr)
  have kc := k2.capt (n := tg.length) hnd
  have rd' : Rep K (NM (Zin Z ix σ S2) (L2.capt tg.length ix σ) (aO tg.length ix S2)) AnyF H3 x d := rd.mono (fun a n _ => ⟨fun z => n (di.mp z), rfl⟩) fun _ x => x
  -- the target leaves what the block took over
  have h1 := sg H0 _ _ H3 _ x d _ (fun σ4 H4 => ∃ S4, OK K H0 (Zin Z ix σ S2) σ4 H4 S4 /\ Step (Zin Z ix σ S2) (L2.capt tg.length ix σ) (aO tg.length ix S2) H3 σ4 S4 H4 /\ vt S4 fun b S5 => if b = true then ve S5 fun r S6 => ∃ x, r = .d x /\ Iv (i + 1) (zs ++ [x]) (backS tg.length ix S2 S6) else Iv (i + 1) zs (backS tg.length ix S2 S5)) kc rd' (hs i d zs S2 hd' p) (fun σ4 H4 S4 k4 st4 q4 => ⟨S4, k4, st4, q4⟩)
  have h2 := kg x σ H3 _ h1
  refine (hg 0 [] X.s₀ (fun _ => none)).mono _ _ _ _ _ ?_ h2
  rintro σ4 H4 ⟨⟨hl4, hσ4⟩, S4, k4, st4, q4⟩
  refine sc H0 _ σ4 H4 S4 _ _ k4 q4 fun bb H5 S5 k5 st5 q5 => ?_
  cases bb with
  | false =>
   rw [if_neg Bool.false_ne_true] at q5 ⊢
   obtain ⟨kb, sb, nb⟩ := k2.back k5 (st4.trans st5) hσ4
   exact ⟨by lia, _, zs, kb, st2.trans sb, rz.step sb, q5⟩
  | true =>
   rw [if_pos rfl] at q5 ⊢
   refine se H0 _ σ4 H5 S5 _ _ k5 q5 fun vv H6 r S6 k6 st6 rr zr1 => ?_
   obtain ⟨xx, er, q6⟩ := zr1
   subst er
   obtain ⟨kb, sb, nb⟩ := k2.back k6 ((st4.trans st5).trans st6) hσ4
   refine ⟨by simp; lia, _, zs ++ [xx], kb, st2.trans sb, Reps.append (rz.step sb) (.cons (Rep.mono (fun a n _ => ⟨nb a n, rfl⟩) (fun _ x => x rfl) rr) .nil), q6⟩
 ·have e : i = ds.length := by lia
  refine .inl ⟨g3 e, by lia, fun l hp => ?_⟩
  exact hq l ys zs H2 _ S2 k2 (st1.trans st2) hp (aC hp) aw (bA hp (rz.mono (fun _ n _ => ⟨n, rfl⟩) fun _ x _ => x)) (hd zs S2 (by rw [<- e]; exact p))
theorem cI {ifs : List Expr} {scope : Scope} {tg cs : List Str} {target : Expr} {wi : TI} {vi : VTN} {g : TG} {vg : VG} {tc : TT} {vt : VTT} {te : TE} {ve : VT} (Sc : aL X scope tg cs ix) (hcalm : X.calm = true) (kg : cr tg.length ix g) (hnd : ix.Nodup)
  (hi : VI K X target iter wi vi) (hg : ∀ C fp s H, VGe K (ak X scope (tg ++ cs) C fp s H) target g vg) (hc : ∀ C fp s H, VTs K (ak X scope (tg ++ cs) C fp s H) ifs tc vt) (he : ∀ C fp s H, VE K (ak X scope (tg ++ cs) C fp s H) true elt te ve)
  (hs : ∀ x, foldedSetIterable iter X.env x = pure x := by intro _; rfl) : VN K X (.ListComp elt [⟨target, iter, ifs, 0⟩] scope pos) (gS wi tg.length ix g tc te) (lF vi tg.length ix vg vt ve) :=
 oH Sc hcalm kg hnd (Φ := fun _ => True) (fun _ _ _ _ _ => trivial) trivial hi hg (fun C fp s H _ => hc C fp s H) (fun C fp s H _ => he C fp s H) hs
theorem gi {elt iter : Expr} {pos spos py : Pos} {yy : Str} {ii : Nat} {ifs : List Expr} {scope : Scope} {tg cs : List Str} {target : Expr} {wi : TI} {vi : VTN} {g : TG} {vg : VG} {tc : TT} {vt : VTT} {te : TE} {ve : VT} (hN0 : X.N.Nodup) (hi0 : X.N[ii]? = some yy) (hx0 : Loc X.env.scope yy) (hf0 : X.fn yy = true \/ X.env.scope.names.lookup yy = some .local)
  (Sc : aL X scope tg cs ix) (hcalm : X.calm = true) (kg : cr tg.length ix g) (hnd : ix.Nodup)
  (hi : VI K X target iter wi vi) (hg : ∀ C fp s H, VGe K (ak X scope (tg ++ cs) C fp s H) target g vg) (hc : ∀ C fp s H, VTs K (ak X scope (tg ++ cs) C fp s H) ifs tc vt) (he : ∀ C fp s H, VE K (ak X scope (tg ++ cs) C fp s H) true elt te ve)
  (hsw : swapsWith (.ListComp elt [⟨target, iter, ifs, 0⟩] scope pos) (some (.Name yy py)) spos.line X.env = pure true := by rfl) (hs : ∀ x, foldedSetIterable iter X.env x = pure x := by intro _; rfl) : VS K X (.Assign [.Name yy py] (.ListComp elt [⟨target, iter, ifs, 0⟩] scope pos) spos) (cU (gS wi tg.length ix g tc te) (aZ ii)) (kz (mR (lF vi tg.length ix vg vt ve)) (vgN ii)) := by
 have h := cI (pos := pos) Sc hcalm kg hnd hi hg hc he hs
 refine ⟨oi hN0 hi0 hx0 Sc hcalm kg hi.pi (fun C fp s H => (hg C fp s H).pg) (fun C fp s H => (hc C fp s H).pe) (fun C fp s H => (he C fp s H).pe) hf0 hsw hs, iD (bf (m := false) h).snd fun H0 Z σ H S v d Q C k r zt1 hc => by obtain ⟨hi, q⟩ := zt1; exact hc _ _ _ (k.setVal hi r).1 (k.setVal hi r).2 q⟩
end
end VL
end
section
namespace VL
open PySem L2
section
variable {P : Program} {w : World} {K : PySem.W.Frag} {mg : Str -> Option Value} {base : Heap}
noncomputable def slots (n : Nat) (ds : List D) : List Sl := ds.map .val ++ List.replicate (n - ds.length) .no
theorem gj {N : List Str} {i : Nat} (h : vs[i]? = some v) : (start N vs)[i]? = some (some v) := by
 unfold L2.start
 have hi := (List.getElem?_eq_some_iff.mp h).1
 rw [List.getElem?_append_left (by simpa using hi)]
 simp [h]
theorem jC {n : Nat} {i : Nat} {s : Sl} (h : (slots n ds)[i]? = some s) : s = .no \/ ∃ d, s = .val d /\ ds[i]? = some d := by
 unfold slots at h
 by_cases hi : i < ds.length
 ·rw [List.getElem?_append_left (by simpa using hi)] at h
  simp [hi] at h
  subst h
  exact .inr ⟨_, rfl, by simp [hi]⟩
 ·rw [List.getElem?_append_right (by simpa using hi)] at h
  have := List.mem_of_getElem? h
  exact .inl (List.eq_of_mem_replicate this)
theorem cm {n : Nat} {i : Nat} {s : Sl} (h : (slots n ds)[i]? = some s) : s.mut = false := by
 rcases jC h with rfl | ⟨d, rfl, _⟩ <;> rfl
theorem jD {N : List Str} (r : Reps K Any AnyF H vs ds) : OK K H (fun _ => False) (start N vs) H (slots N.length ds) where
 len := by simp [L2.start, slots, r.length]
 dom := fun _ e => e
 zl := fun _ z => z.elim
 nz := fun i s a h m _ => by rw [cm h] at m; cases m
 inj := fun i j a s t h1 h2 m1 => by rw [cm h1] at m1; cases m1
 at_ := fun i o s h1 h2 => by
  rcases jC h2 with rfl | ⟨d, rfl, e⟩
  ·trivial
  ·obtain ⟨v, e1, e2⟩ := r.getD e
   rw [gj e1] at h1
   cases h1
   refine ⟨v, rfl, e2.mono (fun a _ _ => ⟨?_, rfl⟩) fun _ x => x⟩
   rintro (⟨j, s, g1, g2, _⟩ | z)
   ·rw [cm g1] at g2; cases g2
   ·exact z
theorem bF {x : Str} {st : Stmt} {N ps : List Str} {k : Nat} (S : Src K mg x st) (sc : aA N ps (aj st))
  (hb : ∀ (kV doc pm : Value) (an : Option Addr) (cdv ct : Value) (us : List Value), us.length = ps.length -> bindArgs (PySem.W.fnOf x x (b6 st) (bu st) (aj st) .none kV doc pm an cdv ct) ⟨us, []⟩ = pure (ps.zip us))
  (len : ∀ ds R, p ds R -> ds.length = ps.length)
  (hbody : ∀ (f : Addr) (cdv : Value) (A : Around) (outer : List Env) (s : Shared) (H : Hp) (E : XK), bQ k (A.deeper (PyProof.Rows.envOfC x (aj st) s.heap.objs.size f cdv)) ->
   ∃ ts t, VSs K (fu CX0 P w K mg base N x (aj st) f cdv A outer s H E).nox (bu st) ts t /\ ∀ ds R, p ds R -> t { nx := fun _ => R .non, rt := fun d _ => R d } (slots N.length ds)) : Has P w K mg base (k + 1) x ps (spP K p) := by
 refine S.has sc hb (fun vs H Q E zq1 => by obtain ⟨ds, R, r, h, _⟩ := zq1; rw [r.length]; exact len ds R h) fun f cdv A outer s H vs Q E hr ⟨ds, R, r, h, fin⟩ => ?_
 obtain ⟨ts, t, vs', q⟩ := hbody f cdv A outer s H E hr
 have k0 := jD (N := N) r
 have st0 : ∀ {σ' S' H'}, Step (fun _ => False) (start N vs) (slots N.length ds) H σ' S' H' -> ∀ a, H a ≠ none -> H' a = H a := fun st a e => (st.1 a (by
  rintro (⟨j, s, g1, g2, _⟩ | z)
  ·rw [cm g1] at g2; cases g2
  ·exact z) e).1
 refine ⟨ts, vs'.ps, vs'.snd H _ _ H _ _ _ k0 (q ds R h) ⟨fun σ' H' S' k' st q => fin .non .non H' q (st0 st) .non, fun σ' H' S' k' st q => q.elim, fun σ' H' S' k' st q => q.elim, fun v d σ' H' S' k' st rr q => fin d v H' q (st0 st) (rr.mono (fun _ _ _ => ⟨trivial, rfl⟩) fun _ x => x)⟩⟩
noncomputable def dj (n : Nat) (a : Addr) (ns : List Int) (ds es : List D) : List Sl := ds.map .val ++ .pen (some a) ns :: (es.map .val ++ List.replicate (n - (ds.length + 1 + es.length)) .no)
theorem gX {n : Nat} {a : Addr} {ds es : List D} {i : Nat} {s : Sl} (h : (dj n a ns ds es)[i]? = some s) : s = .no \/ (∃ d, s = .val d /\ (ds ++ .non :: es)[i]? = some d /\ i ≠ ds.length) \/ (i = ds.length /\ s = .pen (some a) ns) := by
 unfold dj at h
 by_cases hi : i < ds.length
 ·rw [List.getElem?_append_left (by simpa using hi)] at h
  simp [hi] at h
  subst h
  exact .inr (.inl ⟨_, rfl, by rw [List.getElem?_append_left hi]; simp [hi], by lia⟩)
 ·by_cases hi2 : i = ds.length
  ·subst hi2
   rw [List.getElem?_append_right (by simp)] at h
   simp at h
   exact .inr (.inr ⟨rfl, h.symm⟩)
  ·rw [List.getElem?_append_right (by simp; lia)] at h
   rw [List.length_map] at h
   obtain ⟨j, hj⟩ : ∃ j, i - ds.length = j + 1 := ⟨i - ds.length - 1, by lia⟩
   rw [hj, List.getElem?_cons_succ] at h
   by_cases hj2 : j < es.length
   ·rw [List.getElem?_append_left (by simpa using hj2)] at h
    simp [hj2] at h
    subst h
    refine .inr (.inl ⟨_, rfl, ?_, hi2⟩)
    rw [List.getElem?_append_right (by lia), hj, List.getElem?_cons_succ]
    simp [hj2]
   ·rw [List.getElem?_append_right (by simpa using hj2)] at h
    exact .inl (List.eq_of_mem_replicate (List.mem_of_getElem? h))
theorem lG {x : Str} {st : Stmt} {N ps : List Str} {k : Nat} (j : Nat) {p : List Int -> List D -> (D -> List Int -> Prop) -> Prop} (S : Src K mg x st) (sc : aA N ps (aj st))
  (hb : ∀ (kV doc pm : Value) (an : Option Addr) (cdv ct : Value) (us : List Value), us.length = ps.length -> bindArgs (PySem.W.fnOf x x (b6 st) (bu st) (aj st) .none kV doc pm an cdv ct) ⟨us, []⟩ = pure (ps.zip us))
  (len : ∀ ns ds R, p ns ds R -> ds.length + 1 = ps.length)
  (hbody : ∀ (f : Addr) (cdv : Value) (A : Around) (outer : List Env) (s : Shared) (H : Hp) (E : XK), bQ k (A.deeper (PyProof.Rows.envOfC x (aj st) s.heap.objs.size f cdv)) ->
   ∃ ts t, VSs K (fu CX0 P w K mg base N x (aj st) f cdv A outer s H E).nox (bu st) ts t /\ ∀ a ns ds es R, ds.length = j -> p ns (ds ++ es) R -> t { nx := fun S' => ∃ ns', S'[j]? = some (.pen (some a) ns') /\ R .non ns', rt := fun d S' => ∃ ns', S'[j]? = some (.pen (some a) ns') /\ R d ns' } (dj N.length a ns ds es)) :
  Has P w K mg base (k + 1) x ps (spI K j p) := by
 refine S.has sc hb (fun vs H Q E zq1 => by
  obtain ⟨a, ws, us, ns, ds, es, R, e, hl, hp, r1, r2, h, _⟩ := zq1
  have := len _ _ _ h
  rw [e, List.length_append, List.length_cons, r1.length, r2.length]
  rw [List.length_append] at this
  lia) fun f cdv A outer s H vs Q E hr zr1 => ?_
 obtain ⟨a, ws, us, ns, ds, es, R, e, hl, hp, r1, r2, h, fin⟩ := zr1
 subst e
 obtain ⟨ts, t, vs', q⟩ := hbody f cdv A outer s H E hr
 have hdl : ds.length = j := by rw [<- r1.length]; exact hl
 subst hdl
 have hmut : ∀ {i : Nat} {s : Sl}, (dj N.length a ns ds es)[i]? = some s -> s.mut = true -> i = ds.length /\ s = .pen (some a) ns := fun {i s} h m => by
  rcases gX h with rfl | ⟨d, rfl, _⟩ | h
  ·cases m
  ·cases m
  ·exact h
 have hpen : (start N (ws ++ .ref a :: us))[ds.length]? = some (some (V.ref a)) := gj (by rw [<- hl]; simp)
 have hmo : ∀ b, Mo (fun _ => False) (start N (ws ++ .ref a :: us)) (dj N.length a ns ds es) b -> b = a := fun b z => by
  rcases z with ⟨i, s, g1, g2, g3⟩ | z
  ·obtain ⟨rfl, _⟩ := hmut g1 g2
   rw [hpen] at g3; cases g3; rfl
  ·exact z.elim
 have hll : N.length - (ws.length + (us.length + 1)) = N.length - (ds.length + 1 + es.length) := by rw [r1.length, r2.length]; lia
 have k0 : OK K H (fun _ => False) (start N (ws ++ .ref a :: us)) H (dj N.length a ns ds es) := {
  len := by simp [L2.start, dj, r1.length, r2.length]; lia
  dom := fun _ e => e
  zl := fun _ z => z.elim
  nz := fun _ _ _ _ _ _ z => z
  inj := fun i j a s t h1 h2 m1 m2 _ _ => by rw [(hmut h1 m1).1, (hmut h2 m2).1]
  at_ := fun i o s h1 h2 => by
   rcases gX h2 with rfl | ⟨d, rfl, e, hi⟩ | ⟨rfl, rfl⟩
   ·trivial
   ·have rr : ∃ v, (ws ++ .ref a :: us)[i]? = some v /\ Rep K (· ≠ a) AnyF H v d := by
     by_cases hi2 : i < ds.length
     ·rw [List.getElem?_append_left hi2] at e
      obtain ⟨v, e1, e2⟩ := r1.getD e
      exact ⟨v, by rw [List.getElem?_append_left (by rw [r1.length]; exact hi2)]; exact e1, e2⟩
     ·rw [List.getElem?_append_right (by lia)] at e
      obtain ⟨j, hj⟩ : ∃ j, i - ds.length = j + 1 := ⟨i - ds.length - 1, by lia⟩
      rw [hj, List.getElem?_cons_succ] at e
      obtain ⟨v, e1, e2⟩ := r2.getD e
      exact ⟨v, by rw [List.getElem?_append_right (by rw [r1.length]; lia), r1.length, hj, List.getElem?_cons_succ]; exact e1, e2⟩
    obtain ⟨v, e1, e2⟩ := rr
    rw [gj e1] at h1
    cases h1
    exact ⟨v, rfl, e2.mono (fun b n _ => ⟨fun z => n (hmo b z), rfl⟩) fun _ x => x⟩
   ·rw [hpen] at h1
    cases h1
    exact ⟨a, rfl, fun b z => by cases z; rfl, hp⟩ }
 have st0 : ∀ {σ' S' H'}, Step (fun _ => False) (start N (ws ++ .ref a :: us)) (dj N.length a ns ds es) H σ' S' H' -> ∀ b, b ≠ a -> H b ≠ none -> H' b = H b := fun st b n e => (st.1 b (fun z => n (hmo b z)) e).1
 have pn : ∀ {σ' S' H' ns'}, OK K H (fun _ => False) σ' H' S' -> S'[ds.length]? = some (.pen (some a) ns') -> σ'[ds.length]? = some (some (V.ref a)) /\ H' a = some (.lst (ns'.map .int)) := fun k' e => by
  obtain ⟨o, e1, b, rfl, e2, e3⟩ := k'.ownAt e
  obtain rfl := e2 a rfl
  exact ⟨e1, e3⟩
 refine ⟨ts, vs'.ps, vs'.snd H _ _ H _ _ _ k0 (q a ns ds es R rfl h) ⟨fun σ' H' S' k' st zt1 => by obtain ⟨ns', e, q⟩ := zt1; exact fin .non ns' .non H' q (st0 st) (pn k' e).2 .non, fun σ' H' S' k' st q => q.elim, fun σ' H' S' k' st q => q.elim, fun v d σ' H' S' k' st rr ⟨ns', e, q⟩ => fin d ns' v H' q (st0 st) (pn k' e).2 (rr.mono (fun b n _ => ⟨fun z => ?_, rfl⟩) fun _ x => x)⟩⟩
 subst z
 exact n _ _ _ e (pn k' e).1
end
end VL
end
section
namespace VL
open PySem L2
mutual
noncomputable def pd : D -> PyData
 | .int i => .int i
 | .bl b => .bool b
 | .non => .none
 | .str x => .str x
 | .ty _ => .none
 | .dic _ _ => .none
 | .exc _ => .none
 | .oth _ => .none
 | .dib _ _ => .none
 | .tup ds => .tuple (pds ds)
 | .lst ds => .list (pds ds)
noncomputable def pds : List D -> List PyData
 | [] => []
 | d :: r => pd d :: pds r
end
mutual
noncomputable def noTy : D -> Bool
 | .ty _ => false
 | .dic _ _ => false
 | .exc _ => false
 | .oth _ => false
 | .dib _ _ => false
 | .tup ds => gk ds
 | .lst ds => gk ds
 | _ => true
noncomputable def gk : List D -> Bool
 | [] => true
 | d :: r => noTy d && gk r
end
section
variable {K : PySem.W.Frag} {X : Cx} {pins : List (Addr × Obj)} {σ : St} {H : Hp} {s : Shared} {N : AP} {F : FP}
mutual
theorem bx (I : Inv X pins σ H s) (hK : X.K = K) {v : V} {d : D} {u : Value} : Rep K N F H v d -> noTy d = true -> RelV v u -> ∃ as, Reads s.heap u (pd d) as := fun hh ee rr => by
 cases hh with
 | int i => have r := rr; obtain ⟨t, rfl⟩ := r; exact ⟨_, .int i t⟩
 | bl b => have r := rr; cases r; exact ⟨_, .bool b⟩
 | non => have r := rr; cases r; exact ⟨_, .none⟩
 | str x => have r := rr; obtain ⟨t, rfl⟩ := r; exact ⟨_, .str x t⟩
 | ty x => have e := ee; cases e
 | dic n f h _ _ rs => have e := ee; simp [noTy] at e
 | exc n h _ => have e := ee; simp [noTy] at e
 | oth h => have e := ee; simp [noTy] at e
 | dib n f h _ _ _ rs => have e := ee; simp [noTy] at e
 | tup n h rs =>
  have e := ee
  have r := rr
  cases r
  obtain ⟨its, rv, ⟨o, ho, hc, n, hd⟩, _⟩ := I.tuple (xs := _) (.inl h)
  obtain ⟨as, ra⟩ := bW I hK rs (by simpa [noTy] using e) rv
  exact ⟨as, .tuple ho hc hd (by simpa using ra)⟩
 | tupK h rs =>
  have e := ee
  have r := rr
  cases r
  obtain ⟨its, rv, ⟨o, ho, hc, n, hd⟩, _⟩ := I.tuple (xs := _) (by rw [hK]; exact eE h)
  obtain ⟨as, ra⟩ := bW I hK rs (by simpa [noTy] using e) rv
  exact ⟨as, .tuple ho hc hd (by simpa using ra)⟩
 | lst n f h rs =>
  have e := ee
  have r := rr
  cases r
  obtain ⟨its, rv, pl, _⟩ := I.list (xs := _) (.inl (.inl h))
  obtain ⟨o, ho, hc, n, hd⟩ := pl.isList
  obtain ⟨as, ra⟩ := bW I hK rs (by simpa [noTy] using e) rv
  exact ⟨_, .list ho hc hd (by simpa using ra)⟩
 | lstF n f h rs =>
  have e := ee
  have r := rr
  cases r
  obtain ⟨its, rv, pl, _⟩ := I.list (xs := _) (.inl (.inr ⟨_, h⟩))
  obtain ⟨o, ho, hc, n, hd⟩ := pl.isList
  obtain ⟨as, ra⟩ := bW I hK rs (by simpa [noTy] using e) rv
  exact ⟨_, .list ho hc hd (by simpa using ra)⟩
 | lstK f h rs =>
  have e := ee
  have r := rr
  cases r
  obtain ⟨its, rv, pl, _⟩ := I.list (xs := _) (by rw [hK]; exact fX h)
  obtain ⟨o, ho, hc, n, hd⟩ := pl.isList
  obtain ⟨as, ra⟩ := bW I hK rs (by simpa [noTy] using e) rv
  exact ⟨_, .list ho hc hd (by simpa using ra)⟩
theorem bW (I : Inv X pins σ H s) (hK : X.K = K) {vs : List V} {ds : List D} {us : List Value} : Reps K N F H vs ds -> gk ds = true -> Vals vs us -> ∃ as, ReadsAll s.heap us (pds ds) as := fun hh ee rr => by
 cases hh with
 | nil => have r := rr; cases r; exact ⟨_, .nil⟩
 | cons h t =>
  have e := ee
  have r := rr
  simp only [gk, Bool.and_eq_true] at e
  cases r with
  | cons r1 r2 =>
   obtain ⟨as, ra⟩ := bx I hK h e.1 r1
   obtain ⟨bs, rb⟩ := bW I hK t e.2 r2
   exact ⟨_, .cons ra rb⟩
end
end
structure Okd (d : D) : Prop where
 ty : noTy d = true
 lay : (pd d).canLay0 = true
 dep : (pd d).depth <= 40
noncomputable def xw (K : PySem.W.Frag) (neg : Bool) : R2 := fun x y H Q => ∃ d1 d2, Rep K Any AnyF H x d1 /\ Rep K Any AnyF H y d2 /\ Okd d1 /\ Okd d2 /\ Q (.bl (if neg then !PyData.eqv (pd d1) (pd d2) else PyData.eqv (pd d1) (pd d2))) H
noncomputable def rO (neg : Bool) : D -> D -> (D -> Prop) -> Prop := fun d1 d2 q => Okd d1 /\ Okd d2 /\ q (.bl (if neg then !PyData.eqv (pd d1) (pd d2) else PyData.eqv (pd d1) (pd d2)))
noncomputable def xy (K : PySem.W.Frag) (neg : Bool) : R2 := fun x y H Q => ∃ d ds, Rep K Any AnyF H x d /\ (Rep K Any AnyF H y (.lst ds) \/ Rep K Any AnyF H y (.tup ds)) /\ Okd d /\ Okd (.lst ds) /\ Q (.bl (if neg then !(pds ds).any (fun y => PyData.eqv y (pd d)) else (pds ds).any (fun y => PyData.eqv y (pd d)))) H
noncomputable def gJ (neg : Bool) : D -> D -> (D -> Prop) -> Prop := fun d d2 q => ∃ ds, (d2 = .lst ds \/ d2 = .tup ds) /\ Okd d /\ Okd (.lst ds) /\ q (.bl (if neg then !(pds ds).any (fun y => PyData.eqv y (pd d)) else (pds ds).any (fun y => PyData.eqv y (pd d))))
section
variable {K : PySem.W.Frag} {X : Cx}
theorem xA (hK : X.K = K) (hu : X.A.units + 64 < cLine) : OpR X (compareOp .Eq) (xw K false) := by
 rintro pins s σ H x y v u Q I rx ry ⟨d1, d2, r1, r2, o1, o2, q⟩
 obtain ⟨as, ra⟩ := bx I hK r1 o1.ty rx
 obtain ⟨bs, rb⟩ := bx I hK r2 o2.ty ry
 exact SeqAt.compareEq_reads ra rb o1.lay o2.lay (by have := o1.dep; lia) ⟨.bl _, H, I, rfl, q⟩
theorem xB (hK : X.K = K) (hu : X.A.units + 64 < cLine) : OpR X (compareOp .NotEq) (xw K true) := by
 rintro pins s σ H x y v u Q I rx ry ⟨d1, d2, r1, r2, o1, o2, q⟩
 obtain ⟨as, ra⟩ := bx I hK r1 o1.ty rx
 obtain ⟨bs, rb⟩ := bx I hK r2 o2.ty ry
 exact SeqAt.compareNe_reads ra rb o1.lay o2.lay (by have := o1.dep; lia) ⟨.bl _, H, I, rfl, q⟩
theorem gY (o : Okd (.lst ds)) : PyData.canLayAll0 (pds ds) = true /\ PyData.depthAll (pds ds) <= 40 /\ noTy (.tup ds) = true := by
 refine ⟨by simpa [pd, PyData.canLay0] using o.lay, ?_, by simpa [noTy] using o.ty⟩
 have := o.dep
 simp only [pd, PyData.depth] at this
 lia
theorem gm (hK : X.K = K) (hu : X.A.units + 64 < cLine) : OpR X (compareOp .In) (xy K false) := by
 rintro pins s σ H x y v u Q I rx ry ⟨d, ds, r1, r2, o1, o2, q⟩
 obtain ⟨as, ra⟩ := bx I hK r1 o1.ty rx
 obtain ⟨h1, h2, h3⟩ := gY o2
 rcases r2 with r2 | r2
 ·obtain ⟨bs, rb⟩ := bx I hK r2 o2.ty ry
  exact SeqAt.in_list_reads (by simpa [pd] using rb) ra h1 o1.lay (by lia) ⟨.bl _, H, I, rfl, q⟩
 ·obtain ⟨bs, rb⟩ := bx I hK r2 h3 ry
  exact SeqAt.in_tuple_reads (by simpa [pd] using rb) ra h1 o1.lay (by lia) ⟨.bl _, H, I, rfl, q⟩
theorem mV (hK : X.K = K) (hu : X.A.units + 64 < cLine) : OpR X (compareOp .NotIn) (xy K true) := by
 rintro pins s σ H x y v u Q I rx ry ⟨d, ds, r1, r2, o1, o2, q⟩
 obtain ⟨as, ra⟩ := bx I hK r1 o1.ty rx
 obtain ⟨h1, h2, h3⟩ := gY o2
 rcases r2 with r2 | r2
 ·obtain ⟨bs, rb⟩ := bx I hK r2 o2.ty ry
  exact SeqAt.notIn_list_reads (by simpa [pd] using rb) ra h1 o1.lay (by lia) ⟨.bl _, H, I, rfl, q⟩
 ·obtain ⟨bs, rb⟩ := bx I hK r2 h3 ry
  exact SeqAt.notIn_tuple_reads (by simpa [pd] using rb) ra h1 o1.lay (by lia) ⟨.bl _, H, I, rfl, q⟩
theorem uH {neg : Bool} : cE K (xw K neg) (rO neg) := fun x y H d1 d2 q C r1 r2 zt1 hc => by obtain ⟨o1, o2, h⟩ := zt1; exact ⟨d1, d2, r1, r2, o1, o2, hc _ _ h fun _ _ => .bl _⟩
theorem gZ {neg : Bool} : cE K (xy K neg) (gJ neg) := fun x y H d1 d2 q C r1 r2 zt1 hc => by obtain ⟨ds, e, o1, o2, h⟩ := zt1; exact ⟨d1, ds, r1, e.imp (fun e => by rw [<- e]; exact r2) (fun e => by rw [<- e]; exact r2), o1, o2, hc _ _ h fun _ _ => .bl _⟩
end
theorem eH {α : Type} (f : α -> D) : ∀ l : List α, pds (l.map f) = l.map fun x => pd (f x)
 | [] => rfl
 | _ :: r => by simp [pds, eH f r]
theorem g6 {α : Type} {f : α -> D} (h : ∀ x, noTy (f x) = true) : ∀ l : List α, gk (l.map f) = true
 | [] => rfl
 | _ :: r => by simp [gk, h, g6 h r]
theorem jE {α : Type} {f : α -> PyData} (h : ∀ x, (f x).canLay0 = true) : ∀ l : List α, PyData.canLayAll0 (l.map f) = true
 | [] => rfl
 | _ :: r => by simp [PyData.canLayAll0, h, jE h r]
theorem jF {α : Type} {f : α -> PyData} {n : Nat} (h : ∀ x, (f x).depth <= n) : ∀ l : List α, PyData.depthAll (l.map f) <= n
 | [] => by simp [PyData.depthAll]
 | x :: r => by simp only [List.map_cons, PyData.depthAll]; exact Nat.max_le.mpr ⟨h x, jF h r⟩
structure Enc {α : Type} (n : Nat) (f : α -> D) : Prop where
 ty : ∀ x, noTy (f x) = true
 lay : ∀ x, (pd (f x)).canLay0 = true
 dep : ∀ x, (pd (f x)).depth <= n
 eq : ∀ x y, PyData.eqv (pd (f x)) (pd (f y)) = true ↔ x = y
theorem gn {α : Type} {f : α -> PyData} (h : ∀ x y, PyData.eqv (f x) (f y) = true ↔ x = y) : ∀ l m : List α, PyData.eqvAll (l.map f) (m.map f) = true ↔ l = m
 | [], [] => by simp [PyData.eqvAll]
 | [], _ :: _ => by simp [PyData.eqvAll]
 | _ :: _, [] => by simp [PyData.eqvAll]
 | x :: r, y :: t => by simp [PyData.eqvAll, h, gn h r t]
theorem b9 : Enc 0 D.int := ⟨fun _ => rfl, fun _ => rfl, fun _ => Nat.le_refl _, fun x y => by simp [pd, PyData.eqv]⟩
theorem xC : Enc 0 D.bl := ⟨fun _ => rfl, fun _ => rfl, fun _ => Nat.le_refl _, fun x y => by simp [pd, PyData.eqv]⟩
theorem Enc.lst {α : Type} {n : Nat} {f : α -> D} (e : Enc n f) : Enc (n + 1) (fun l : List α => D.lst (l.map f)) where
 ty := fun l => by simp only [noTy]; exact g6 e.ty l
 lay := fun l => by simp only [pd, PyData.canLay0, eH]; exact jE e.lay l
 dep := fun l => by simp only [pd, PyData.depth, eH]; exact Nat.succ_le_succ (jF e.dep l)
 eq := fun l m => by simp only [pd, PyData.eqv, eH]; exact gn e.eq l m
theorem Enc.okd {α : Type} {n : Nat} {f : α -> D} (e : Enc n f) (hn : n <= 40) (x : α) : Okd (f x) := ⟨e.ty x, e.lay x, Nat.le_trans (e.dep x) hn⟩
theorem Enc.eqv {α : Type} [DecidableEq α] {n : Nat} {f : α -> D} (e : Enc n f) (x y : α) : PyData.eqv (pd (f x)) (pd (f y)) = decide (x = y) := by
 rw [Bool.eq_iff_iff, e.eq, decide_eq_true_iff]
theorem Enc.any {α : Type} [DecidableEq α] {n : Nat} {f : α -> D} (e : Enc n f) (x : α) (l : List α) : (pds (l.map f)).any (fun y => PyData.eqv y (pd (f x))) = decide (x ∈ l) := by
 rw [eH, List.any_map]
 induction l with
 | nil => simp
 | cons a r ih =>
  rw [List.any_cons, ih]
  simp only [Function.comp, e.eqv]
  rw [Bool.eq_iff_iff]
  simp only [Bool.or_eq_true, decide_eq_true_eq, List.mem_cons]
  exact ⟨fun z => z.elim (fun z => .inl z.symm) .inr, fun z => z.elim (fun z => .inl z.symm) .inr⟩
theorem Al {α : Type} [DecidableEq α] {n : Nat} {f : α -> D} (e : Enc n f) {x y : α} (h : q (.bl (decide (x = y)))) (hn : n <= 40 := by decide) : rO false (f x) (f y) q := ⟨e.okd hn x, e.okd hn y, by simpa [e.eqv] using h⟩
theorem An {α : Type} [DecidableEq α] {n : Nat} {f : α -> D} (e : Enc n f) {x y : α} (h : q (.bl (!decide (x = y)))) (hn : n <= 40 := by decide) : rO true (f x) (f y) q := ⟨e.okd hn x, e.okd hn y, by simpa [e.eqv] using h⟩
theorem uI {α : Type} [DecidableEq α] {n : Nat} {f : α -> D} (e : Enc n f) {x : α} {l : List α} (h : q (.bl (decide (x ∈ l)))) (hn : n + 1 <= 40 := by decide) : gJ false (f x) (.lst (l.map f)) q := ⟨_, .inl rfl, e.okd (by lia) x, e.lst.okd hn l, by simpa only [e.any, Bool.false_eq_true, if_false] using h⟩
theorem jG {α : Type} [DecidableEq α] {n : Nat} {f : α -> D} (e : Enc n f) {x : α} {l : List α} (h : q (.bl (!decide (x ∈ l)))) (hn : n + 1 <= 40 := by decide) : gJ true (f x) (.lst (l.map f)) q := ⟨_, .inl rfl, e.okd (by lia) x, e.lst.okd hn l, by simpa only [e.any, if_true] using h⟩
end VL
namespace VL
open PySem L2
section
variable {K : PySem.W.Frag} {X : Cx}
theorem ff (hK : X.K = K) : cG X (.builtin "len") (fun xs H Q => ∃ p ys, xs = [.ref p] /\ (SqL K H p ys \/ SqT K H p ys) /\ Q (.int ys.length) H) := by subst hK; exact iw
theorem jH (hK : X.K = K) : cG X (.builtin "isinstance") (w6 K) := by subst hK; exact og
theorem xD : bootBuiltins "max" = some (.builtin "max") := by decide +kernel
end
end VL
end
section
namespace VL
open PySem L2
section
variable {S S1 : List Sl} {Q : VR -> List Sl -> Prop} {QT : Bool -> List Sl -> Prop} {QN : List D -> List Sl -> Prop} {QA : List VR -> List Sl -> Prop} {W : ba} {va vb : VT} {vr : VTA} {vt vu : VTT} {vn : VTN} {s t : VTS} {g : VG}
noncomputable def Ao (u : VTS) (W : ba) : List Sl -> Prop := fun S' => ∃ S'', Wk S' S'' /\ u W S''
theorem Ap {u : VTS} (h : t ⟨Ao u W, W.rt, W.bk, W.ct⟩ S) : Ab t u W S := h
theorem xE {u : VTS} (h : u W S) : Ao u W S := ⟨S, Wk.refl S, h⟩
noncomputable def Aq (g : VG) (W : ba) : VR -> List Sl -> Prop := fun r S1 => ∃ d, r = .d d /\ g d S1 W.nx
theorem Ar (h : va S (Aq g W)) : kz va g W S := h
theorem xF (h : g d S W.nx) : Aq g W (.d d) S := ⟨d, rfl, h⟩
theorem Cf {i : Nat} {q : List Sl -> Prop} (e : Nat.ble (i + 1) S.length = true) (h : q (S.set i (.val d))) : vgN i d S q := ⟨Nat.le_of_ble_eq_true e, h⟩
theorem Cg {n : Nat} {u : List D -> List Sl -> (List Sl -> Prop) -> Prop} {q : List Sl -> Prop} (e : ds.length = n) (h : u ds S q) : vgT n u (.tup ds) S q := ⟨ds, rfl, e, h⟩
theorem xG {q : List Sl -> Prop} (h : q S) : uE [] S q := ⟨rfl, h⟩
theorem rP {r : List D} {u : List D -> List Sl -> (List Sl -> Prop) -> Prop} {q : List Sl -> Prop} (h : g d S fun S1 => u r S1 q) : oy g u (d :: r) S q := ⟨d, r, rfl, h⟩
noncomputable def uJ (i : Nat) (W : ba) : List D -> List Sl -> Prop := fun ds S1 => i < S1.length /\ W.nx (S1.set i (.own ds))
theorem xH {i : Nat} (h : vn S (uJ i W)) : oA i vn W S := h
theorem rQ {i : Nat} (e : Nat.ble (i + 1) S.length = true) (h : W.nx (S.set i (.own ds))) : uJ i W ds S := ⟨Nat.le_of_ble_eq_true e, h⟩
noncomputable def uK (i : Nat) (W : ba) : List D -> List Sl -> Prop := fun ds S1 => ∃ ns : List Int, ds = ns.map .int /\ i < S1.length /\ W.nx (S1.set i (.pen none ns))
theorem xJ {i : Nat} (h : vn S (uK i W)) : uF i vn W S := h
theorem iF {i : Nat} (e : Nat.ble (i + 1) S.length = true) (h : W.nx (S.set i (.pen none ns))) : uK i W (ns.map .int) S := ⟨ns, rfl, Nat.le_of_ble_eq_true e, h⟩
noncomputable def As (W : ba) : VR -> List Sl -> Prop := fun r S1 => ∃ d, retD S1 r = some d /\ W.rt d S1
theorem Au (h : va S (As W)) : Ac va W S := h
theorem xK (e : retD S r = some d) (h : W.rt d S) : As W r S := ⟨d, e, h⟩
noncomputable def kIf (t u : VTS) (W : ba) : Bool -> List Sl -> Prop := fun b S1 => if b = true then t W S1 else u W S1
theorem Av {u : VTS} (h : vt S (kIf t u W)) : Ad vt t u W S := h
theorem oI {u : VTS} {b : Bool} (h1 : b = true -> t W S) (h2 : b = false -> u W S) : kIf t u W b S := by
 cases b with
 | true => show (if true = true then _ else _); rw [if_pos rfl]; exact h1 rfl
 | false => show (if false = true then _ else _); rw [if_neg Bool.false_ne_true]; exact h2 rfl
theorem oJ {u : VTS} (h : t W S) : kIf t u W true S := by show (if true = true then _ else _); rw [if_pos rfl]; exact h
theorem oK {u : VTS} (h : u W S) : kIf t u W false S := by show (if false = true then _ else _); rw [if_neg Bool.false_ne_true]; exact h
theorem dJ {u : VTS} {p : Prop} [Decidable p] (h1 : p -> t W S) (h2 : ¬p -> u W S) : kIf t u W (decide p) S := oI (fun e => h1 (of_decide_eq_true e)) (fun e => h2 (of_decide_eq_false e))
theorem oM {u : VTS} {p : Prop} [Decidable p] (h1 : ¬p -> t W S) (h2 : p -> u W S) : kIf t u W (!decide p) S := oI (fun e => h1 (by simpa using e)) (fun e => h2 (by simpa using e))
noncomputable def uL (W : ba) : VR -> List Sl -> Prop := fun _ S1 => W.nx S1
theorem xM (h : va S (uL W)) : uD va W S := h
theorem rR (h : W.nx S) : uL W r S := h
theorem xN (h : W.nx S) : uC W S := h
theorem j_c (h : Q (.d d) S) : vC d S Q := h
theorem Aw {i : Nat} (e : rdO i S[i]? = some r) (h : Q r S) : rH i S Q := ⟨r, e, h⟩
noncomputable def oN (Q : VR -> List Sl -> Prop) : VR -> List Sl -> Prop := fun r S' => (match r with | .d d => flat d = true | .own _ => True) /\ Q r S'
theorem xO (h : va S (oN Q)) : oq va S Q := h
theorem rS (e : flat d = true) (h : Q (.d d) S) : oN Q (.d d) S := ⟨e, h⟩
theorem oO {i : Nat} (h : Q (.own i) S) : oN Q (.own i) S := ⟨trivial, h⟩
noncomputable def k2a (w : D -> D -> (D -> Prop) -> Prop) (vb : VT) (Q : VR -> List Sl -> Prop) : VR -> List Sl -> Prop := fun ra S1 => vb S1 fun rb S2 => ∃ d1 d2, get S2 ra = some d1 /\ get S2 rb = some d2 /\ w d1 d2 fun d => Q (.d d) S2
noncomputable def k2b (w : D -> D -> (D -> Prop) -> Prop) (Q : VR -> List Sl -> Prop) (ra : VR) : VR -> List Sl -> Prop := fun rb S2 => ∃ d1 d2, get S2 ra = some d1 /\ get S2 rb = some d2 /\ w d1 d2 fun d => Q (.d d) S2
theorem j_2 {w : D -> D -> (D -> Prop) -> Prop} (h : va S (k2a w vb Q)) : v2 w va vb S Q := h
theorem Ci {w : D -> D -> (D -> Prop) -> Prop} {ra : VR} (h : vb S (k2b w Q ra)) : k2a w vb Q ra S := h
theorem Cj {w : D -> D -> (D -> Prop) -> Prop} {ra rb : VR} {d1 d2 : D} (e1 : get S ra = some d1) (e2 : get S rb = some d2) (h : w d1 d2 fun d => Q (.d d) S) : k2b w Q ra rb S := ⟨d1, d2, e1, e2, h⟩
theorem Ax {f : Int -> Int -> L2.V} {i j : Int} (h : q (ofV (f i j))) : wI0 f (.int i) (.int j) q := ⟨i, j, rfl, rfl, h⟩
theorem Ay {C : Int -> Int -> Prop} {f : Int -> Int -> L2.V} {i j : Int} (c : C i j) (h : q (ofV (f i j))) : wI C f (.int i) (.int j) q := ⟨i, j, rfl, rfl, c, h⟩
noncomputable def Az (vb : VT) (Q : VR -> List Sl -> Prop) : VR -> List Sl -> Prop := fun ra S1 => vb S1 fun rb S2 => ∃ ds i d, (get S2 ra = some (.lst ds) \/ get S2 ra = some (.tup ds)) /\ get S2 rb = some (.int i) /\ atI ds i = some d /\ Q (.d d) S2
noncomputable def xP (Q : VR -> List Sl -> Prop) (ra : VR) : VR -> List Sl -> Prop := fun rb S2 => ∃ ds i d, (get S2 ra = some (.lst ds) \/ get S2 ra = some (.tup ds)) /\ get S2 rb = some (.int i) /\ atI ds i = some d /\ Q (.d d) S2
theorem Ck (h : va S (Az vb Q)) : vIx va vb S Q := h
theorem AA {ra : VR} (h : vb S (xP Q ra)) : Az vb Q ra S := h
theorem du {ra rb : VR} {i : Int} (e1 : get S ra = some (.lst ds)) (e2 : get S rb = some (.int i)) (e3 : atI ds i = some d) (h : Q (.d d) S) : xP Q ra rb S := ⟨ds, i, d, .inl e1, e2, e3, h⟩
theorem AB {ra rb : VR} {i : Int} (e1 : get S ra = some (.tup ds)) (e2 : get S rb = some (.int i)) (e3 : atI ds i = some d) (h : Q (.d d) S) : xP Q ra rb S := ⟨ds, i, d, .inr e1, e2, e3, h⟩
noncomputable def kUn (f : Int -> L2.V) (Q : VR -> List Sl -> Prop) : VR -> List Sl -> Prop := fun r S1 => ∃ i, get S1 r = some (.int i) /\ Q (.d (ofV (f i))) S1
theorem Cm {f : Int -> L2.V} (h : va S (kUn f Q)) : vUn f va S Q := h
theorem AC {f : Int -> L2.V} {i : Int} (e : get S r = some (.int i)) (h : Q (.d (ofV (f i))) S) : kUn f Q r S := ⟨i, e, h⟩
noncomputable def uM (QT : Bool -> List Sl -> Prop) : VR -> List Sl -> Prop := fun r S' => ∃ k, r = .d (.bl k) /\ QT k S'
theorem xQ (h : va S (uM QT)) : gU va S QT := h
theorem rT {k : Bool} (h : QT k S) : uM QT (.d (.bl k)) S := ⟨k, rfl, h⟩
noncomputable def kOr (u : VTT) (QT : Bool -> List Sl -> Prop) : Bool -> List Sl -> Prop := fun c S1 => if c = true then QT true S1 else u S1 QT
noncomputable def AD (QT : Bool -> List Sl -> Prop) : Bool -> List Sl -> Prop := fun c S1 => QT (!c) S1
theorem Co (h : vt S (kOr vu QT)) : vOr vt vu S QT := h
theorem AE (h : vt S (AD QT)) : zV vt S QT := h
theorem xR {b : Bool} (h : QT (!b) S) : AD QT b S := h
theorem AF {b : Bool} (h1 : b = true -> QT true S) (h2 : b = false -> vu S QT) : kOr vu QT b S := by
 cases b with
 | true => show (if true = true then _ else _); rw [if_pos rfl]; exact h1 rfl
 | false => show (if false = true then _ else _); rw [if_neg Bool.false_ne_true]; exact h2 rfl
theorem xS (h : vu S QT) : kOr vu QT false S := AF (fun e => nomatch e) fun _ => h
noncomputable def lH (vb : VT) (Q : VR -> List Sl -> Prop) : VR -> List Sl -> Prop := fun r S1 => ∃ c, r = .d (.bl c) /\ if c = true then vb S1 Q else Q (.d (.bl false)) S1
noncomputable def uN (Q : VR -> List Sl -> Prop) : VR -> List Sl -> Prop := fun r S1 => ∃ c, r = .d (.bl c) /\ Q (.d (.bl (!c))) S1
theorem xT (h : va S (lH vb Q)) : uA va vb S Q := h
theorem xU (h : va S (uN Q)) : uB va S Q := h
theorem rV {c : Bool} (h : Q (.d (.bl (!c))) S) : uN Q (.d (.bl c)) S := ⟨c, rfl, h⟩
theorem lI {c : Bool} (h1 : c = true -> vb S Q) (h2 : c = false -> Q (.d (.bl false)) S) : lH vb Q (.d (.bl c)) S := ⟨c, rfl, by
 cases c with
 | true => rw [if_pos rfl]; exact h1 rfl
 | false => rw [if_neg Bool.false_ne_true]; exact h2 rfl⟩
noncomputable def rW (va vb : VT) (Q : VR -> List Sl -> Prop) : Bool -> List Sl -> Prop := fun c S1 => if c = true then va S1 Q else vb S1 Q
theorem AG (h : vt S (rW va vb Q)) : vIf vt va vb S Q := h
theorem iG {b : Bool} (h1 : b = true -> va S Q) (h2 : b = false -> vb S Q) : rW va vb Q b S := by
 cases b with
 | true => show (if true = true then _ else _); rw [if_pos rfl]; exact h1 rfl
 | false => show (if false = true then _ else _); rw [if_neg Bool.false_ne_true]; exact h2 rfl
theorem AH (h : QA [] S) : xj S QA := h
noncomputable def oP (vr : VTA) (QA : List VR -> List Sl -> Prop) : VR -> List Sl -> Prop := fun r S1 => vr S1 fun rs S2 => QA (r :: rs) S2
theorem xV (h : va S (oP vr QA)) : lC va vr S QA := h
theorem rX (h : vr S fun rs S2 => QA (r :: rs) S2) : oP vr QA r S := h
noncomputable def kq (Q : VR -> List Sl -> Prop) : List VR -> List Sl -> Prop := fun rs S1 => ∃ ds, allD rs = some ds /\ ds.length <= 1000 /\ Q (.d (.tup ds)) S1
theorem AI (h : vr S (kq Q)) : zY vr S Q := h
theorem xW (e : allD rs = some ds) (e2 : Nat.ble ds.length 1000 = true) (h : Q (.d (.tup ds)) S) : kq Q rs S := ⟨ds, e, Nat.le_of_ble_eq_true e2, h⟩
noncomputable def AJ (QN : List D -> List Sl -> Prop) : List VR -> List Sl -> Prop := fun rs S1 => ∃ ds, allD rs = some ds /\ ds.length <= 1000 /\ QN ds S1
theorem AK (h : vr S (AJ QN)) : xk vr S QN := h
theorem xX (e : allD rs = some ds) (e2 : Nat.ble ds.length 1000 = true) (h : QN ds S) : AJ QN rs S := ⟨ds, e, Nat.le_of_ble_eq_true e2, h⟩
noncomputable def AL (Q : VR -> List Sl -> Prop) : List D -> List Sl -> Prop := fun ds S1 => Q (.d (.lst ds)) S1
theorem AM (h : vn S (AL Q)) : mR vn S Q := h
theorem xY (h : Q (.d (.lst ds)) S) : AL Q ds S := h
noncomputable def kCB (w : List D -> (D -> Prop) -> Prop) (Q : VR -> List Sl -> Prop) : List VR -> List Sl -> Prop := fun rs S1 => ∃ ds, gets S1 rs = some ds /\ w ds fun d => Q (.d d) S1
theorem Cp {w : List D -> (D -> Prop) -> Prop} (h : vr S (kCB w Q)) : vCB w vr S Q := h
theorem AN {w : List D -> (D -> Prop) -> Prop} (e : gets S rs = some ds) (h : w ds fun d => Q (.d d) S) : kCB w Q rs S := ⟨ds, e, h⟩
theorem xZ {es : List D} (h : q (.int es.length)) : xl [.lst es] q := ⟨es, .inl rfl, h⟩
theorem x3 {es : List D} (h : q (.int es.length)) : xl [.tup es] q := ⟨es, .inr rfl, h⟩
theorem Cq {f : Int -> Int -> Int} {i j : Int} (h : q (.int (f i j))) : wMM f [.int i, .int j] q := ⟨i, j, rfl, h⟩
theorem Cr (h : vr S (kCB p Q)) : vFn p vr S Q := h
noncomputable def AO (p : List D -> (D -> Prop) -> Prop) (QN : List D -> List Sl -> Prop) : List VR -> List Sl -> Prop := fun rs S1 => ∃ ds, gets S1 rs = some ds /\ p ds fun d => ∃ es, d = .lst es /\ flats es = true /\ QN es S1
theorem AQ (h : vr S (AO p QN)) : Aa p vr S QN := h
theorem x4 (e : gets S rs = some ds) (h : p ds fun d => ∃ es, d = .lst es /\ flats es = true /\ QN es S) : AO p QN rs S := ⟨ds, e, h⟩
noncomputable def AR (j : Nat) (p : List Int -> List D -> (D -> List Int -> Prop) -> Prop) (Q : VR -> List Sl -> Prop) : List VR -> List Sl -> Prop := fun rs S1 => ∃ i rs' ad ns ds, pick rs j = some (i, rs') /\ S1[i]? = some (.pen ad ns) /\ allD rs' = some ds /\ p ns ds fun d ns' => Q (.d d) (S1.set i (.pen ad ns'))
theorem AS {j : Nat} {p : List Int -> List D -> (D -> List Int -> Prop) -> Prop} (h : vr S (AR j p Q)) : xt j p vr S Q := h
theorem x5 {j : Nat} {p : List Int -> List D -> (D -> List Int -> Prop) -> Prop} {rs rs' : List VR} {i : Nat} {ad : Option Addr} (e1 : pick rs j = some (i, rs')) (e2 : S[i]? = some (.pen ad ns)) (e3 : allD rs' = some ds) (h : p ns ds fun d ns' => Q (.d d) (S.set i (.pen ad ns'))) : AR j p Q rs S := ⟨i, rs', ad, ns, ds, e1, e2, e3, h⟩
noncomputable def lJ (QN : List D -> List Sl -> Prop) : List VR -> List Sl -> Prop := fun rs S1 => ∃ r ds, rs = [r] /\ (get S1 r = some (.lst ds) \/ get S1 r = some (.tup ds)) /\ flats ds = true /\ QN ds S1
theorem oQ (h : vr S (lJ QN)) : lD vr S QN := h
theorem oR (e : get S r = some (.tup ds)) (f : flats ds = true) (h : QN ds S) : lJ QN [r] S := ⟨r, ds, rfl, .inr e, f, h⟩
noncomputable def oS (Q : VR -> List Sl -> Prop) : List VR -> List Sl -> Prop := fun rs S1 => ∃ r ds, rs = [r] /\ (get S1 r = some (.lst ds) \/ r = .d (.tup ds)) /\ flats ds = true /\ Q (.d (.tup ds)) S1
theorem rY (h : vr S (oS Q)) : ou vr S Q := h
theorem lK (e : get S r = some (.lst ds)) (f : flats ds = true) (h : Q (.d (.tup ds)) S) : oS Q [r] S := ⟨r, ds, rfl, .inl e, f, h⟩
noncomputable def AT (i : Nat) (Q : VR -> List Sl -> Prop) : VR -> List Sl -> Prop := fun r S1 => ∃ d ds, r = .d d /\ S1[i]? = some (.own ds) /\ ds.length <= 1000000 /\ Q (.d .non) (S1.set i (.own (ds ++ [d])))
theorem AU {i : Nat} (e : S[i]? = some (.own ds)) (h : va S (AT i Q)) : xq i va S Q := ⟨⟨ds, e⟩, h⟩
theorem oT {i : Nat} (e : S[i]? = some (.own ds)) (e2 : ds.length <= 1000000) (h : Q (.d .non) (S.set i (.own (ds ++ [d])))) : AT i Q (.d d) S := ⟨d, ds, rfl, e, e2, h⟩
noncomputable def lL (i : Nat) (vi : VT) (W : ba) : VR -> List Sl -> Prop := fun r S1 => (∃ s, S1[i]? = some s /\ s.mut = true) /\ vi S1 fun ri S2 => ∃ j, get S2 ri = some (.int j) /\
  ((∃ ad ns k n, S2[i]? = some (.pen ad ns) /\ ixN ns.length j = some k /\ r = .d (.int n) /\ W.nx (S2.set i (.pen ad (ns.set k n)))) \/
   (∃ ds k d, S2[i]? = some (.own ds) /\ ixN ds.length j = some k /\ r = .d d /\ W.nx (S2.set i (.own (ds.set k d)))))
noncomputable def lM (i : Nat) (W : ba) (r : VR) : VR -> List Sl -> Prop := fun ri S2 => ∃ j, get S2 ri = some (.int j) /\
  ((∃ ad ns k n, S2[i]? = some (.pen ad ns) /\ ixN ns.length j = some k /\ r = .d (.int n) /\ W.nx (S2.set i (.pen ad (ns.set k n)))) \/
   (∃ ds k d, S2[i]? = some (.own ds) /\ ixN ds.length j = some k /\ r = .d d /\ W.nx (S2.set i (.own (ds.set k d)))))
theorem rZ {i : Nat} (h : va S (lL i vb W)) : oC i va vb W S := h
theorem oU {i : Nat} {s : Sl} (e : S[i]? = some s) (m : s.mut = true) (h : vb S (lM i W r)) : lL i vb W r S := ⟨⟨s, e, m⟩, h⟩
theorem mW {i : Nat} {ri : VR} {j n : Int} {ad : Option Addr} {k : Nat} (e1 : get S ri = some (.int j)) (e2 : S[i]? = some (.pen ad ns)) (e3 : ixN ns.length j = some k) (h : W.nx (S.set i (.pen ad (ns.set k n)))) : lM i W (.d (.int n)) ri S := ⟨j, e1, .inl ⟨ad, ns, k, n, e2, e3, rfl, h⟩⟩
noncomputable def kFor (g : VG) (b : VTS) (W : ba) : List D -> List Sl -> Prop := fun ds S1 => runFor g b W ds S1 \/ ∃ Iv : Nat -> List Sl -> Prop, Iv 0 S1 /\ (∀ i d S2, ds[i]? = some d -> Iv i S2 -> g d S2 fun S3 => b { W with nx := Iv (i + 1), ct := Iv (i + 1), bk := W.nx } S3) /\ ∀ S2, Iv ds.length S2 -> W.nx S2
theorem AV {b : VTS} (h : vn S (kFor g b W)) : Ak vn g b W S := h
theorem iH {b : VTS} (Iv : Nat -> List Sl -> Prop) (h0 : Iv 0 S) (h1 : ∀ i d S2, ds[i]? = some d -> Iv i S2 -> g d S2 fun S3 => b ⟨Iv (i + 1), W.rt, W.nx, Iv (i + 1)⟩ S3) (h2 : ∀ S2, Iv ds.length S2 -> W.nx S2) : kFor g b W ds S := .inr ⟨Iv, h0, h1, h2⟩
theorem fC {b : VTS} {lo : Int} {n : Nat} (Iv : Nat -> List Sl -> Prop) (h0 : Iv 0 S) (h1 : ∀ i S2, i < n -> Iv i S2 -> g (.int (lo + (i : Int))) S2 fun S3 => b ⟨Iv (i + 1), W.rt, W.nx, Iv (i + 1)⟩ S3) (h2 : ∀ S2, Iv n S2 -> W.nx S2) : kFor g b W (rg lo n) S :=
 .inr ⟨Iv, h0, fun i d S2 e p => by
  have hi : i < n := by have := (List.getElem?_eq_some_iff.mp e).1; rwa [eR] at this
  rw [oD hi] at e
  cases e
  exact h1 i S2 hi p, fun S2 p => h2 S2 (by rwa [eR] at p)⟩
noncomputable def AW (QN : List D -> List Sl -> Prop) : VR -> List Sl -> Prop := fun r S1 => ∃ ds, r = .d (.lst ds) /\ QN ds S1
noncomputable def AX (QN : List D -> List Sl -> Prop) : VR -> List Sl -> Prop := fun r S1 => ∃ ds, r = .d (.tup ds) /\ QN ds S1
theorem AY (h : va S (AW QN)) : Ag va S QN := h
theorem AZ (h : va S (AX QN)) : Ah va S QN := h
theorem x6 (h : QN ds S) : AW QN (.d (.lst ds)) S := ⟨ds, rfl, h⟩
theorem x8 (h : QN ds S) : AX QN (.d (.tup ds)) S := ⟨ds, rfl, h⟩
noncomputable def A0 (QN : List D -> List Sl -> Prop) : List VR -> List Sl -> Prop := fun rs S1 => ∃ j : Int, rs = [.d (.int j)] /\ -(2 ^ 62) <= j /\ j < 2 ^ 62 /\ QN (rg 0 j.toNat) S1
noncomputable def A1 (QN : List D -> List Sl -> Prop) : List VR -> List Sl -> Prop := fun rs S1 => ∃ i j : Int, rs = [.d (.int i), .d (.int j)] /\ (-(2 ^ 62) <= i /\ i < 2 ^ 62 /\ -(2 ^ 62) <= j /\ j < 2 ^ 62) /\ QN (rg i (j - i).toNat) S1
theorem A3 (h : vr S (A0 QN)) : Ai vr S QN := h
theorem A4 (h : vr S (A1 QN)) : Aj vr S QN := h
theorem oV {j : Int} (h1 : 0 <= j /\ j < 1000000) (h : QN (rg 0 j.toNat) S) : A0 QN [.d (.int j)] S := ⟨j, rfl, by lia, by lia, h⟩
theorem x9 {i j : Int} (h1 : -1000000 <= i /\ i < 1000000 /\ -1000000 <= j /\ j < 1000000) (h : QN (rg i (j - i).toNat) S) : A1 QN [.d (.int i), .d (.int j)] S := ⟨i, j, rfl, ⟨by lia, by lia, by lia, by lia⟩, h⟩
noncomputable def g7 (n : Nat) (ix : List Nat) (g : VG) (vt : VTT) (ve : VT) (QN : List D -> List Sl -> Prop) : List D -> List Sl -> Prop := fun ds S1 => ds.length <= 1000000 /\ ∃ Iv : Nat -> List D -> List Sl -> Prop, Iv 0 [] S1 /\
 (∀ i d ys S2, ds[i]? = some d -> Iv i ys S2 -> g d (aO n ix S2) fun S3 => vt S3 fun b S4 => if b = true then ve S4 fun r S5 => ∃ x, r = .d x /\ Iv (i + 1) (ys ++ [x]) (backS n ix S2 S5) else Iv (i + 1) ys (backS n ix S2 S4)) /\
 ∀ ys S2, Iv ds.length ys S2 -> QN ys S2
theorem ya {n : Nat} {ve : VT} (h : vn S (g7 n ix g vt ve QN)) : lF vn n ix g vt ve S QN := h
noncomputable def dm (ve : VT) (A : D -> List Sl -> Prop) (B : List Sl -> Prop) : Bool -> List Sl -> Prop := fun b S4 => if b = true then ve S4 fun r S5 => ∃ x, r = .d x /\ A x S5 else B S4
noncomputable def kA (A : D -> List Sl -> Prop) : VR -> List Sl -> Prop := fun r S5 => ∃ x, r = .d x /\ A x S5
theorem sd {n : Nat} {ve : VT} (Iv : Nat -> List D -> List Sl -> Prop) (hl : ds.length <= 1000000) (h0 : Iv 0 [] S)
  (h1 : ∀ i d ys S2, ds[i]? = some d -> Iv i ys S2 -> g d (aO n ix S2) fun S3 => vt S3 (dm ve (fun x S5 => Iv (i + 1) (ys ++ [x]) (backS n ix S2 S5)) (fun S4 => Iv (i + 1) ys (backS n ix S2 S4)))) (h2 : ∀ ys S2, Iv ds.length ys S2 -> QN ys S2) : g7 n ix g vt ve QN ds S := ⟨hl, Iv, h0, h1, h2⟩
theorem oW {n : Nat} {ve : VT} {lo : Int} {m : Nat} (Iv : Nat -> List D -> List Sl -> Prop) (hl : m <= 1000000) (h0 : Iv 0 [] S)
  (h1 : ∀ i ys S2, i < m -> Iv i ys S2 -> g (.int (lo + (i : Int))) (aO n ix S2) fun S3 => vt S3 (dm ve (fun x S5 => Iv (i + 1) (ys ++ [x]) (backS n ix S2 S5)) (fun S4 => Iv (i + 1) ys (backS n ix S2 S4)))) (h2 : ∀ ys S2, Iv m ys S2 -> QN ys S2) : g7 n ix g vt ve QN (rg lo m) S :=
 ⟨by rw [eR]; exact hl, Iv, h0, fun i d ys S2 e p => by
  have hi : i < m := by have := (List.getElem?_eq_some_iff.mp e).1; rwa [eR] at this
  rw [oD hi] at e
  cases e
  exact h1 i ys S2 hi p, fun ys S2 p => h2 ys S2 (by rwa [eR] at p)⟩
theorem yb (h : QT true S) : uG S QT := h
theorem cX {ve : VT} {A : D -> List Sl -> Prop} {B : List Sl -> Prop} {b : Bool} (h1 : b = true -> ve S (kA A)) (h2 : b = false -> B S) : dm ve A B b S := by
 cases b with
 | true => show (if true = true then _ else _); rw [if_pos rfl]; exact h1 rfl
 | false => show (if false = true then _ else _); rw [if_neg Bool.false_ne_true]; exact h2 rfl
theorem mX {ve : VT} {A : D -> List Sl -> Prop} {B : List Sl -> Prop} (h : ve S (kA A)) : dm ve A B true S := cX (fun _ => h) fun e => nomatch e
theorem jI {A : D -> List Sl -> Prop} {x : D} (h : A x S) : kA A (.d x) S := ⟨x, rfl, h⟩
theorem A5 {i j : Int} (h : q (.bl (decide (i = j)))) : wEq (.int i) (.int j) q := ⟨.int i, .int j, rfl, rfl, rfl, by simpa using h⟩
theorem A6 {i j : Int} (h : q (.bl (!decide (i = j)))) : wNe (.int i) (.int j) q := ⟨.int i, .int j, rfl, rfl, rfl, by simpa using h⟩
theorem A7 {i j : Bool} (h : q (.bl (!decide (i = j)))) : wNe (.bl i) (.bl j) q := ⟨.bl i, .bl j, rfl, rfl, rfl, by simpa using h⟩
theorem A8 {c : String} {b : Bool} (hn : ∀ n, d ≠ .ty n) (e : mO (tyD d) c = some b) (h : q (.bl b)) (hE : isE d = false := by with_unfolding_all rfl) : zZ [d, .ty c] q := ⟨d, c, b, rfl, hn, hE, e, h⟩
end
end VL
end
section
namespace VL
open PySem L2
section
variable {K : PySem.W.Frag} {X : Cx} {m : Bool} {e a b c o : Expr} {ta tb tc te : TE} {va vb vc : VT} {pos : Pos}
noncomputable def iI (w w' : D -> D -> (D -> Prop) -> Prop) (va vb vc : VT) : VT := fun S Q => va S fun ra S1 => vb S1 fun rb S2 => ∃ d1 d2, get S2 ra = some d1 /\ get S2 rb = some d2 /\ w d1 d2 fun d => ∃ k, d = .bl k /\
 if k = true then vc S2 fun rc S3 => ∃ d2' d3, get S3 rb = some d2' /\ get S3 rc = some d3 /\ w' d2' d3 fun d => Q (.d d) S3 else Q (.d (.bl false)) S2
theorem oX {r r' : R2} {w w' : D -> D -> (D -> Prop) -> Prop} (L : cE K r w) (L' : cE K r' w') (ha : SndE K false ta va) (hb : SndE K false tb vb) (hc : SndE K false tc vc) : SndE K m (ki r r' ta tb tc) (iI w w' va vb vc) := by
 intro H0 Z σ H S Q C k t hq
 refine ha H0 Z σ H S _ _ k t fun x H1 ra S1 k1 st1 r1 t1 => ?_
 refine hb H0 Z σ H1 S1 _ _ k1 t1 fun y H2 rb S2 k2 st2 r2 zr1 => ?_
 obtain ⟨d1, d2, e1, e2, t2⟩ := zr1
 refine L x y H2 d1 d2 _ _ ((r1.step st2).get k2 e1) (r2.get k2 e2) t2 fun z dz zr1 rz => ?_
 obtain ⟨b, eb, q⟩ := zr1
 subst eb
 cases rz Any AnyF
 refine ⟨b, rfl, ?_⟩
 cases b with
 | false => rw [if_neg Bool.false_ne_true] at q ⊢; exact hq _ H2 (.d (.bl false)) S2 k2 (st1.trans st2) (Rep.bl false) q
 | true =>
  rw [if_pos rfl] at q ⊢
  refine hc H0 Z σ H2 S2 _ _ k2 q fun u H3 rc S3 k3 st3 r3 zr1 => ?_
  obtain ⟨d2', d3, g1, g2, t3⟩ := zr1
  exact L' y u H3 d2' d3 _ _ ((r2.step st3).get k3 g1) (r3.get k3 g2) t3 fun z dz q rz => hq z H3 (.d dz) S3 k3 ((st1.trans st2).trans st3) (rz _ _) q
theorem jJ {op op' : CmpOp} {r r' : R2} {w w' : D -> D -> (D -> Prop) -> Prop} (ho : OpR X (compareOp op) r) (L : cE K r w) (ho' : OpR X (compareOp op') r') (L' : cE K r' w') (ha : VE K X false a ta va) (hb : VE K X false b tb vb) (hc : VE K X false c tc vc)
  (hm : lastMarks [op, op'] [b, c] = false := by with_unfolding_all rfl) : VE K X m (.Compare a [op, op'] [b, c] pos) (ki r r' ta tb tc) (iI w w' va vb vc) := ⟨nW ho ho' ha.pe hb.pe hc.pe hm, oX L L' ha.snd hb.snd hc.snd⟩
theorem lN : ∀ {ps : List Addr} {nss : List (List Int)} {N : AP} {F : FP} {H : Hp}, w9 K (fun _ => none) ps nss -> Reps K N F H (ps.map V.ref) (nss.map eT)
 | _, _, _, _, _, .nil => .nil
 | _, _, _, _, _, .cons h t => .cons (.tupK h Reps.ints) (lN t)
end
section
variable {S : List Sl} {Q : VR -> List Sl -> Prop} {QT : Bool -> List Sl -> Prop} {W : ba} {va vb : VT} {vt vu : VTT} {t u : VTS} {b : Bool}
theorem A9 (e : b = false) (h : vu S QT) : kOr vu QT b S := by subst e; exact xS h
theorem Ba (e : b = true) (h : t W S) : kIf t u W b S := by subst e; exact oJ h
theorem Bb (e : b = false) (h : u W S) : kIf t u W b S := by subst e; exact oK h
theorem Cs (e : b = true) (h : va S Q) : rW va vb Q b S := by subst e; exact iG (fun _ => h) fun e => nomatch e
theorem Ct (e : b = false) (h : vb S Q) : rW va vb Q b S := by subst e; exact iG (fun e => nomatch e) fun _ => h
theorem Bc {c : Bool} (e : c = true) (h : vb S Q) : lH vb Q (.d (.bl c)) S := by subst e; exact lI (fun _ => h) fun e => nomatch e
theorem Bd {c : Bool} (e : c = false) (h : Q (.d (.bl false)) S) : lH vb Q (.d (.bl c)) S := by subst e; exact lI (fun e => nomatch e) fun _ => h
end
section
variable {α : Type} {S : List Sl} {QN : List D -> List Sl -> Prop} {g : VG} {vt : VTT} {ve : VT} {n : Nat} {ix : List Nat}
theorem aP {β : Type} {xs : List α} {en : α -> β} {i : Nat} {d : β} (h : (xs.map en)[i]? = some d) : ∃ x, xs[i]? = some x /\ d = en x /\ x ∈ xs /\ xs.take (i + 1) = xs.take i ++ [x] := by
 rw [List.getElem?_map] at h
 obtain ⟨x, h1, h2⟩ := Option.map_eq_some_iff.mp h
 refine ⟨x, h1, h2.symm, List.mem_of_getElem? h1, ?_⟩
 rw [List.take_add_one, h1]
 rfl
theorem cJ {xs : List α} {en f : α -> D} {p : α -> Bool} (hl : xs.length <= 1000000)
  (h : ∀ x ∈ xs, ∀ (A : D -> List Sl -> Prop) (B : List Sl -> Prop), (∀ S5, backS n ix S S5 = S -> p x = true -> A (f x) S5) -> (∀ S5, backS n ix S S5 = S -> p x = false -> B S5) -> g (en x) (aO n ix S) fun S3 => vt S3 (dm ve A B))
  (h2 : QN ((xs.filter p).map f) S) : g7 n ix g vt ve QN (xs.map en) S := by
 refine sd (fun i ys S' => S' = S /\ ys = ((xs.take i).filter p).map f) (by simpa using hl) ⟨rfl, by simp⟩ ?_ ?_
 ·rintro i d ys S2 e ⟨rfl, rfl⟩
  obtain ⟨x, h1, rfl, hm, ht⟩ := aP e
  refine h x hm _ _ (fun S5 e5 hp => ⟨e5, ?_⟩) (fun S5 e5 hp => ⟨e5, ?_⟩)
  ·rw [ht, List.filter_append, List.map_append]
   simp [hp]
  ·rw [ht, List.filter_append, List.map_append]
   simp [hp]
 ·rintro ys S2 ⟨rfl, rfl⟩
  rw [List.length_map, List.take_length]
  exact h2
theorem comp_map {xs : List α} {en f : α -> D} (hl : xs.length <= 1000000)
  (h : ∀ x ∈ xs, ∀ (A : D -> List Sl -> Prop) (B : List Sl -> Prop), (∀ S5, backS n ix S S5 = S -> A (f x) S5) -> g (en x) (aO n ix S) fun S3 => vt S3 (dm ve A B))
  (h2 : QN (xs.map f) S) : g7 n ix g vt ve QN (xs.map en) S := by
 refine cJ (p := fun _ => true) hl (fun x hx A B hA _ => h x hx A B fun S5 e => hA S5 e rfl) ?_
 rwa [List.filter_eq_self.mpr (by intros; rfl)]
end
section
variable {α : Type} [DecidableEq α] {n : Nat} {f : α -> D} {x y : α} {l : List α} {q : D -> Prop}
theorem uO (e : Enc n f) (hx : x ∈ l) (h : q (.bl true)) (hn : n + 1 <= 40 := by decide) : gJ false (f x) (.lst (l.map f)) q := uI e (by rw [decide_eq_true hx]; exact h) hn
theorem uP (e : Enc n f) (hx : x ∉ l) (h : q (.bl false)) (hn : n + 1 <= 40 := by decide) : gJ false (f x) (.lst (l.map f)) q := uI e (by rw [decide_eq_false hx]; exact h) hn
theorem Be (e : Enc n f) (hx : x ∉ l) (h : q (.bl true)) (hn : n + 1 <= 40 := by decide) : gJ true (f x) (.lst (l.map f)) q := jG e (by rw [decide_eq_false hx]; exact h) hn
theorem Bf (e : Enc n f) (hx : x ∈ l) (h : q (.bl false)) (hn : n + 1 <= 40 := by decide) : gJ true (f x) (.lst (l.map f)) q := jG e (by rw [decide_eq_true hx]; exact h) hn
theorem Bg (e : Enc n f) (hx : x = y) (h : q (.bl false)) (hn : n <= 40 := by decide) : rO true (f x) (f y) q := An e (by rw [decide_eq_true hx]; exact h) hn
end
theorem gp {α : Type} {l : List α} {f : α -> D} {r : Int} (h0 : 0 <= r) (h1 : r < l.length) : ∃ t, t ∈ l /\ l[r.toNat]? = some t /\ atI (l.map f) r = some (f t) := by
 have hr : r.toNat < l.length := by lia
 refine ⟨l[r.toNat], List.getElem_mem hr, List.getElem?_eq_getElem hr, ?_⟩
 obtain ⟨m, rfl⟩ : ∃ m : Nat, r = m := ⟨r.toNat, by lia⟩
 have hr : m < l.length := by lia
 exact fx (by rw [List.getElem?_map, List.getElem?_eq_getElem hr]; rfl)
end VL
end
section
namespace VL
open PySem L2 PySem.SeqAt PySem.Spec PyProof.Rows
section
variable {K : PySem.W.Frag} {X : Cx} {m : Bool} {e a b : Expr} {ta tb te : TE} {va vb : VT} {tr : TA} {vr : VTA} {pos p : Pos}
noncomputable def Bh (va : VT) : VTT := fun S Q => va S fun r S1 => ∃ d b, get S1 r = some d /\ tru d = some b /\ Q b S1
theorem yd (hK : X.K = K) (h : VE K X false e te va) (he : ∀ whole, isTrue e X.env whole = (do let v <- whole; standAt e.pos; holding [v] (truthy v)) := by intro _; rfl) : VTe K X e (fun σ H Q => te σ H fun x H' => ∃ k, TruV K x H' k /\ Q k H') (Bh va) :=
 ⟨by subst hK; exact nX h.pe he, fun H0 Z σ H S Q C k t hc => h.snd H0 Z σ H S _ _ k t fun v H1 r S1 k1 st1 rr zq1 => by
  obtain ⟨d, b, e1, e2, q⟩ := zq1
  refine ⟨b, ?_, hc b H1 S1 k1 st1 q⟩
  have r1 := rr.get k1 e1
  cases d with
  | int i => cases r1; cases e2; rfl
  | bl i => cases r1; cases e2; rfl
  | non => cases r1; cases e2; rfl
  | str i => cases e2
  | ty i => cases e2
  | dic ks i => cases e2
  | exc i => cases e2
  | oth i => cases e2
  | dib i j => cases e2
  | tup ds => obtain ⟨a, vs, rfl, hq, rr'⟩ := r1.sqT; cases e2; exact .inr (.inl ⟨vs, hq, by cases rr' <;> rfl⟩)
  | lst ds => obtain ⟨a, vs, rfl, hq, rr'⟩ := r1.sqL; cases e2; exact .inl ⟨vs, hq, by cases rr' <;> rfl⟩⟩
noncomputable def ye (i j : Nat) (vr : VTA) : VTS := fun W S => vr S fun rs S1 => ∃ d1 d2, rs = [.d d1, .d d2] /\ i < S1.length /\ j < S1.length /\ W.nx ((S1.set i (.val d1)).set j (.val d2))
theorem yf {i j : Nat} {stm : Stmt} (hp : PS X stm (nR i j tr)) (ha : xg K false tr vr) : VS K X stm (nR i j tr) (ye i j vr) := ⟨hp, fun H0 Z σ H S W E k t l => ha H0 Z σ H S _ _ k t fun vs H1 rs S1 k1 st1 rrs zq1 => by
 obtain ⟨d1, d2, e, hi, hj, q⟩ := zq1
 subst e
 cases rrs with
 | cons r1 t1 =>
  cases t1 with
  | cons r2 t2 =>
   cases t2
   have r1 : Rep K (NM Z σ S1) AnyF H1 _ d1 := Rep.mono (fun _ n _ => ⟨n, rfl⟩) (fun _ _ => trivial) r1
   have r2 : Rep K (NM Z σ S1) AnyF H1 _ d2 := Rep.mono (fun _ n _ => ⟨n, rfl⟩) (fun _ _ => trivial) r2
   obtain ⟨k2, st2⟩ := k1.setVal hi r1
   obtain ⟨k3, st3⟩ := k2.setVal (i := j) (by simpa using hj) (r2.step st2)
   exact ⟨_, _, rfl, l.nx _ _ _ k3 ((st1.trans st2).trans st3) q⟩⟩
noncomputable def Bi (i : Nat) (t : VTN) : VTN := fun S Q => (∃ ds, S[i]? = some (.own ds)) /\ t S fun es S1 => ∃ ds, S1[i]? = some (.own ds) /\ ds.length + es.length <= 1000000 /\ Q (ds ++ es) S1
theorem kB {t : VTN} (i : Nat) (ho : PE X a (cg i)) (h : VN K X b tb t) : VN K X (.BinOp a .Add b pos) (tOp wX (cg i) tb) (Bi i t) := ⟨jr n8 ho h.pe, fun H0 Z σ H S Q C k zq1 hc => by
 obtain ⟨⟨ds0, e0⟩, t⟩ := zq1
 obtain ⟨o, g1, c, us, rfl, g2, g3, g4⟩ := k.ownAt e0
 refine ⟨.ref c, g1, h.snd H0 Z σ H S _ _ k t fun a' vs es H1 H' S1 k1 st1 ha hg hl rr zr1 => ?_⟩
 obtain ⟨ds, e1, hlen, q⟩ := zr1
 obtain ⟨o', g1', c', us', rfl, g2', g3', g4'⟩ := k1.ownAt e1
 rw [g1] at g1'; cases g1'
 have k2 := k1.grow hg
 have g2'' : H' c = some (.lst us') := by rw [hg c (by simp [g2'])]; exact g2'
 refine ⟨c, a', us', vs, rfl, rfl, g2'', hl, by rw [g4'.length, rr.length, sizeLine_eq]; lia, fun p hp => ?_⟩
 refine hc p _ _ H' _ S1 k2 (st1.trans (.grow hg)) hp (aC hp) aw (Reps.append ?_ ?_) q
 ·exact bA hp ((g4'.mono (fun b n e => ⟨n, hg b e⟩) fun _ x => x).mono (fun _ n _ => ⟨n, rfl⟩) fun _ x _ => x)
 ·exact bA hp (rr.mono (fun _ n _ => ⟨n.1, rfl⟩) fun _ x _ => x)⟩
end
end VL
end
section
namespace VL
open PySem L2
section
variable {K : PySem.W.Frag} {X : Cx} {m : Bool} {e a b : Expr} {ta tb te : TE} {va vb : VT} {tr : TA} {vr : VTA} {pos p : Pos}
noncomputable def Bj (p : List Int -> List D -> (D -> List Int -> Prop) -> Prop) (t : VTN) : VT := fun S Q => t S fun ds S1 => ∃ ns : List Int, ds = ns.map D.int /\ p ns [] fun d _ => Q (.d d) S1
theorem yg {x : Str} {p0 : Pos} {j k : Nat} {ps : List Str} {t : VTN} {p : List Int -> List D -> (D -> List Int -> Prop) -> Prop} (E : Has X.prog X.w X.K X.mg X.base k x ps (spI K 0 p)) (hr : bQ j X.A) (h : VN K X e te t)
  (hk : k <= j := by decide) (hg : Gl X x := by rfl) (hdb : (x == ("__debug__" : Str)) = false := by decide) (he : starEach (e :: []) X.env = (false, eval e X.env) :: starEach [] X.env := by rfl)
  (hpl : (backTo pos (starEach [] X.env)).any (·.1) = false := by rfl) : VE K X m (.Call (.Name x p0) (e :: []) [] pos) (fS (spI K 0 p) [] E0 (cV te fR)) (Bj p t) := ⟨ly E hr (bZ h.pe dD he) hk hg hdb he hpl, fun H0 Z σ H S Q C k t hc =>
 h.snd H0 Z σ H S _ _ k t fun a vs ds H1 H' S1 k1 st1 ha hg hl rr zq1 => by
  obtain ⟨ns, e1, q⟩ := zq1
  subst e1
  cases Reps.toInts rr
  refine ⟨a, [], [], ns, [], [], _, rfl, rfl, hl, .nil, .nil, q, fun d ns' v H2 q g ga rv => ?_⟩
  have hG : ∀ b, H1 b ≠ none -> H2 b = H1 b := fun b hb => by
   have hba : b ≠ a := fun z => hb (by rw [z]; exact ha)
   have e := hg b hb
   rw [g b hba (by rw [e]; exact hb), e]
  have hN : ∀ b, H' b = none -> H1 b = none := fun b hb => Classical.byContradiction fun z => by rw [hg b z] at hb; exact z hb
  have k3 := k1.grow hG
  refine hc v H2 (.d d) S1 k3 (st1.trans (.grow hG)) (show Rep K _ _ H2 v d from ?_) q
  exact (Rep.avoid (N' := NM Z σ S1) (fun b z => k3.mo (Classical.not_not.mp z)) (fun b zq1 => by obtain ⟨c, ec, f⟩ := zq1; cases ec; exact k1.nm (hN _ f)) rv).mono (fun _ n _ => ⟨n, rfl⟩) (fun o zt1 _ => by obtain ⟨c, ec, f⟩ := zt1; exact ⟨c, ec, k1.dom c (hN _ f)⟩)⟩
end
theorem sh {X : Cx} {i j : Nat} {stm : Stmt} {a b : Expr} {tr : TA} {vr : VTA} (hp : ∀ tr, PA X [a, b] tr -> PS X stm (nR i j tr)) (ha : VA K X false [a, b] tr vr) : VS K X stm (nR i j tr) (ye i j vr) := yf (hp _ ha.pe) ha.snd
section
variable {S : List Sl} {Q : VR -> List Sl -> Prop} {QT : Bool -> List Sl -> Prop} {QN : List D -> List Sl -> Prop} {W : ba} {va vb : VT} {vr : VTA} {vn : VTN} {vl vh : VO}
@[irreducible] noncomputable def sj (p : List Int -> List D -> (D -> List Int -> Prop) -> Prop) (Q : VR -> List Sl -> Prop) : List D -> List Sl -> Prop := fun ds S1 => ∃ ns : List Int, ds = ns.map D.int /\ p ns [] fun d _ => Q (.d d) S1
theorem Bk {p : List Int -> List D -> (D -> List Int -> Prop) -> Prop} (h : vn S (sj p Q)) : Bj p vn S Q := by unfold sj at h; exact h
theorem yh {p : List Int -> List D -> (D -> List Int -> Prop) -> Prop} (e : ds = ns.map D.int) (h : p ns [] fun d _ => Q (.d d) S) : sj p Q ds S := by unfold sj; exact ⟨ns, e, h⟩
@[irreducible] noncomputable def sm (i : Nat) (QN : List D -> List Sl -> Prop) : List D -> List Sl -> Prop := fun es S1 => ∃ ds, S1[i]? = some (.own ds) /\ ds.length + es.length <= 1000000 /\ QN (ds ++ es) S1
theorem Bl {i : Nat} (e : S[i]? = some (.own ds)) (h : vn S (sm i QN)) : Bi i vn S QN := by unfold sm at h; exact ⟨⟨ds, e⟩, h⟩
theorem oY {i : Nat} {es ds : List D} (e : S[i]? = some (.own ds)) (hl : ds.length + es.length <= 1000000) (h : QN (ds ++ es) S) : sm i QN es S := by unfold sm; exact ⟨ds, e, hl, h⟩
@[irreducible] noncomputable def su (QT : Bool -> List Sl -> Prop) : VR -> List Sl -> Prop := fun r S1 => ∃ d b, get S1 r = some d /\ tru d = some b /\ QT b S1
theorem Bm (h : va S (su QT)) : Bh va S QT := by unfold su at h; exact h
theorem oZ {b : Bool} (e : get S r = some d) (e2 : tru d = some b) (h : QT b S) : su QT r S := by unfold su; exact ⟨d, b, e, e2, h⟩
@[irreducible] noncomputable def sx (i j : Nat) (W : ba) : List VR -> List Sl -> Prop := fun rs S1 => ∃ d1 d2, rs = [.d d1, .d d2] /\ i < S1.length /\ j < S1.length /\ W.nx ((S1.set i (.val d1)).set j (.val d2))
theorem Bn {i j : Nat} (h : vr S (sx i j W)) : ye i j vr W S := by unfold sx at h; exact h
theorem yi {i j : Nat} {d1 d2 : D} (h1 : i < S.length) (h2 : j < S.length) (h : W.nx ((S.set i (.val d1)).set j (.val d2))) : sx i j W [.d d1, .d d2] S := by unfold sx; exact ⟨d1, d2, rfl, h1, h2, h⟩
variable {QO : Option Int -> List Sl -> Prop}
end
end VL
end
section
namespace VL
open PySem L2
section
variable {K : PySem.W.Frag} {X : Cx} {m : Bool} {e a b : Expr} {es : List Expr} {ta tb te : TE} {va vb : VT} {tr : TA} {vr : VTA} {pos p : Pos} {stm : Stmt} {ts : TS} {t : VTS}
theorem sA (h : VA K X false es tr vr) : VE K X false (.List es pos) (wO tr) (mR (xk vr)) := ⟨nZ h.pe, fun H0 Z σ H S Q C k t hc =>
 h.snd H0 Z σ H S _ _ k t fun vs H1 rs S1 k1 st1 rrs ⟨ds, e, hl, q⟩ => ⟨small (by rw [rrs.length, <- cH e]; exact hl), fun p hp =>
  hc (.ref p) _ (.d (.lst ds)) S1 (k1.grow (aC hp)) (st1.trans (.grow (aC hp))) (Rep.lst (k1.nm hp) (fun z => nomatch z) aw ((rrs.allD e).mono (fun b n x => ⟨n, aC hp b x⟩) fun _ x => x)) q⟩⟩
end
end VL
end
section
namespace VL
open PySem L2
section
variable {K : PySem.W.Frag} {X : Cx} {m : Bool} {e o : Expr} {te : TE} {vb : VT} {pos : Pos}
noncomputable def Bo (rows : List (Int × List (List Int))) (vb : VT) : VT := fun S Q => vb S fun rb S1 => ∃ k nss, get S1 rb = some (.int k) /\ (k, nss) ∈ rows /\ Q (.d (.tup (nss.map eT))) S1
theorem yj {a : Addr} {rows : List (Int × List (List Int))} (hK : X.K = K) (hd : okD K a rows = true) (ho : PE X o (tC (.ref a))) (h : VE K X false e te vb) (hs : dY e) : VE K X m (.Subscript o e pos) (tOp (zS K rows) (tC (.ref a)) te) (Bo rows vb) :=
 ⟨by subst hK; exact jt rE ho h.pe hs, fun H0 Z σ H S Q C k t hc => h.snd H0 Z σ H S _ _ k t fun v H1 r S1 k1 st1 rr zq1 => by
  obtain ⟨i, nss, e1, hi, q⟩ := zq1
  cases rr.get k1 e1
  refine ⟨a, i, nss, rfl, rfl, hd, hi, fun v tt => ?_⟩
  obtain ⟨a', ps, rfl, h⟩ := tt
  obtain ⟨h1, h2⟩ := h fun _ => none
  exact hc _ H1 (.d (.tup (nss.map eT))) S1 k1 st1 (show Rep K _ _ H1 (.ref a') (.tup (nss.map eT)) from .tupK h1 (lN h2)) q⟩
end
section
variable {S : List Sl} {Q : VR -> List Sl -> Prop} {vb : VT}
@[irreducible] noncomputable def sC (rows : List (Int × List (List Int))) (Q : VR -> List Sl -> Prop) : VR -> List Sl -> Prop := fun rb S1 => ∃ k nss, get S1 rb = some (.int k) /\ (k, nss) ∈ rows /\ Q (.d (.tup (nss.map eT))) S1
theorem Bp {rows : List (Int × List (List Int))} (h : vb S (sC rows Q)) : Bo rows vb S Q := by unfold sC at h; exact h
theorem yk {rows : List (Int × List (List Int))} {k : Int} {nss : List (List Int)} (e : get S r = some (.int k)) (hm : (k, nss) ∈ rows) (h : Q (.d (.tup (nss.map eT))) S) : sC rows Q r S := by unfold sC; exact ⟨k, nss, e, hm, h⟩
end
end VL
end
section
namespace KT
open PySem PySem.Spec L2 SeqAt PySem.W
noncomputable def isNum : Int -> Value -> Bool
 | k, .int j _ => decide (j = k)
 | k, .bool b => decide ((if b then (1 : Int) else 0) = k)
 | _, _ => false
theorem bG {k : Int} {v : Value} (h : isNum k v = true) : (∃ t, v = .int k t) \/ ∃ b, v = .bool b /\ (if b then (1 : Int) else 0) = k := by
 cases v <;> simp [isNum] at h
 ·exact .inr ⟨_, rfl, h⟩
 ·exact .inl ⟨_, by rw [h]⟩
section
variable {prog : Program} {w : World}
theorem mY {A : Around} {E : Value -> Shared -> Prop} {s : Shared} {b : Bool} {Q : Int -> Shared -> Prop} (h : Q (hashInt (if b then (1 : Int) else 0)) { s with toks := s.toks + 1 }) : wpAny (model prog w) A (pyHash (.bool b)) Q E s := by
 refine pyHash_slot (T := "bool") rfl F.slot_bool_hash entry_int_hash (args_int_hash _) (beq_builtin_none _) (.inl rfl) ?_
 cases b
 ·exact (show wpAny _ _ (do ret (<- mkInt 0)) _ _ s from wpAny_bind (wpAny_mkInt (wpAny_pure ⟨_, _, rfl, h⟩)))
 ·exact (show wpAny _ _ (do ret (<- mkInt 1)) _ _ s from wpAny_bind (wpAny_mkInt (wpAny_pure ⟨_, _, rfl, h⟩)))
noncomputable def numKind (prog : Program) (w : World) : KeyKind prog w Int where
 is := isNum
 hash := hashInt
 inj := fun v a b x y => by
  rcases bG x with ⟨t, rfl⟩ | ⟨c, rfl, rfl⟩
  ·rcases bG y with ⟨u, e⟩ | ⟨d, e, _⟩ <;> cases e; rfl
  ·rcases bG y with ⟨u, e⟩ | ⟨d, e, rfl⟩ <;> cases e; rfl
 byValue := fun k v h => by rcases bG h with ⟨t, rfl⟩ | ⟨c, rfl, _⟩ <;> rfl
 pyHash := fun hv h => by
  rcases bG hv with ⟨t, rfl⟩ | ⟨c, rfl, rfl⟩
  ·exact wpAny_pyHash_int h
  ·exact mY h
 eqBool := fun {A E s a b u v Q} hu hv h => by
  have z : ∀ c d : Int, decide (c = d) = (c == d) := fun c d => by rw [Bool.eq_iff_iff]; simp
  rw [z] at h
  rcases bG hu with ⟨t, rfl⟩ | ⟨c, rfl, rfl⟩ <;> rcases bG hv with ⟨r, rfl⟩ | ⟨d, rfl, rfl⟩
  ·exact wpAny_eqBool_int h
  ·exact EqAt.int_bool _ _ _ prog w E Q h
  ·exact EqAt.bool_int _ _ _ prog w E Q h
  ·refine EqAt.bool_bool _ _ prog w E Q ?_
   have e : (c == d) = ((if c then (1 : Int) else 0) == (if d then 1 else 0)) := by cases c <;> cases d <;> rfl
   rw [e]; exact h
 «strs» := fun k x t v h => by simp [isNum] at h
end
end KT
end
section
namespace L2
open PySem PySem.Spec PyProof.Rows
section
variable {X : Cx} {pins : List (Addr × Obj)} {σ : St} {H : Hp} {s : Shared}
inductive NumV : List Int -> List V -> Prop where
 | nil : NumV [] []
 | int (i : Int) {ms : List Int} {vs : List V} (t : NumV ms vs) : NumV (i :: ms) (.int i :: vs)
 | bl (b : Bool) {ms : List Int} {vs : List V} (t : NumV ms vs) : NumV ((if b then (1 : Int) else 0) :: ms) (.bl b :: vs)
theorem NumV.ints : ∀ ms : List Int, NumV ms (ms.map V.int)
 | [] => .nil
 | i :: r => .int i (NumV.ints r)
noncomputable def SqN (K : PySem.W.Frag) (H : Hp) (b : Addr) (ms : List Int) : Prop := ∃ vs, SqT K H b vs /\ NumV ms vs
theorem SqN.of {b : Addr} (h : SqT K H b (ms.map V.int)) : SqN K H b ms := ⟨_, h, NumV.ints ms⟩
theorem el {P : Program} {w : World} : ∀ {ms : List Int} {vs : List V} {us : List Value}, NumV ms vs -> Vals vs us -> ItemsAre (KT.numKind P w) ms us
 | _, _, _, .nil, r => by cases r; exact .nil
 | _, _, _, .int i t, r => by
  cases r with
  | cons h u => obtain ⟨tk, rfl⟩ := h; exact .cons (by simp [KT.numKind, KT.isNum]) (el t u)
 | _, _, _, .bl b t, r => by
  cases r with
  | cons h u => cases h; exact .cons (by simp [KT.numKind, KT.isNum]) (el t u)
theorem cK {b : Addr} (I : Inv X pins σ H s) (h : SqN X.K H b ms) : (tupleKind (KT.numKind X.prog X.w)).is s.heap ms b := by
 obtain ⟨vs, h, hn⟩ := h
 obtain ⟨its, r, ⟨o, h1, h2, n, h3⟩, _⟩ := I.tuple h
 exact ⟨o, its.toArray, n, h1, h2, h3, by simpa using el hn r⟩
noncomputable def bX (K : PySem.W.Frag) (H : Hp) (es : List (List Int × Addr × V)) : Prop := ∀ x ∈ es, SqN K H x.2.1 x.1
theorem EV.keys {xs : List (List Int × Addr × Value)} (r : EV es xs) : es.map (·.1) = xs.map (·.1) := by
 induction r with
 | nil => rfl
 | cons h t ih => rw [List.map_cons, List.map_cons, ih, h.1]
theorem EV.mem {xs : List (List Int × Addr × Value)} (r : EV es xs) : ∀ x ∈ xs, ∃ e ∈ es, e.1 = x.1 /\ e.2.1 = x.2.1 := by
 induction r with
 | nil => intro x h; exact nomatch h
 | @cons p q ps qs h t ih =>
  intro x hx
  rcases List.mem_cons.mp hx with rfl | hx
  ·exact ⟨p, List.mem_cons_self, h.1, h.2.1⟩
  ·obtain ⟨e, h1, h2⟩ := ih x hx
   exact ⟨e, List.mem_cons_of_mem _ h1, h2⟩
theorem fD {a : Addr} {ob : Obj} (I : Inv X pins σ H s) (e : H a = some (bR a ob es)) (k : bX X.K H es) : es.length <= sizeLine /\ (a == sysModules) = false /\ (es.map (·.1)).Nodup /\
  ∃ xs, EV es xs /\ s.heap.DictOfH (tupleKind (KT.numKind X.prog X.w)) a xs := by
 obtain ⟨z, m, nd, xs, ev, o, ds, ep, h1, h2, h3, h4⟩ := iz I e
 refine ⟨z, m, nd, xs, ev, o, ds, ep, h1, h2, h3, h4, fun x hx => ?_, by rw [<- ev.keys]; exact nd⟩
 obtain ⟨e, he, e1, e2⟩ := ev.mem x hx
 rw [<- e1, <- e2]
 exact cK I (k e he)
noncomputable def atE (es : List (List Int × Addr × V)) (k : List Int) : Option V := (es.find? fun x => decide (x.1 = k)).map (·.2.2)
theorem EV.at_ {xs : List (List Int × Addr × Value)} (r : EV es xs) (k : List Int) : RelO (atE es k) ((atKey xs k).map (·.2)) := by
 induction r with
 | nil => exact True.intro
 | @cons p q ps qs h t ih =>
  obtain ⟨h1, _, h2⟩ := h
  by_cases e : p.1 = k
  ·have e' : q.1 = k := h1.symm.trans e
   have a : atE (p :: ps) k = some p.2.2 := by simp [atE, List.find?_cons, e]
   have b : atKey (q :: qs) k = some q.2 := by simp [atKey, List.find?_cons, e']
   rw [a, b]; exact h2
  ·have e' : ¬ q.1 = k := fun z => e (h1.trans z)
   have a : atE (p :: ps) k = atE ps k := by simp [atE, List.find?_cons, e]
   have b : atKey (q :: qs) k = atKey qs k := by simp [atKey, List.find?_cons, e']
   rw [a, b]; exact ih
theorem eS : ∀ {o : Option V} {u : Option Value}, RelO o u -> o.isSome = u.isSome
 | some _, some _, _ => rfl
 | none, none, _ => rfl
 | some _, none, h => h.elim
 | none, some _, h => h.elim
theorem gq {k : List Int} : (atE es k).isSome = decide (k ∈ es.map (·.1)) := by
 induction es with
 | nil => rfl
 | cons p ps ih =>
  by_cases e : p.1 = k
  ·simp [atE, List.find?_cons, e]
  ·have a : atE (p :: ps) k = atE ps k := by simp [atE, List.find?_cons, e]
   rw [a, ih]
   have : ¬ k = p.1 := fun z => e z.symm
   simp [this]
noncomputable def o8 (K : PySem.W.Frag) (neg : Bool) : R2 := fun y x H Q => ∃ b a ms es, y = .ref b /\ x = .ref a /\ SqN K H b ms /\ (∃ ob, H a = some (bR a ob es)) /\ bX K H es /\ Q (.bl (if neg then !decide (ms ∈ es.map (·.1)) else decide (ms ∈ es.map (·.1)))) H
end
section
variable {X : Cx}
theorem yl (hu : X.A.units + 64 < cLine) : OpR X (compareOp .In) (o8 X.K false) := by
 rintro pins s σ H x y v u Q I rx ry ⟨b, a, ms, es, e1, e2, h1, ⟨ob, h2⟩, h3, q⟩
 subst e1; subst e2
 cases rx; cases ry
 obtain ⟨z, m, nd, xs, ev, dd⟩ := fD I h2 h3
 refine wpAny_in_heap (tupleKind_room_in1 (by lia)) (cK I h1) m dd ?_
 have e := eS (ev.at_ ms)
 rw [Option.isSome_map, gq] at e
 rw [<- e]
 exact ⟨.bl _, H, I.tok _, rfl, q⟩
theorem mZ (hu : X.A.units + 64 < cLine) : OpR X (compareOp .NotIn) (o8 X.K true) := by
 rintro pins s σ H x y v u Q I rx ry ⟨b, a, ms, es, e1, e2, h1, ⟨ob, h2⟩, h3, q⟩
 subst e1; subst e2
 cases rx; cases ry
 obtain ⟨z, m, nd, xs, ev, dd⟩ := fD I h2 h3
 refine wpAny_notIn_heap (tupleKind_room_in1 (by lia)) (cK I h1) m dd ?_
 have e := eS (ev.at_ ms)
 rw [Option.isSome_map, gq] at e
 rw [<- e]
 exact ⟨.bl _, H, I.tok _, rfl, q⟩
end
end L2
namespace L2
open PySem PySem.Spec PyProof.Rows
noncomputable def d7 (es : List (List Int × Addr × V)) (k : List Int) (b : Addr) (v : V) : List (List Int × Addr × V) := if k ∈ es.map (·.1) then es.map (fun x => if x.1 = k then (x.1, x.2.1, v) else x) else es ++ [(k, b, v)]
theorem dM (es : List (List Int × Addr × V)) (k : List Int) (b : Addr) (v : V) : (d7 es k b v).length <= es.length + 1 := by
 unfold d7; split <;> simp
theorem EV.repl {xs : List (List Int × Addr × Value)} (r : EV es xs) (k : List Int) {u : Value} (rv : RelV v u) : EV (es.map fun x => if x.1 = k then (x.1, x.2.1, v) else x) (xs.map (putAt k u)) := by
 induction r with
 | nil => exact .nil
 | @cons p q ps qs h t ih =>
  rw [List.map_cons, List.map_cons]
  refine .cons ?_ ih
  obtain ⟨h1, h2, h3⟩ := h
  unfold putAt
  by_cases e : p.1 = k
  ·rw [if_pos e, if_pos (h1.symm.trans e)]; exact ⟨h1, h2, rv⟩
  ·rw [if_neg e, if_neg (fun z => e (h1.trans z))]; exact ⟨h1, h2, h3⟩
theorem EV.put {xs : List (List Int × Addr × Value)} (r : EV es xs) (k : List Int) {b : Addr} {u : Value} (rv : RelV v u) : EV (d7 es k b v) (storedH xs k b u) := by
 have e : decide (k ∈ es.map (·.1)) = (atKey xs k).isSome := by
  have := eS (r.at_ k)
  rw [Option.isSome_map, gq] at this
  exact this
 unfold d7 storedH
 by_cases q : (atKey xs k).isSome = true
 ·rw [if_pos q, if_pos (of_decide_eq_true (e.trans q))]; exact r.repl k rv
 ·rw [if_neg q, if_neg (fun z => q (e.symm.trans (decide_eq_true z)))]; exact Paired.snoc r ⟨rfl, rfl, rv⟩
section
variable {X : Cx} {o i value : Expr} {pos pos' : Pos} {td ty tv : TE}
noncomputable def uQ (K : PySem.W.Frag) (td ty tv : TE) : TS := fun D σ H => tv σ H fun v H1 => td σ H1 fun x H2 => ty σ H2 fun y H3 => ∃ a b ms es, x = .ref a /\ y = .ref b /\ SqN K H3 b ms /\ (∃ ob, H3 a = some (bR a ob es)) /\ bX K H3 es /\ es.length < sizeLine /\
 ∀ ob, D.nx σ (upd H3 a (bR a ob (d7 es ms b v)))
theorem ym {s : Shared} {a b : Addr} {ob : Obj} {r : Value} {A : Around} {E : Value -> Shared -> Prop} {Q : Unit -> Shared -> Prop} (hu : A.units + 1 < cLine) (I : Inv X pins σ H s) (h1 : SqN X.K H b ms) (h2 : H a = some (bR a ob es)) (h3 : bX X.K H es) (hl : es.length < sizeLine) (rv : RelV v r)
  (h : ∀ ob s', Inv X pins σ (upd H a (bR a ob (d7 es ms b v))) s' -> Q () s') : wpAny (model X.prog X.w) A (setItem (.ref a) (.ref b) r) Q E s := by
 obtain ⟨z, m, nd, xs, ev, dd⟩ := fD I h2 h3
 refine wpAny_setItem_heap (hsz := by rw [<- Paired.length ev]; exact z) (tupleKind_room_in1 hu) (cK I h1) dd fun h' dd' hs => ?_
 obtain ⟨q, ds, ep, hq, g2, g3, g4, _, g5⟩ := dd'
 refine h q _ (I.write (x := a) (e := a) (by rw [h2]; exact True.intro) (.inl rfl) (fun b q hb z => (hs.2 b hb).trans z) ⟨q, hq⟩ (DctP.ok ⟨?_, m, ?_, _, ev.put ms rv, q, ds, ep, hq, g2, g3, g4⟩ hq))
 ·have := dM es ms b v; lia
 ·rw [(ev.put ms rv).keys]; exact g5
theorem sD (hu : X.A.units + 64 < cLine) (ho : PE X o td) (hi : PE X i ty) (hv : PE X value tv) (hs : swapsWith value (some (.Subscript o i pos')) pos.line X.env = pure false) :
  PS X (.Assign [.Subscript o i pos'] value pos) (uQ X.K td ty tv) := by
 intro pins s σ H D I h
 refine wpAny_Assign_Subscript (thn (hv pins s σ H _ I h) fun r s1 ⟨v, H1, I1, rv, q1⟩ => thn (ho pins s1 σ H1 _ I1 q1) fun u s2 ⟨x, H2, I2, rx, q2⟩ => thn (hi pins s2 σ H2 _ I2 q2) fun iv s3 zr1 => ?_) hs
 obtain ⟨y, H3, I3, ry, a, b, ms, es, ex, ey, h1, ⟨ob, h2⟩, h3, hl, q3⟩ := zr1
 subst ex; subst ey
 obtain rfl : u = Value.ref a := rx
 obtain rfl : iv = Value.ref b := ry
 exact ym (by lia) I3 h1 h2 h3 hl rv fun ob s4 I4 => ⟨σ, _, I4, q3 ob⟩
theorem kC {s : Shared} (I : Inv X pins σ H s) : sysModules < s.heap.objs.size := by
 have h : mainGlobals < s.heap.objs.size := (I.mod.glob.keeps I.bk).lt
 exact Nat.lt_trans (by decide) h
noncomputable def uR : TE := fun _ H Q => ∀ p ob, H p = none -> Q (.ref p) (upd H p (bR p ob []))
theorem sE : PE X (.Dict [] [] pos) uR := fun pins s σ H Q I h =>
 wpAny_Dict_empty ⟨.ref s.heap.objs.size, _, I.laid (a := s.heap.objs.size) (o := bR s.heap.objs.size _ []) (t' := s.toks) (fun _ _ q => Heap.get?_push_of_some _ q) (Nat.le_refl _)
  (DctP.ok ⟨Nat.zero_le _, beq_eq_false_iff_ne.mpr (Ne.symm (Nat.ne_of_lt (kC I))), List.nodup_nil, [], .nil, _, #[], 0, Heap.get?_push_size _ rfl, ⟨rfl, rfl, rfl⟩, rfl, rfl⟩ (Heap.get?_push_size _ rfl)), rfl, h _ _ (I.hok.fresh (Nat.le_refl _))⟩
end
end L2
namespace VL
open PySem L2
noncomputable def dc (kvs : List (List Int × D)) : D := .dic (kvs.map (·.1)) (kvs.map (·.2))
noncomputable def od (kvs : List (List Int × D)) : Sl := .odi (kvs.map (·.1)) (kvs.map (·.2))
noncomputable def putA (kvs : List (List Int × D)) (k : List Int) (d : D) : List (List Int × D) := if k ∈ kvs.map (·.1) then kvs.map (fun x => if x.1 = k then (x.1, d) else x) else kvs ++ [(k, d)]
noncomputable def getA (kvs : List (List Int × D)) (k : List Int) : Option D := (kvs.find? fun x => decide (x.1 = k)).map (·.2)
section
variable {K : PySem.W.Frag} {N : AP} {F : FP} {H : Hp}
theorem cB : ∀ {es : List (List Int × Addr × V)}, Reps K N F H (es.map fun x => .ref x.2.1) ((es.map (·.1)).map kT) -> bX K H es
 | [], _ => fun _ h => nomatch h
 | e :: es, r => by
  cases r with
  | cons h t =>
   intro x hx
   rcases List.mem_cons.mp hx with rfl | hx
   ·obtain ⟨a, vs, e1, hq, rr⟩ := Rep.sqT (show Rep K N F H _ (.tup (x.1.map D.int)) from h)
    cases e1
    cases Reps.toInts rr
    exact SqN.of hq
   ·exact cB t x hx
theorem Rep.dct {ks : List (List Int)} (h : Rep K N F H v (.dic ks ds)) : ∃ a es, v = .ref a /\ N a /\ F (some a) /\ (∃ ob, H a = some (bR a ob es)) /\ es.map (·.1) = ks /\ bX K H es /\ Reps K N F H (es.map fun x => .ref x.2.1) (ks.map kT) /\ Reps K N F H (es.map (·.2.2)) ds := by
 cases h with
 | dic n f h e rk r => subst e; exact ⟨_, _, rfl, n, f, ⟨_, h⟩, rfl, cB rk, rk, r⟩
theorem g8 {k : List Int} (hv : Rep K N F H v d) : ∀ {es : List (List Int × Addr × V)} {kvs : List (List Int × D)}, es.map (·.1) = kvs.map (·.1) -> Reps K N F H (es.map (·.2.2)) (kvs.map (·.2)) ->
  Reps K N F H ((es.map fun x => if x.1 = k then (x.1, x.2.1, v) else x).map (·.2.2)) ((kvs.map fun x => if x.1 = k then (x.1, d) else x).map (·.2))
 | [], [], _, _ => .nil
 | e :: es, p :: kvs, ek, r => by
  simp only [List.map_cons, List.cons.injEq] at ek
  cases r with
  | cons h t =>
   simp only [List.map_cons]
   refine .cons ?_ (g8 hv ek.2 t)
   by_cases hk : e.1 = k
   ·rw [if_pos hk, if_pos (ek.1.symm.trans hk)]; exact hv
   ·rw [if_neg hk, if_neg (fun z => hk (ek.1.trans z))]; exact h
 | [], _ :: _, ek, _ => by simp at ek
 | _ :: _, [], ek, _ => by simp at ek
theorem kE (es : List (List Int × Addr × V)) (k : List Int) (v : V) : (es.map fun x => if x.1 = k then (x.1, x.2.1, v) else x).map (·.1) = es.map (·.1) := by
 rw [List.map_map]
 refine List.map_congr_left fun x _ => ?_
 simp only [Function.comp]; split <;> rfl
theorem kF (es : List (List Int × Addr × V)) (k : List Int) (v : V) : (es.map fun x => if x.1 = k then (x.1, x.2.1, v) else x).map (fun x => V.ref x.2.1) = es.map fun x => V.ref x.2.1 := by
 rw [List.map_map]
 refine List.map_congr_left fun x _ => ?_
 simp only [Function.comp]; split <;> rfl
theorem gr (kvs : List (List Int × D)) (k : List Int) (d : D) : (kvs.map fun x => if x.1 = k then (x.1, d) else x).map (·.1) = kvs.map (·.1) := by
 rw [List.map_map]
 refine List.map_congr_left fun x _ => ?_
 simp only [Function.comp]; split <;> rfl
theorem iJ {k : List Int} {b : Addr} (hv : Rep K N F H v d) {F' : FP} (hb : Rep K N F' H (.ref b) (kT k)) (ek : es.map (·.1) = kvs.map (·.1))
  (rk : Reps K N F' H (es.map fun x => V.ref x.2.1) ((kvs.map (·.1)).map kT)) (r : Reps K N F H (es.map (·.2.2)) (kvs.map (·.2))) :
  (d7 es k b v).map (·.1) = (putA kvs k d).map (·.1) /\ Reps K N F' H ((d7 es k b v).map fun x => V.ref x.2.1) (((putA kvs k d).map (·.1)).map kT) /\ Reps K N F H ((d7 es k b v).map (·.2.2)) ((putA kvs k d).map (·.2)) := by
 unfold d7 putA
 by_cases hk : k ∈ es.map (·.1)
 ·rw [if_pos hk, if_pos (by rw [<- ek]; exact hk), kE, gr, kF]
  exact ⟨ek, rk, g8 hv ek r⟩
 ·rw [if_neg hk, if_neg (by rw [<- ek]; exact hk)]
  simp only [List.map_append, List.map_cons, List.map_nil]
  exact ⟨by rw [ek], Reps.append rk (.cons hb .nil), Reps.append r (.cons hv .nil)⟩
end
section
variable {K : PySem.W.Frag} {X : Cx} {m : Bool} {e o ie : Expr} {te ti : TE} {va vi : VT} {pos posS : Pos}
noncomputable def Bq (neg : Bool) : D -> D -> (D -> Prop) -> Prop := fun d1 d2 q => ∃ ms kvs, d1 = kT ms /\ d2 = dc kvs /\ q (.bl (if neg then !decide (ms ∈ kvs.map (·.1)) else decide (ms ∈ kvs.map (·.1))))
theorem lO {neg : Bool} : cE K (o8 K neg) (Bq neg) := by
 rintro x y H d1 d2 q C r1 r2 ⟨ms, kvs, rfl, rfl, h⟩ hc
 obtain ⟨b, vs, rfl, hq, rr⟩ := Rep.sqT (show Rep K _ _ H x (.tup (ms.map D.int)) from r1)
 cases Reps.toInts rr
 obtain ⟨a, es, rfl, _, _, ha, ek, hk, _, _⟩ := Rep.dct (show Rep K _ _ H y (.dic _ _) from r2)
 refine ⟨b, a, ms, es, rfl, rfl, SqN.of hq, ha, hk, ?_⟩
 rw [ek]
 exact hc _ _ h fun _ _ => .bl _
theorem o9 (hK : X.K = K) (hu : X.A.units + 64 < cLine) : OpR X (compareOp .In) (o8 K false) := by subst hK; exact yl hu
theorem pb (hK : X.K = K) (hu : X.A.units + 64 < cLine) : OpR X (compareOp .NotIn) (o8 K true) := by subst hK; exact mZ hu
noncomputable abbrev VTD := List Sl -> (List (List Int × D) -> List Sl -> Prop) -> Prop
noncomputable def Cu (K : PySem.W.Frag) (te : TE) (t : VTD) : Prop := ∀ H0 Z σ H S Q C, OK K H0 Z σ H S -> t S Q -> (∀ a es kvs H1 H' S', OK K H0 Z σ H1 S' -> Step Z σ S H σ S' H1 -> H1 a = none -> (∀ b, H1 b ≠ none -> H' b = H1 b) -> (∃ ob, H' a = some (bR a ob es)) ->
 es.map (·.1) = kvs.map (·.1) -> Reps K (fun b => NM Z σ S' b /\ b ≠ a) AnyF H' (es.map fun x => V.ref x.2.1) ((kvs.map (·.1)).map kT) -> Reps K (fun b => NM Z σ S' b /\ b ≠ a) (Fr H0) H' (es.map (·.2.2)) (kvs.map (·.2)) -> Q kvs S' -> C (.ref a) H') -> te σ H C
structure VDe (K : PySem.W.Frag) (X : Cx) (e : Expr) (te : TE) (t : VTD) : Prop where
 pe : PE X e te
 snd : Cu K te t
noncomputable def uS : VTD := fun S Q => Q [] S
theorem kG : VDe K X (.Dict [] [] pos) uR uS := ⟨sE, fun H0 Z σ H S Q C k t hc => fun p ob hp => hc p [] [] H _ S k .refl hp (aC hp) ⟨ob, aw⟩ rfl .nil .nil t⟩
noncomputable def uT (t : VTD) : VT := fun S Q => t S fun kvs S1 => Q (.d (dc kvs)) S1
theorem iK {t : VTD} (h : VDe K X e te t) : VE K X m e te (uT t) := ⟨h.pe, fun H0 Z σ H S Q C k t hc => h.snd H0 Z σ H S _ _ k t fun a es kvs H1 H' S1 k1 st1 ha hg zq1 ek rk rr q => by
 obtain ⟨ob, hl⟩ := zq1
 refine hc _ H' (.d (dc kvs)) S1 (k1.grow hg) (st1.trans (.grow hg)) (Rep.dic (k1.nm ha) (fun _ => ⟨a, rfl, k1.dom a ha⟩) hl ek (Reps.flat (rk.mono (fun b n e => ⟨n.1, rfl⟩) fun _ x => x) (fW _)) (rr.mono (fun b n e => ⟨n.1, rfl⟩) fun _ x _ => x)) q⟩
noncomputable def uU (i : Nat) (t : VTD) : VTS := fun V S => t S fun kvs S1 => i < S1.length /\ V.nx (S1.set i (od kvs))
theorem iL {i : Nat} {x : Str} {pos' : Pos} {tn : VTD} (ps : ∀ te, PE X e te -> PS X (.Assign [.Name x pos'] e pos) (cU te (aZ i))) (h : VDe K X e te tn) : VS K X (.Assign [.Name x pos'] e pos) (cU te (aZ i)) (uU i tn) :=
 ⟨ps te h.pe, fun H0 Z σ H S V E k t l => h.snd H0 Z σ H S _ _ k t fun a es kvs H1 H' S' k1 st1 ha hg hl ek rk rr zq1 => by
  obtain ⟨hi, q⟩ := zq1
  obtain ⟨k2, st2⟩ := k1.setNew (s := od kvs) hi ha hg ⟨a, es, rfl, hl, k1.dom a ha, ⟨ek, rk⟩, rr⟩ rfl
  exact l.nx _ _ _ k2 (st1.trans st2) q⟩
noncomputable def uV (i : Nat) (ve vi : VT) : VTS := fun V S => ve S fun r S1 => (∃ kvs, S1[i]? = some (od kvs)) /\ vi S1 fun ri S2 => ∃ d ms kvs, r = .d d /\ get S2 ri = some (kT ms) /\ S2[i]? = some (od kvs) /\ kvs.length <= 1000000 /\ V.nx (S2.set i (od (putA kvs ms d)))
theorem fE (i : Nat) (hK : X.K = K) (hu : X.A.units + 64 < cLine) (ho : PE X o (cg i)) (h : VE K X true e te va) (hi : VE K X false ie ti vi) (hs : swapsWith e (some (.Subscript o ie posS)) pos.line X.env = pure false := by rfl) :
  VS K X (.Assign [.Subscript o ie posS] e pos) (uQ K (cg i) ti te) (uV i va vi) := ⟨by subst hK; exact sD hu ho hi.pe h.pe hs, fun H0 Z σ H S V E k t l => by
 refine h.snd H0 Z σ H S _ _ k t fun x H1 r S1 k1 st1 rr zr1 => ?_
 obtain ⟨⟨kvs0, e0⟩, q⟩ := zr1
 obtain ⟨o1, g1, p, es0, rfl, _⟩ := k1.ownAt e0
 refine ⟨.ref p, g1, hi.snd H0 Z σ H1 S1 _ _ k1 q fun y H2 ri S2 k2 st2 rr2 zr1 => ?_⟩
 obtain ⟨d, ms, kvs, er, ek, e1, hl, q2⟩ := zr1
 subst er
 obtain ⟨o2, g2, p', es, e2, h2, h3, ⟨h4, h5⟩, h6⟩ := k2.ownAt e1
 rw [g1] at g2; cases g2; cases e2
 have rx : Rep K (NM Z σ S2) (FM H0 true) H2 x d := Rep.step (show Rep K (NM Z σ S1) (FM H0 true) H1 x d from rr) st2
 have ry : ∃ b, y = .ref b /\ SqT K H2 b (ms.map L2.V.int) /\ Rep K (NM Z σ S2) AnyF H2 (.ref b) (kT ms) := by
  cases ri with
  | d z =>
   cases ek
   obtain ⟨b, vs, rfl, hq, rr⟩ := Rep.sqT (show Rep K _ _ H2 y (.tup (ms.map D.int)) from rr2)
   cases Reps.toInts rr
   exact ⟨b, rfl, hq, Rep.mono (fun _ n _ => ⟨n, rfl⟩) (fun _ _ => trivial) rr2⟩
  | own j =>
   have ek : getO S2[j]? = some (kT ms) := ek
   cases es : S2[j]? with
   | none => rw [es] at ek; cases ek
   | some s => rw [es] at ek; cases s <;> cases ek
 obtain ⟨b, rfl, hq, rb⟩ := ry
 have hk : bX K H2 es := cB (by rw [h4]; exact h5)
 refine ⟨p, b, ms, es, rfl, rfl, SqN.of hq, h2, hk, ?_, ?_⟩
 ·have : es.length = kvs.length := by have := congrArg List.length h4; simpa using this
  rw [sizeLine_eq]; lia
 ·intro obn
  have na : NM Z σ S2 p -> False := fun n => n (.inl ⟨i, _, e1, rfl, g1⟩)
  have hm : ∀ b, NM Z σ S2 b -> H2 b ≠ none -> NM Z σ S2 b /\ upd H2 p (bR p obn (d7 es ms b x)) b = H2 b := fun b n _ => ⟨n, au fun z => na (by rw [<- z]; exact n)⟩
  have hm' : ∀ c, NM Z σ S2 c -> H2 c ≠ none -> NM Z σ S2 c /\ upd H2 p (bR p obn (d7 es ms b x)) c = H2 c := fun c n _ => ⟨n, au fun z => na (by rw [<- z]; exact n)⟩
  obtain ⟨z1, z2, z3⟩ := iJ (k := ms) (b := b) (Rep.mono hm' (fun _ x => x rfl) rx) (Rep.mono hm' (fun _ x => x) rb) h4 (h5.mono hm' fun _ x => x) (h6.mono hm' fun _ x => x)
  obtain ⟨k3, st3⟩ := k2.chgD (s := od (putA kvs ms d)) (o := bR p obn (d7 es ms b x)) e1 rfl g1 rfl ⟨p, _, rfl, ⟨obn, aw⟩, h3, ⟨z1, z2⟩, z3⟩
  exact l.nx _ _ _ k3 ((st1.trans st2).trans st3) q2⟩
end
end VL
end
section
namespace L2
open PySem PySem.Spec PyProof.Rows
section
variable {prog : Program} {w : World} {A : Around} {E : Value -> Shared -> Prop} {s : Shared}
theorem ph {c : Code} {Q : Value -> Shared -> Prop} {R : Result -> Shared -> Prop} (h : codeAny (model prog w) A c (wants Q E) s) (ok : ∀ v s', Q v s' -> R (.ok (.ret v)) s') (no : ∀ e s', E e s' -> R (.error e) s') : codeAny (model prog w) A c R s :=
 codeAny_mono h fun r s' z => match r, z with
  | .error e, z => no e s' z
  | .ok (.ret v), z => ok v s' z
theorem jK {r : Addr} {a b c : Int} {t u v : Tok} {n : Nat} {Q : List Value -> Shared -> Prop} (hh : A.handled = none) (hr : IsRange s.heap r a b c t u v) (hs : Builtin.Range.small a b c = true) (hn : Builtin.Range.rangeSize a b c = n) (hl : n <= 2 ^ 24)
    (h : ∀ (h' : Heap) (tk : Nat) (acc : Array Value), (∀ b o, s.heap.get? b = some o -> h'.get? b = some o) -> ItemsOf (fun i v => ∃ t, v = .int (a + i * c) t) acc n -> Q acc.toList { s with heap := h', toks := tk }) :
    wpAny (model prog w) A (collect (.ref r)) Q E s := by
  have e0 : (s.heap.push { cls := .type "list", data := .seq ([] : List Value).toArray }).get? s.heap.objs.size = some { cls := .type "list", data := .seq #[] 0 } := Heap.get?_push_size _ rfl
  have ext := wpAny_extend_range (prog := prog) (w := w) (A := A) (s := { s with heap := s.heap.push { cls := .type "list", data := .seq ([] : List Value).toArray } })
    (R := wants (fun v s' => v = .ref s.heap.objs.size /\ ∃ (h' : Heap) (tk : Nat) (acc : Array Value) (k : Nat), s' = { s with heap := h', toks := tk } /\ (∀ b o, s.heap.get? b = some o -> h'.get? b = some o) /\
      h'.get? s.heap.objs.size = some { cls := .type "list", dict := none, data := .seq acc k, slots := #[] } /\ ItemsOf (fun i v => ∃ t, v = .int (a + i * c) t) acc n) E)
    hh (Heap.get?_push_of_some _ hr) hs hn hl s.heap.objs.size (.ref s.heap.objs.size) 0 e0 fun h' tk acc k old new its =>
      ⟨rfl, h', tk, acc, k, rfl, fun b o e => old b o (Nat.ne_of_lt (Heap.lt_size e)) (Heap.get?_push_of_some _ e), new, its⟩
  apply wpAny_bind
  apply wpAny_runValue
  refine ph (Q := fun v s' => v = .ref s.heap.objs.size /\ ∃ (h' : Heap) (tk : Nat) (acc : Array Value) (k : Nat), s' = { s with heap := h', toks := tk } /\ (∀ b o, s.heap.get? b = some o -> h'.get? b = some o) /\
      h'.get? s.heap.objs.size = some { cls := .type "list", dict := none, data := .seq acc k, slots := #[] } /\ ItemsOf (fun i v => ∃ t, v = .int (a + i * c) t) acc n) ?_ (fun v s' z => ?_) fun _ _ e => e
  · apply codeAny_builtin F.entry_proto_collect
    rw [Around.under_plainId F.plain_proto_collect]
    wp_walk
    constructor
    · exact plainId_quiet F.plain_list_iadd _
    apply codeAny_builtin F.entry_list_iadd
    rw [Around.under_plainId F.plain_list_iadd]
    exact ext
  · obtain ⟨rfl, h', tk, acc, k, rfl, old, new, its⟩ := z
    wp_walk
    exact h h' tk acc old its
theorem m3 {r : Addr} {a b c : Int} {t u v : Tok} {n : Nat} {Q : Value -> Shared -> Prop} (hh : A.handled = none) (hr : IsRange s.heap r a b c t u v) (hs : Builtin.Range.small a b c = true) (hn : Builtin.Range.rangeSize a b c = n) (hl : n <= 2 ^ 24)
  (h : ∀ (h' : Heap) (tk : Nat) (acc : Array Value), (∀ b o, s.heap.get? b = some o -> h'.get? b = some o) -> ItemsOf (fun i v => ∃ t, v = .int (a + i * c) t) acc n ->
   Q (.ref h'.objs.size) { s with heap := h'.push { cls := .type "tuple", data := .seq acc }, toks := tk }) :
  wpAny (model prog w) A (call (.type "tuple") [.ref r]) Q E s := by
 have meets : MeetsIn prog w (Builtin.«tuple.__new__» ⟨[.type "tuple", .ref r], []⟩) fun A R s => A.handled = none /\ IsRange s.heap r a b c t u v /\ ∀ (h' : Heap) (tk : Nat) (acc : Array Value), (∀ b o, s.heap.get? b = some o -> h'.get? b = some o) ->
   ItemsOf (fun i v => ∃ t, v = .int (a + i * c) t) acc n -> R (.ok (.ret (.ref h'.objs.size))) { s with heap := h'.push { cls := .type "tuple", data := .seq acc }, toks := tk } :=
  .of_wp fun A R s zq1 => by
   obtain ⟨hh, hr, h⟩ := zq1
   have i1 := sub_tuple_self
   have i2 := init_tuple_lookup
   have i3 := madeHere_tuple
   have ty : s.TypeIs (.ref r) "range" := ⟨_, hr, rfl⟩
   wp_walk using jK (A := A.in1) hh hr hs hn hl
   intro h' tk acc old its
   have z : acc.toList.toArray.size <= sizeLine := by rw [Array.toArray_toList, its.1, sizeLine_eq]; lia
   refine wpAny_bind (wpAny_pure ?_)
   show wpAny _ _ (Builtin.Tuple.tupleExact acc.toList.toArray >>= ret) _ _ _
   refine wpAny_bind (wpAny_newObj_type (T := "tuple") (data := .seq acc.toList.toArray) (hd := z) (wpAny_pure ⟨_, rfl, ?_⟩))
   rw [Array.toArray_toList]
   exact h h' tk acc old its
 exact callType_newIn F.called_tuple (by decide) (F.typeCall_tuple_1 _) (F.newCall_tuple_1 _) (fun _ => F.args_object_init_2 _ _) F.entry_tuple_new meets
  ⟨hh, hr, fun h' tk acc old its => ⟨⟨_, Heap.get?_push_size _ rfl, rfl⟩, h h' tk acc old its⟩⟩
end
end L2
end
section
namespace L2
open PySem PySem.Spec PyProof.Rows
noncomputable def rgI (lo : Int) (n : Nat) : List Int := (List.range n).map fun (i : Nat) => lo + (i : Int)
theorem kH {lo : Int} {n : Nat} {acc : Array Value} (h : ItemsOf (fun i v => ∃ t, v = .int (lo + i * 1) t) acc n) : Vals ((rgI lo n).map V.int) acc.toList := by
 have hl : acc.toList.length = n := by simpa using h.1
 have key : ∀ (k : Nat) (l : List Value) (j : Nat), l.length = k -> (∀ i v, l[i]? = some v -> ∃ t, v = Value.int (lo + ((j + i : Nat) : Int)) t) -> Vals ((List.range' j k).map fun (i : Nat) => V.int (lo + (i : Int))) l := by
  intro k
  induction k with
  | zero => intro l j e _; rw [List.eq_nil_of_length_eq_zero e]; exact .nil
  | succ k ih =>
   intro l j e hv
   match l, e with
   | v :: l, e =>
    rw [List.range'_succ, List.map_cons]
    obtain ⟨t, rfl⟩ := hv 0 v rfl
    refine .cons ⟨t, by simp⟩ (ih l (j + 1) (by simpa using e) fun i u hu => ?_)
    obtain ⟨t', e'⟩ := hv (i + 1) u (by simpa using hu)
    exact ⟨t', by rw [e']; simp only [Value.int.injEq, and_true]; lia⟩
 unfold rgI
 rw [List.map_map, List.range_eq_range']
 refine key n acc.toList 0 hl fun i v hv => ?_
 obtain ⟨t, e⟩ := h.2 i v (by simpa using hv)
 exact ⟨t, by rw [e]; simp only [Value.int.injEq, and_true]; lia⟩
section
variable {X : Cx} {p pr pos posr : Pos} {e : Expr} {tr : TA}
theorem pq {n : Int} (hc : X.calm = true) (h1 : -(2 ^ 62) <= n) (h2 : n <= 1000000) : Builtin.Range.small 0 n 1 = true /\ Builtin.Range.rangeSize 0 n 1 = (n.toNat : Int) /\ n.toNat <= 2 ^ 24 := by
 refine ⟨small_one (by decide) (by decide) h1 (by lia), ?_, by lia⟩
 rw [rangeSize_one]
 split <;> lia
noncomputable def Br : List V -> Hp -> VK -> Prop := fun xs H Q => ∃ n : Int, xs = [.int n] /\ ∀ r, H r = none -> Q (.ref r) (upd H r (.rng 0 n))
theorem pw : cG X (.type "range") Br := by
 rintro pins s σ H xs us Q I r ⟨n, e, q⟩
 subst e
 obtain ⟨u, rfl, rx⟩ := vals1 r
 obtain ⟨t, rfl⟩ := rx
 refine call_range_1 ⟨.ref s.heap.objs.size, _, I.laid (a := s.heap.objs.size) (o := .rng 0 n) (fun _ _ q => Heap.get?_push_of_some _ q) (Nat.le_refl _) ⟨_, _, _, Heap.get?_push_size _ rfl⟩, rfl, q _ (I.hok.fresh (Nat.le_refl _))⟩
noncomputable def rLR (mk : List V -> HO) : List V -> Hp -> VK -> Prop := fun xs H Q => ∃ (r : Addr) (n : Int), xs = [.ref r] /\ H r = some (.rng 0 n) /\ -(2 ^ 62) <= n /\ n <= 1000000 /\ ∀ l, H l = none -> Q (.ref l) (upd H l (mk ((rgI 0 n.toNat).map V.int)))
theorem jL (hc : X.calm = true) : cG X (.type "tuple") (rLR .tup) := by
 rintro pins s σ H xs us Q I rr ⟨r, n, e, hr, h1, h2, q⟩
 subst e
 obtain ⟨u, rfl, rx⟩ := vals1 rr
 cases rx
 obtain ⟨t, u, v, ho⟩ := (show aY X.prog X.w H s.heap r (.rng 0 n) from I.hok r _ hr)
 obtain ⟨g1, g2, g3⟩ := pq (X := X) hc h1 h2
 refine m3 (I.ok.hd hc) ho g1 g2 g3 fun h' tk acc old its => ?_
 have I2 : Inv X pins σ H { s with heap := h', toks := tk } := I.kept old
 refine ⟨.ref h'.objs.size, _, I2.laid (t' := tk) (fun _ _ z => Heap.get?_push_of_some _ z) (Nat.le_refl _) (show aY X.prog X.w _ _ _ (.tup ((rgI 0 n.toNat).map V.int)) from ⟨?_, acc.toList, kH its, _, Heap.get?_push_size _ rfl, rfl, 0, by simp⟩), rfl, q _ (I2.hok.fresh (Nat.le_refl _))⟩
 simp only [List.length_map, rgI, List.length_range, sizeLine_eq]
 lia
noncomputable def Bs (K : PySem.W.Frag) : List V -> Hp -> VK -> Prop := fun xs H Q => ∃ (l : Addr) (ns : List Int), xs = [.ref l] /\ SqL K H l (ns.map V.int) /\ Q (.int ns.sum) H
theorem uW (hK : X.K = K) (hc : X.calm = true) : cG X (.builtin "sum") (Bs K) := by
 rintro pins s σ H xs us Q I r ⟨l, ns, e, hq, q⟩
 subst e hK
 obtain ⟨u, rfl, rx⟩ := vals1 r
 cases rx
 obtain ⟨vs, rv, pl, _⟩ := I.list hq
 have hi : IntsAre vs ns := intsAre_of rv
 obtain ⟨xs, ex⟩ := hi.allInts.items
 have hl := pl.isList
 rw [ex] at hl
 refine PySem.sum_intListG (I.ok.hd hc) hl fun h' tk t' hk => ⟨.int ns.sum, H, I.kept hk, ⟨t', ?_⟩, q⟩
 have e1 := hi.numsOf
 have e2 : numsOf vs.toArray.toList = numsOf (intItems xs).toList := by rw [ex]
 rw [show vs.toArray.toList = vs by simp] at e2
 rw [e1, nums_intItems] at e2
 rw [preSum_eq, List.take_of_length_le (by simp), e2]
theorem pz : bootBuiltins "sum" = some (.builtin "sum") := by decide +kernel
theorem pA : bootBuiltins "range" = some (.type "range") := by decide +kernel
end
end L2
end
section
namespace VL
open PySem L2
section
variable {K : PySem.W.Frag} {X : Cx} {m : Bool} {e : Expr} {te : TE} {va vb : VT} {tr : TA} {vr : VTA} {pos p pr posr : Pos}
noncomputable def Bt : List D -> (D -> Prop) -> Prop := fun ds q => ∃ ns : List Int, ds = [.lst (ns.map .int)] /\ q (.int ns.sum)
theorem uX : gV K (Bs K) Bt := by
 rintro xs H ds q C r ⟨ns, rfl, h⟩ hc
 obtain ⟨v, rfl, rv⟩ := rep1 r
 obtain ⟨a, vs, rfl, hq, rr⟩ := rv.sqL
 cases Reps.toInts rr
 exact ⟨a, ns, rfl, hq, hc _ _ h fun _ _ => .int _⟩
theorem pB (lo : Int) (n : Nat) : rg lo n = (rgI lo n).map D.int := by unfold rg rgI; rw [List.map_map]; rfl
noncomputable def vTR (vr : VTA) : VT := fun S Q => vr S fun rs S1 => ∃ n : Int, rs = [.d (.int n)] /\ -(2 ^ 62) <= n /\ n <= 1000000 /\ Q (.d (.tup (rg 0 n.toNat))) S1
theorem sF (hc : X.calm = true) (hg : Gl X "tuple") (hm : X.mg "tuple" = none) (hgr : Gl X "range") (hmr : X.mg "range" = none) (ha : VA K X false [e] tr vr) (he : starEach [e] X.env = [(false, eval e X.env)] := by rfl)
  (hs : starEach [.Call (.Name "range" pr) [e] [] posr] X.env = [(false, eval (.Call (.Name "range" pr) [e] [] posr) X.env)] := by rfl) :
  VE K X m (.Call (.Name "tuple" p) [.Call (.Name "range" pr) [e] [] posr] [] pos) (tCB (rLR .tup) (cV (tCB Br tr) fR)) (vTR vr) :=
 ⟨dX (jL hc) hg hm fU (bZ (dX pw hgr hmr pA ha.pe (by decide) (by decide) he rfl) dD hs) (by decide) (by decide) hs rfl, fun H0 Z σ H S Q C k t hcc => ha.snd H0 Z σ H S _ _ k t fun vs H1 rs S1 k1 st1 rrs zq1 => by
  obtain ⟨n, e1, h1, h2, q⟩ := zq1
  subst e1
  obtain ⟨v, rfl, rv⟩ := rrs.one
  cases (show Rep K _ _ H1 v (.int n) from rv)
  refine ⟨n, rfl, fun r hr => ?_⟩
  refine ⟨r, n, rfl, aw, h1, h2, fun l hl => ?_⟩
  have g := aC (o := .rng 0 n) hr
  have g2 := aC (o := .tup ((rgI 0 n.toNat).map V.int)) hl
  refine hcc (.ref l) _ (.d (.tup (rg 0 n.toNat))) S1 ((k1.grow g).grow g2) ((st1.trans (.grow g)).trans (.grow g2)) (show Rep K _ _ _ _ _ from Rep.tup ((k1.grow g).nm hl) (.inl aw) ?_) q
  rw [pB]
  exact Reps.ints⟩
end
section
variable {S : List Sl} {Q : VR -> List Sl -> Prop} {QN : List D -> List Sl -> Prop} {QD : List (List Int × D) -> List Sl -> Prop} {W : ba} {va vb : VT} {vr : VTA} {vd : VTD}
@[irreducible] noncomputable def kTR (Q : VR -> List Sl -> Prop) : List VR -> List Sl -> Prop := fun rs S1 => ∃ n : Int, rs = [.d (.int n)] /\ -(2 ^ 62) <= n /\ n <= 1000000 /\ Q (.d (.tup (rg 0 n.toNat))) S1
theorem Cv (h : vr S (kTR Q)) : vTR vr S Q := by unfold kTR at h; exact h
theorem Bu {n : Int} (h : -(2 ^ 62) <= n /\ n <= 1000000) (q : Q (.d (.tup (rg 0 n.toNat))) S) : kTR Q [.d (.int n)] S := by unfold kTR; exact ⟨n, rfl, h.1, h.2, q⟩
theorem uY (h : q (.int ns.sum)) : Bt [.lst (ns.map .int)] q := ⟨ns, rfl, h⟩
theorem yn (h : QD [] S) : uS S QD := h
@[irreducible] noncomputable def lP (Q : VR -> List Sl -> Prop) : List (List Int × D) -> List Sl -> Prop := fun kvs S1 => Q (.d (dc kvs)) S1
theorem yo (h : vd S (lP Q)) : uT vd S Q := by unfold lP at h; exact h
theorem sG (h : Q (.d (dc kvs)) S) : lP Q kvs S := by unfold lP; exact h
@[irreducible] noncomputable def lQ (i : Nat) (W : ba) : List (List Int × D) -> List Sl -> Prop := fun kvs S1 => i < S1.length /\ W.nx (S1.set i (od kvs))
theorem yp {i : Nat} (h : vd S (lQ i W)) : uU i vd W S := by unfold lQ at h; exact h
theorem sH {i : Nat} (e : Nat.ble (i + 1) S.length = true) (h : W.nx (S.set i (od kvs))) : lQ i W kvs S := by unfold lQ; exact ⟨Nat.le_of_ble_eq_true e, h⟩
@[irreducible] noncomputable def lR (i : Nat) (vi : VT) (W : ba) : VR -> List Sl -> Prop := fun r S1 => (∃ kvs, S1[i]? = some (od kvs)) /\ vi S1 fun ri S2 => ∃ d ms kvs, r = .d d /\ get S2 ri = some (kT ms) /\ S2[i]? = some (od kvs) /\ kvs.length <= 1000000 /\ W.nx (S2.set i (od (putA kvs ms d)))
@[irreducible] noncomputable def iM (i : Nat) (r : VR) (W : ba) : VR -> List Sl -> Prop := fun ri S2 => ∃ d ms kvs, r = .d d /\ get S2 ri = some (kT ms) /\ S2[i]? = some (od kvs) /\ kvs.length <= 1000000 /\ W.nx (S2.set i (od (putA kvs ms d)))
theorem yq {i : Nat} {vi : VT} (h : va S (lR i vi W)) : uV i va vi W S := by unfold lR at h; exact h
theorem sI {i : Nat} {vi : VT} (e : S[i]? = some (od kvs)) (h : vi S (iM i r W)) : lR i vi W r S := by unfold lR; unfold iM at h; exact ⟨⟨kvs, e⟩, h⟩
theorem eI {i : Nat} {ri : VR} (e1 : get S ri = some (kT ms)) (e2 : S[i]? = some (od kvs)) (hl : kvs.length <= 1000000) (h : W.nx (S.set i (od (putA kvs ms d)))) : iM i (.d d) W ri S := by unfold iM; exact ⟨d, ms, kvs, rfl, e1, e2, hl, h⟩
theorem iN {neg : Bool} {d1 d2 : D} (e1 : d1 = kT ms) (e2 : d2 = dc kvs) (h : q (.bl (if neg then !decide (ms ∈ kvs.map (·.1)) else decide (ms ∈ kvs.map (·.1))))) : Bq neg d1 d2 q := ⟨ms, kvs, e1, e2, h⟩
end
theorem iO {α : Type} [DecidableEq α] {n : Nat} {f : α -> D} (e : Enc n f) {x : α} {l : List α} (h : q (.bl (decide (x ∈ l)))) (hn : n + 1 <= 40 := by decide) : gJ false (f x) (.tup (l.map f)) q := ⟨_, .inr rfl, e.okd (by lia) x, e.lst.okd hn l, by simpa only [e.any, Bool.false_eq_true, if_false] using h⟩
theorem m4 {ve : VT} {A : D -> List Sl -> Prop} {B : List Sl -> Prop} (h : B S) : dm ve A B false S := cX (fun e => nomatch e) fun _ => h
section
variable {K : PySem.W.Frag} {X : Cx} {e : Expr} {te : TE} {va : VT} {pos pos' : Pos} {x : Str}
theorem aD {i : Nat} (hN : X.N.Nodup) (hi : X.N[i]? = some x) (hx : Loc X.env.scope x) (h : VE K X false e te va) (hs : swapsWith e (some (.Name x pos')) pos.line X.env = pure false := by rfl)
  (hf : X.fn x = true \/ X.env.scope.names.lookup x = some .local := by first | exact .inl rfl | exact .inr rfl | assumption) : VS K X (.Assign [.Name x pos'] e pos) (cU te (aZ i)) (kz va (vgN i)) := xp (fun _ h => bK hN hi hx h hs hf) h
end
end VL
end
section
namespace VL
open PySem L2
section
variable {K : PySem.W.Frag} {X : Cx} {m : Bool} {e a b o : Expr} {te ta tb : TE} {va vb : VT} {pos apos : Pos}
noncomputable def Bv (i : Nat) (vb : VT) : VT := fun S Q => (∃ ds, S[i]? = some (.own ds)) /\ vb S fun rb S1 => ∃ ds j d, S1[i]? = some (.own ds) /\ get S1 rb = some (.int j) /\ atI ds j = some d /\ Q (.d d) S1
theorem yr (i : Nat) (hK : X.K = K) (ho : PE X o (cg i)) (hb : VE K X false b tb vb) (hs : dY b) : VE K X m (.Subscript o b pos) (tOp (rIx K) (cg i) tb) (Bv i vb) := ⟨by subst hK; exact jt n4 ho hb.pe hs, fun H0 Z σ H S Q C k zq1 hc => by
 obtain ⟨⟨ds0, e0⟩, t⟩ := zq1
 obtain ⟨o0, g0, p, vs0, rfl, _⟩ := k.ownAt e0
 refine ⟨.ref p, g0, hb.snd H0 Z σ H S _ _ k t fun y H2 rb S2 k2 st2 r2 zr1 => ?_⟩
 obtain ⟨ds, j, d, e1, e2, e3, q⟩ := zr1
 cases r2.get k2 e2
 obtain ⟨o1, g1, p', vs, e4, h1, h2, rr⟩ := k2.ownAt e1
 rw [g0] at g1; cases g1; cases e4
 obtain ⟨v, h3, h4⟩ := f9 rr e3
 exact .inl ⟨p, vs, j, v, rfl, rfl, .inl (.inl h1), h3, hc v H2 (.d d) S2 k2 st2 (show Rep K _ _ H2 v d from h4.mono (fun _ n _ => ⟨n, rfl⟩) fun _ x _ => x) q⟩⟩
end
section
variable {S : List Sl} {Q : VR -> List Sl -> Prop} {va vb : VT} {vn : VTN}
@[irreducible] noncomputable def sJ (i : Nat) (Q : VR -> List Sl -> Prop) : VR -> List Sl -> Prop := fun rb S1 => ∃ ds j d, S1[i]? = some (.own ds) /\ get S1 rb = some (.int j) /\ atI ds j = some d /\ Q (.d d) S1
theorem Bw {i : Nat} (e : S[i]? = some (.own ds)) (h : vb S (sJ i Q)) : Bv i vb S Q := by unfold sJ at h; exact ⟨⟨ds, e⟩, h⟩
theorem yt {i : Nat} {j : Int} (e1 : S[i]? = some (.own ds)) (e2 : get S r = some (.int j)) (e3 : atI ds j = some d) (h : Q (.d d) S) : sJ i Q r S := by unfold sJ; exact ⟨ds, j, d, e1, e2, e3, h⟩
end
end VL
end
section
namespace VL
open PySem L2
section
variable {K : PySem.W.Frag} {X : Cx} {e : Expr} {te : TE} {pos pos' : Pos} {x : Str}
theorem jM {i : Nat} {tn : VTN} (hN : X.N.Nodup) (hi : X.N[i]? = some x) (hx : Loc X.env.scope x) (h : VN K X e te tn) (hs : swapsWith e (some (.Name x pos')) pos.line X.env = pure false := by rfl)
  (hf : X.fn x = true \/ X.env.scope.names.lookup x = some .local := by first | exact .inl rfl | exact .inr rfl | assumption) : VS K X (.Assign [.Name x pos'] e pos) (cU te (aZ i)) (oA i tn) := cz (fun _ h => bK hN hi hx h hs hf) h
end
end VL
end
section
namespace L2
open PySem PySem.Spec PyProof.Rows PySem.W
structure Flies (P : Program) (w : World) (outer : List Env) (H : Hp) (s : Shared) (x : Addr) (cls a0 : Value) (B : Heap) (H' : Hp) (s' : Shared) : Prop where
 os : s'.os = s.os
 bare : AllBare s'.gens
 fly : Heap.FlyingW B outer x cls a0 s'.heap
 frm : ∀ b ∈ frs outer, ∀ o, s.heap.get? b = some o -> ∃ sl, s'.heap.get? b = some { o with slots := sl }
 hok : HOk P w H' B
 cov : ∀ b o, s.heap.get? b = some o -> H b = none -> b ∉ frs outer -> B.get? b = some o
 same : ∀ b, H b ≠ none -> H' b = H b
 free : ∀ b o, s.heap.get? b = some o -> H b = none -> H' b = none
 new : s.heap.get? x = none
noncomputable def CX1 (P : Program) (w : World) : CXT := fun outer H s E e s' => ∃ x cls a0 B H', e = .ref x /\ Flies P w outer H s x cls a0 B H' s' /\ E cls none H'
section
variable {P : Program} {w : World} {outer : List Env} {H H' : Hp} {s s' : Shared} {x : Addr} {cls a0 : Value} {B : Heap}
theorem Flies.hok' (f : Flies P w outer H s x cls a0 B H' s') : HOk P w H' s'.heap := f.hok.kept f.fly.1
theorem Flies.un (f : Flies P w outer H s x cls a0 B H' s') : Un (frs outer) [] H H' s.heap s'.heap where
 keep := fun b o e n nb _ => f.fly.1 b o (f.cov b o e n nb)
 slot := fun b o e _ hb _ => f.frm b hb o e
 free := fun b o e n _ => f.free b o e n
 there := fun b o e _ => by
  cases n : H b with
  | none =>
   by_cases hb : b ∈ frs outer
   ·obtain ⟨sl, q⟩ := f.frm b hb o e
    exact ⟨_, q⟩
   ·exact ⟨o, f.fly.1 b o (f.cov b o e n hb)⟩
  | some u => exact aY.there (f.hok' b u (by rw [f.same b (by rw [n]; simp)]; exact n))
 tups := fun b xs e => by rw [f.same b (by rw [e]; simp)]; exact e
 frzs := fun b o u e => by rw [f.same b (by rw [e]; simp)]; exact e
 tbls := fun b ps e => ⟨#[], by rw [f.same b (by rw [e]; simp), e]; simp⟩
theorem Flies.noX (f : Flies P w outer H s x cls a0 B H' s') : H' x = none := by
 cases n : H' x with
 | none => rfl
 | some u =>
  obtain ⟨o, e⟩ := aY.there (f.hok x u n)
  rw [f.fly.2.1] at e
  cases e
theorem pC {h : Heap} {as : List Addr} (k : HOk P w H h) (hf : ∀ a ∈ as, H a = none) : HOk P w H (hideAll h as) := fun b u e => by
 have nb : ∀ c v, H c = some v -> c ∉ as := fun c v q z => by rw [hf c z] at q; cases q
 refine (k b u e).stay (fun c v hc q => hideAll_get _ q ?_) (fun c q => q) fun c xs q => q
 rcases hc with rfl | hc
 ·exact nb c u e
 ·exact nb c _ hc
end
structure dN (X : Cx) (Hin : Hp) (E : XK) : Prop where
 first : ∀ pins σ H s h1 x cls args, Inv X pins σ H s -> Heap.MadeExcOf s.heap h1 x cls args -> (∀ b, Hin b ≠ none -> H b = Hin b) -> E cls none H -> ∀ tk, X.xe (.ref x) { s with heap := h1, toks := tk }
 next : ∀ pins σ H s e s', Inv X pins σ H s -> CX1 X.prog X.w X.stack H s (fun c _ H' => (∀ b, Hin b ≠ none -> H' b = Hin b) /\ E c none H') e s' -> X.xe e s'
section
variable {P : Program} {w : World} {K : PySem.W.Frag} {mg : Str -> Option Value} {base : Heap} {N : List Str} {qual : Str} {scope : Scope} {f : Addr} {cd : Value} {A : Around} {outer : List Env} {s : Shared} {H : Hp} {E : XK}
theorem m5 : dN (fu (CX1 P w) P w K mg base N qual scope f cd A outer s H E) H E where
 first := fun pins σ Hc sr h1 x cls args I hx fr he tk => by
  have nf : ∀ b ∈ frs outer, ∀ o, s.heap.get? b = some o -> ∀ vs, o.data ≠ .fields vs := fun b hb o e => by
   obtain ⟨_, o', e', n⟩ := I.ok.funs.mem hb
   have e' : s.heap.get? b = some o' := e'
   rw [e] at e'; cases e'
   exact n
  refine wpAny_leaves_madeW (base := hideAll sr.heap (frs (envOfC qual scope s.heap.objs.size f cd :: outer))) I.ok.frames rfl (fun b o q => of_hideAll _ q) (funFrames_hide I.stack fun env he a ha => List.mem_filterMap.mpr ⟨env, he, ha⟩) hx fun h' t fl _ _ up => ?_
  refine ⟨x, cls, .ref t, _, Hc, rfl, ⟨I.os, I.bare, fl, fun b hb o e => ?_, pC I.hok I.stkFree, fun b o e n nb => ?_, fr, fun b o e n => ?_, ?_⟩, he⟩
  ·obtain ⟨sl, q⟩ := I.base.slot b o e (I.ok.frf b hb) hb (by intro z; cases z)
   obtain ⟨sl', q'⟩ := up b _ (hx.keeps _ _ q) (nf b hb o e)
   exact ⟨sl', q'⟩
  ·refine hideAll_get _ (I.base.keep b o e n nb (by intro z; cases z)) fun z => ?_
   rcases List.mem_cons.mp (I.stkSub b z) with e' | z
   ·have lt := Heap.lt_size e
    have ab : s.heap.objs.size <= b := e' ▸ I.ok.above
    exact absurd lt (Nat.not_lt.mpr ab)
   ·exact nb z
  ·exact I.base.free b o e n (by intro z; cases z)
  ·cases q : s.heap.get? x with
   | none => rfl
   | some o =>
    obtain ⟨o', e'⟩ := I.base.there x o q (by intro z; cases z)
    rw [hx.new] at e'
    cases e'
 next := fun pins σ Hc sr e s' I h => by
  obtain ⟨x, cls, a0, B, H', rfl, F, fr, he⟩ := h
  have nf : ∀ b ∈ frs outer, ∀ o, s.heap.get? b = some o -> ∀ vs, o.data ≠ .fields vs := fun b hb o e => by
   obtain ⟨_, o', e', n⟩ := I.ok.funs.mem hb
   have e' : s.heap.get? b = some o' := e'
   rw [e] at e'; cases e'
   exact n
  refine wpAny_leaves_onW I.ok.frames rfl F.fly fun h' fl up => ?_
  have sub : ∀ b ∈ frs outer, b ∈ frs (envOfC qual scope s.heap.objs.size f cd :: outer) := fun b hb => by
   obtain ⟨env, h1, h2⟩ := List.mem_filterMap.mp hb
   exact List.mem_filterMap.mpr ⟨env, List.mem_cons_of_mem _ h1, h2⟩
  refine ⟨x, cls, a0, B, H', rfl, ⟨F.os.trans I.os, F.bare, fl, fun b hb o e => ?_, F.hok, fun b o e n nb => ?_, fr, fun b o e n => ?_, ?_⟩, he⟩
  ·obtain ⟨sl, q⟩ := I.base.slot b o e (I.ok.frf b hb) hb (by intro z; cases z)
   obtain ⟨sl1, q1⟩ := F.frm b (sub b hb) _ q
   obtain ⟨sl2, q2⟩ := up b _ q1 (nf b hb o e)
   exact ⟨sl2, q2⟩
  ·refine F.cov b o (I.base.keep b o e n nb (by intro z; cases z)) (I.base.free b o e n (by intro z; cases z)) fun z => ?_
   rcases List.mem_cons.mp (I.stkSub b z) with e' | z
   ·have lt := Heap.lt_size e
    have ab : s.heap.objs.size <= b := e' ▸ I.ok.above
    exact absurd lt (Nat.not_lt.mpr ab)
   ·exact nb z
  ·obtain ⟨o', e'⟩ := I.base.there b o e (by intro z; cases z)
   exact F.free b o' e' (I.base.free b o e n (by intro z; cases z))
  ·cases q : s.heap.get? x with
   | none => rfl
   | some o =>
    obtain ⟨o', e'⟩ := I.base.there x o q (by intro z; cases z)
    rw [F.new] at e'
    cases e'
end
theorem yu {K : Frag} {h : Heap} {mg : Str -> Option Value} {x : Str} {C : Addr} {bmB : List Value} {newId : String} (X : K.In h) (hm : mg x = some (.ref C)) (q : excIn K C bmB newId = true) : OwnCls x C bmB newId mg h := by
 unfold excIn at q
 cases hl : K.lookup C with
 | none => rw [hl] at q; cases q
 | some o =>
  rw [hl] at q
  split at q
  case h_2 => cases q
  case h_1 dd cd sl e =>
  cases e
  split at q
  case h_2 => cases q
  case h_1 C' bm k0 k1 k2 k3 n k5 hm' hs =>
  have hh := X _ _ hl
  simp only [Bool.and_eq_true, beq_iff_eq, Bool.not_eq_true'] at q
  obtain ⟨⟨⟨⟨⟨q1, q2⟩, q3⟩, q4⟩, q5⟩, q6⟩ := q
  cases cd
  cases q1; cases q2
  simp only at hm' q3 q5 q6
  cases hm'; cases q3
  rw [show sl = #[k0, k1, k2, k3, some (.builtin _), k5] from Array.toList_inj.mp hs] at hh
  exact ⟨hm, _, _, _, _, _, _, _, _, _, _, _, _, _, _, _, _, _, hh, .of_isNs (isNs_of_in X q5), nsMap_none_of_in X q5 q6, tail_of_in X q4⟩
section
variable {X : Cx} {Hin : Hp} {E : XK} {C : Addr} {bmB : List Value} {B newId initId : String} {x : Str} {z : Str} {j : Nat} {np p cpos pos : Pos}
noncomputable def pD (Hin : Hp) (E : XK) (C : Addr) : TS := fun _ _ H => (∀ b, Hin b ≠ none -> H b = Hin b) /\ E (.ref C) none H
theorem pE (T : dN X Hin E) (FB : ExcBaseFacts B newId initId bmB) (ec : excIn X.K C bmB newId = true) (hm : X.mg x = some (.ref C)) (hc : X.calm = true) (hg : Gl X x := by rfl) (hd : (x == ("__debug__" : Str)) = false := by decide)
  (he : starEach [.Constant (.str z) j p] X.env = [(false, eval (.Constant (.str z) j p) X.env)] := by rfl) :
  PS X (.Raise (some (.Call (.Name x np) [.Constant (.str z) j p] [] cpos)) none pos) (pD Hin E C) := by
 rintro pins s σ H D I ⟨fr, ec'⟩
 have O : OwnCls x C bmB newId X.mg s.heap := yu I.kIn hm ec
 obtain ⟨tl, N, nm, q, bs, hdct, sn, sub, ab, col, dd, k0, k1, k2, k3, k5, mN, hC, hN, hni, TL⟩ := O.obj
 refine wpAny_Raise_call_subT (mN := mN) (nm := nm) (q := q) (C := C) (N := N) (bs := bs) (bm := tl) (hdct := hdct) (sn := sn) (sub := sub) (ab := ab) (col := col) (dd := dd) (k0 := k0) (k1 := k1) (k2 := k2) (k3 := k3) (k5 := k5) FB (TL.hasType FB.hasBase) (I.ok.hd hc) (by rw [he]; rfl) hni (eu I hg hm ⟨rfl, ?_⟩ hd)
 rw [he]
 refine Calls.evalArgs_plain ?_
 refine Calls.spliced_cons (Calls.Constant_str (k := j) (pos := p) (Calls.spliced_nil ⟨rfl, ?_, hC, hN, TL, fun h' e mk => ?_⟩))
 ·show 1 <= sizeLine
  rw [sizeLine_eq]; lia
 ·exact T.first pins σ H s h' e (.ref C) _ I mk fr ec' _
end
section
open Builtin Builtin.ObjectAttr Builtin.Getset_descriptor
noncomputable def fF (K : Frag) (C : Addr) : Bool := (findIn K (.ref C) "__getattribute__" == some (some (.builtin "BaseException.__getattribute__"))) && (findIn K (.ref C) "__getattr__" == some none) && (findIn K (.ref C) "__class__" == some (some (.builtin "object.__class__"))) &&
 (specialIn K (.builtin "object.__class__") "__get__" == some (some (.builtin "getset_descriptor.__get__"))) && (takesIn K (.builtin "object.__class__") == some true) && (mroIn K C (.type "object") == some true) && (mroIn K C (.type "BaseException") == some true)
section
variable {prog : Program} {w : World} {A : Around} {E : Value -> Shared -> Prop} {s : Shared} {K : Frag} {x C : Addr} {o : Obj}
theorem kI {Q : Option Value -> Shared -> Prop} (X : K.In s.heap) (ho : s.heap.get? x = some o) (hc : o.cls = .ref C) (ok : fF K C = true) (h : Q (some (.ref C)) { s with toks := s.toks + 1 }) : wpAny (model prog w) A (getAttr? (.ref x) "__class__") Q E s := by
 obtain ⟨hp, g, d, tk, os⟩ := s
 simp only [fF, Bool.and_eq_true, beq_iff_eq] at ok
 obtain ⟨⟨⟨⟨⟨⟨o1, o2⟩, o3⟩, o4⟩, o5⟩, o6⟩, o7⟩ := ok
 have T0 : Looks (model prog w) hp (typeOf (.ref x)) (.ref C) := hc ▸ (Looks.ld ho).andThen .now
 have T1 := looks_findIn (M := model prog w) X o1
 have T2 := looks_findIn (M := model prog w) X o2
 have T3 : Looks (model prog w) hp (find (.ref x) (.ref C) "__class__") (.bind (.builtin "getset_descriptor.__get__") (.builtin "object.__class__")) :=
  (looks_findIn X o3).andThen ((show Looks (model prog w) hp (getOf (some (.builtin "object.__class__"))) _ from looks_specialIn X o4).andThen
   ((show Looks (model prog w) hp (dataDescriptor? (some (.builtin "object.__class__")) (some (.builtin "getset_descriptor.__get__"))) (some (.builtin "getset_descriptor.__get__", .builtin "object.__class__")) from (looks_takesIn X o5).andThen .now).andThen (Looks.tag .now)))
 have T6 := looks_mroIn (M := model prog w) X o6
 have T7 : Looks (model prog w) hp (isInstance (.ref x) (.type "BaseException")) true := T0.andThen (looks_mroIn X o7)
 have gets : ∀ (A : Around) (tk : Nat), wpAny (model prog w) A (call (.builtin "getset_descriptor.__get__") [.builtin "object.__class__", .ref x, .ref C]) (fun v s' => v = .ref C /\ s' = ⟨hp, g, d, tk, os⟩) (fun _ _ => False) ⟨hp, g, d, tk, os⟩ := fun A tk => by
  refine wpAny_call (codeAny_call_builtin KF.slot_gs.plain KF.entry_gs (KF.slot_gs.check _ _ _ _ _ _ _ _ KF.type_class (KF.args_gs _ _ _) ?_))
  simp only [Builtin.«getset_descriptor.__get__», descrGet, dga_obj]
  refine wpAny_bind (wpAny_pure ?_)
  simp only [descrGetter, descrCheckInstance, descrNameAndClass, isInstance, KF.owner_class]
  repeat lk
  exact ⟨Code.quiet_builtin _ (by decide +kernel), codeAny_builtin KF.entry_class (by simp only [Builtin.«object.__class__», shownTypeOf]; (repeat lk); exact ⟨rfl, rfl⟩)⟩
 have asks : ∀ (A : Around) (tk : Nat) (nt : Tok), wpAny (model prog w) A (call (.builtin "BaseException.__getattribute__") [.ref x, .str "__class__" nt]) (fun v s' => v = .ref C /\ s' = ⟨hp, g, d, tk, os⟩) (fun _ _ => False) ⟨hp, g, d, tk, os⟩ := fun A tk nt => by
  have kd : builtinKind "BaseException.__getattribute__" = some .slot := by decide +kernel
  have sp : splitId "BaseException.__getattribute__" = some ("BaseException", "__getattribute__") := by decide +kernel
  refine wpAny_call (codeAny_call_builtin (by decide +kernel) F.entry_bexc_ga ?_)
  simp only [checkBuiltinCall, kd, sp]
  refine wpAny_bind (T7.at ?_)
  have fits : (match Manifest.signature? "BaseException.__getattribute__" with
   | some sig => Bind.checkArgs "BaseException.__getattribute__" sig { pos := [Value.ref x, Value.str "__class__" nt] }
   | _ => pure ()) = pure () := F.args_bexc_ga (.ref x) (.str "__class__" nt)
  simp only [Bool.not_true, Bool.false_eq_true, if_false]
  refine (show _ = _ from fits) ▸ wpAny_pure ?_
  refine wpAny_bind (wpAny_pure (wpAny_bind (wpAny_pure (wpAny_bind (T0.at (wpAny_bind (T3.at ?_)))))))
  exact wpAny_bind (wpAny_mono (gets _ tk) (fun v s' zt1 => by obtain ⟨a, b⟩ := zt1; exact wpAny_pure ⟨a, b⟩) fun _ _ z => z.elim)
 have no : (Value.builtin "BaseException.__getattribute__" == Value.builtin "object.__getattribute__") = false := by decide +kernel
 simp only [getAttr?, getAttrBy?, getAttrBy]
 refine wpAny_bind (wpAny_mkText (wpAny_bind (wpAny_attempt (wpAny_holding (wpAny_bind (T0.at (wpAny_bind (T1.at ?_))))))))
 simp only [no, Bool.and_false, Bool.false_eq_true, if_false, getAttrByItsOwn, hookBefore, onTheHeap, if_true]
 refine wpAny_bind (T2.at (wpAny_bind (wpAny_attempt (wpAny_holding ?_))))
 simp only [callGetattribute, Bool.false_and, Bool.false_eq_true, if_false, boundAndCalled, F.attr_ValueError.ga.bind]
 refine wpAny_bind (wpAny_pure (wpAny_mono (asks A (tk + 1) tk) (fun v s' zr1 => ?_) fun _ _ z => z.elim))
 obtain ⟨a, b⟩ := zr1
 subst a b
 exact handed_on rfl (wpAny_pure h)
noncomputable def ExcAt (x C : Addr) (h : Heap) : Prop := ∃ o, h.get? x = some o /\ o.cls = .ref C
theorem sL {cd : ClassData} (e : clsIn K C = some cd) : ∃ o, K.lookup C = some o /\ o.data = .cls cd := by
 unfold clsIn at e
 split at e
 ·next c d cd' sl q => cases e; exact ⟨_, q, rfl⟩
 ·cases e
theorem pF (hk : kitCls K (.ref C) (.ref C) = some true) (ok : fF K C = true) (hc : (clsIn K C).isSome = true) : KitX K (.ref x) (.ref C) (ExcAt x C) where
 ty := fun M h _ zt1 => by obtain ⟨o, e, c⟩ := zt1; exact c ▸ (Looks.ld e).andThen .now
 it := fun M h X _ => (kit_cls X hk).2.1
 ne := fun h tp dd its n sl X htp => by
  obtain ⟨cd, hcd⟩ := Option.isSome_iff_exists.mp hc
  obtain ⟨o, e, d⟩ := sL hcd
  refine Bool.eq_false_iff.mpr fun q => ?_
  cases beq_iff_eq.mp q
  have z := X _ _ e
  rw [htp] at z
  cases z
  cases d
 ca := fun X zt1 k => by obtain ⟨o, e, c⟩ := zt1; exact kI X e c ok k
end
end
section
variable {X : Cx} {pins : List (Addr × Obj)} {σ : St} {H H' : Hp} {s s' : Shared} {x : Addr} {cls a0 : Value} {B : Heap}
theorem Flies.on {h' : Heap} {tk : Nat} (I : Inv X pins σ H s) (f : Flies X.prog X.w X.stack H s x cls a0 B H' s') (fl : Heap.FlyingW B X.stack x cls a0 h') (up : s'.heap.UpToSlots h') : Flies X.prog X.w X.stack H s x cls a0 B H' { s' with heap := h', toks := tk } where
 os := f.os
 bare := f.bare
 fly := fl
 frm := fun b hb o e => by
  obtain ⟨sl, q⟩ := f.frm b hb o e
  obtain ⟨_, o', e', n⟩ := I.stack.mem hb
  rw [e] at e'; cases e'
  obtain ⟨sl', q'⟩ := up b _ q n
  exact ⟨sl', q'⟩
 hok := f.hok
 cov := f.cov
 same := f.same
 free := f.free
 new := f.new
theorem Inv.lands (I : Inv X pins σ H s) (f : Flies X.prog X.w X.stack H s x cls a0 B H' s') : Inv X pins σ H' s' :=
 I.call' (ch := []) f.os f.un f.hok' f.bare fun b z => by cases z
noncomputable abbrev Cx.caught (X : Cx) (x : Addr) : Cx := { X with A := X.A.mark (some (.ref x)), calm := false }
theorem Inv.caught (I : Inv X pins σ H s) (x : Addr) : Inv (X.caught x) pins σ H s :=
 ⟨⟨I.ok.mod, I.ok.kind, I.ok.glob, I.ok.blt, I.ok.above, I.ok.inj, I.ok.has, I.ok.cab, fun z => Bool.noConfusion z, I.ok.frames, I.ok.stk, I.ok.exf, I.ok.bs, I.ok.bsz, I.ok.noex, I.ok.exfs, I.ok.funs, I.ok.frf⟩, I.os, I.bare, I.base, I.loc, I.cell, I.free, I.freeC, I.pin, I.hok, I.len⟩
theorem Inv.uncaught {x : Addr} (J : Inv (X.caught x) pins σ H s) (ok : X.Ok) : Inv X pins σ H s := ⟨ok, J.os, J.bare, J.base, J.loc, J.cell, J.free, J.freeC, J.pin, J.hok, J.len⟩
theorem sM {M : Model} {A : Around} {E : Value -> Shared -> Prop} {i : Nat} {n : Str} {Q : Unit -> Shared -> Prop} (I : Inv X pins σ H s) (hN : X.N.Nodup) (hi : X.N[i]? = some n) (hk : X.env.scope.names.lookup n = some .local) (hv : σ[i]? = some (some v))
  (h : ∀ s', Inv X pins (σ.set i none) H s' -> Q () s') : wpAny M A (unbindName X.env n) Q E s := by
 obtain ⟨m, hn, hl⟩ := id I.loc
 obtain ⟨u, _, q⟩ := hl i n v hi hv (.inl hk)
 have hm : m n = some u := by
  rcases q with ⟨_, e⟩ | ⟨z, _⟩
  ·exact e
  ·have hk' : X.env.kindOf n = some .local := hk
   rw [hk'] at z
   rcases z with z | z <;> cases z
 have hcls : (X.env.scope.kind == .class || (X.env.scope.kind == .module && X.env.locals != X.env.globals)) = false := by rw [I.ok.kind]; rfl
 have hiσ : i < σ.length := by rw [I.len]; exact (List.getElem?_eq_some_iff.mp hi).1
 refine wpAny_unbindName_local hk hn hm hcls fun h' u' hn' hs => ?_
 have far : ∀ b o, X.s₀.heap.get? b = some o -> b ≠ X.env.locals := fun b o e => Nat.ne_of_lt (Nat.lt_of_lt_of_le (Heap.lt_size e) I.ok.above)
 refine h _ ⟨I.ok, I.os, I.bare, ⟨fun b o e n hb hx => (hs.2 b (far b o e)).trans (I.base.keep b o e n hb hx), fun b o e n hb hx => ?_, I.base.free, fun b o e hx => ?_, I.base.tups, I.base.frzs, I.base.tbls⟩, ⟨_, hn', fun j y v' e1 e2 e3 => ?_⟩, fun y c e => ?_, I.free, I.freeC, fun p hp => ?_, fun b ob e => ?_, by simpa using I.len⟩
 ·obtain ⟨sl, q⟩ := I.base.slot b o e n hb hx
  exact ⟨sl, (hs.2 b (far b o e)).trans q⟩
 ·obtain ⟨o', q⟩ := I.base.there b o e hx
  exact ⟨o', (hs.2 b (far b o e)).trans q⟩
 ·have hj : j ≠ i := fun z => by
   rw [z, List.getElem?_set_self hiσ] at e2
   cases e2
  rw [List.getElem?_set_ne (Ne.symm hj)] at e2
  obtain ⟨w', r', q⟩ := hl j y v' e1 e2 e3
  refine ⟨w', r', ?_⟩
  rcases q with ⟨k, e⟩ | ⟨k, c, e, z⟩
  ·have : y ≠ n := fun e => hj (fN hN e1 (e ▸ hi))
   exact .inl ⟨k, by simp [this, e]⟩
  ·exact .inr ⟨k, c, e, z.sameBut hs (I.cne y c e)⟩
 ·obtain ⟨w', z⟩ := I.cell y c e
  exact ⟨w', z.sameBut hs (I.cne y c e)⟩
 ·obtain ⟨e, n, ne, nf, d⟩ := I.pin p hp
  exact ⟨(hs.2 p.1 ne).trans e, n, ne, nf, d⟩
 ·refine (I.hok b ob e).stay (fun c w' hc q => (hs.2 c ?_).trans q) (fun _ q => q) fun _ _ q => q
  rintro rfl
  rcases hc with rfl | hc
  ·rw [I.free] at e; cases e
  ·rw [I.free] at hc; cases hc
end
section
variable {X : Cx} {k i : Nat} {f CB : Addr} {fd : FuncData} {ps : List Str} {sp : Sp} {e0 : Expr} {es : List Expr} {ta : TA} {x cb en : Str} {b0 : Stmt} {suite : List Stmt} {th : TS} {p pos pe np hp tp : Pos}
noncomputable def unE (D : Ends) (i : Nat) : Ends := { nx := fun σ H => D.nx (σ.set i none) H, rt := D.rt, bk := fun σ H => D.bk (σ.set i none) H, ct := fun σ H => D.ct (σ.set i none) H }
noncomputable def Bx (K : Frag) (CB : Addr) (sp : Sp) (ta : TA) (i : Nat) (th : TS) : TS := fun D σ H => ta σ H fun vs H1 => sp vs H1 (fun _ _ => False) fun c _ H' => ∃ C, c = .ref C /\ exmOne K (.ref C) (.ref CB) = some true /\
 ∀ y o, H' y = none -> o.cls = .ref C -> th (unE D i) (σ.set i (some (.ref y))) (upd H' y (.frz o (.own y)))
theorem yv (F : ft X.prog X.w X.K X.mg X.base (CX1 X.prog X.w) k f fd ps sp) (hr : bQ k X.A) (hm : X.mg x = some (.ref f)) (hk : PySem.W.keepIn X.K (.ref f) = true) (hb : Binds X.K fd ps []) (ha : PA X (e0 :: es) ta) (hcb : X.mg cb = some (.ref CB))
  (hs : ∀ y, PSs (X.caught y) (b0 :: suite) th) (hxe : ∀ e s, ¬X.xe e s) (hex0 : X.ex = []) (hst : X.stack = X.env :: X.outer) (hfr : X.env.frame = some X.env.locals) (hN : X.N.Nodup) (hi : X.N[i]? = some en) (hloc : X.env.scope.names.lookup en = some .local)
  (hg : Gl X x := by rfl) (hgc : Gl X cb := by rfl) (hd : (x == ("__debug__" : Str)) = false := by decide) (hdc : (cb == ("__debug__" : Str)) = false := by decide) (he : starEach (e0 :: es) X.env = (false, eval e0 X.env) :: starEach es X.env := by rfl) (hpl : (backTo pos (starEach es X.env)).any (·.1) = false := by rfl)
  (hsw : swapsWith (.Call (.Name x p) (e0 :: es) [] pos) none pe.line X.env = pure false := by rfl) :
  PS X (.Try [.Expr (.Call (.Name x p) (e0 :: es) [] pos) pe] [.ExceptHandler (some (.Name cb np)) (some en) (b0 :: suite) hp] [] [] tp) (Bx X.K CB sp ta i th) := by
 intro pins s σ H D I h
 refine wpAny_Try_except (wpAny_execs_cons (wpAny_Expr_any ?_ I.quiet hsw))
 refine wpAny_Call_Name_kw (eu I hg hm ?_ hd)
 refine PySem.W.callWith_K (h₀ := X.base) I.ok.mod.kin hk (wpAny_mono (ha pos pins s σ H _ I h) (fun us s1 ⟨vs, H1, I1, r, q⟩ => ⟨I1.kIn, ?_⟩) fun e s z => (hxe e s z).elim) he hpl
 have hl : us.length = ps.length := by rw [<- r.length]; exact F.len _ _ _ _ q
 have hbd := hb s1 us I1.kIn (by rw [List.append_nil]; exact hl)
 rw [List.append_nil] at hbd
 refine wpAny_call (codeAny_mono (F.run X.A X.stack s1 H1 ⟨us, []⟩ us vs _ _ hr I1.env0 hbd r q) fun res s' hq => ?_)
 match res, hq with
 | .ok (.ret u), hq => obtain ⟨_, _, _, _, _, _, _, z⟩ := hq; exact z.elim
 | .error e, hq =>
  obtain ⟨y, cls, a0, B, H', rfl, Fl, C, rfl, hex, fin⟩ := hq
  have fr : X.A.frames = some (X.env :: X.outer) := hst ▸ I.ok.frames
  have fly0 := Fl.fly
  rw [hst] at fly0
  refine wpAny_looks_onW fr hfr fly0 fun h4 held up4 => ?_
  refine wpAny_landsW held fun h5 fly5 up5 => ?_
  have F5 : Flies X.prog X.w X.stack H1 s1 y (.ref C) a0 B H' { s' with heap := h5, toks := s'.toks } := Fl.on I1 (by rw [hst]; exact fly5) (up4.trans up5)
  have I5 := I1.lands F5
  obtain ⟨o5, ho5, hc5⟩ := fly5.there
  refine wpAny_handleBy_cons (codeAny_handlers_test (eu (I5.caught y) hgc hcb ?_ hdc)) (by intro q; cases q)
  refine exm_one (h := h5) I5.kIn (hc5 ▸ (Looks.ld ho5).andThen .now) hex _ _ _ _ (fun _ _ e => e) ?_
  refine codeAny_handlers_suite_as ?_
  refine lands_againW fly5 fun h6 fly6 up6 => ?_
  have F6 : Flies X.prog X.w X.stack H1 s1 y (.ref C) a0 B H' { s' with heap := h6, toks := s'.toks } := Fl.on I1 (by rw [hst]; exact fly6) ((up4.trans up5).trans up6)
  have I6 := I1.lands F6
  obtain ⟨o6, ho6, hc6⟩ := fly6.there
  have here : ∀ b o, s1.heap.get? b = some o -> b ≠ y := fun b o e z => by rw [z, Fl.new] at e; cases e
  have I7 : Inv (X.caught y) pins σ (upd H' y (.frz o6 (.own y))) { s' with heap := h6, toks := s'.toks } := by
   refine (I6.caught y).trackN F6.noX ?_ ?_ ?_ ?_ ⟨ho6, o6, ho6⟩
   ·cases z : X.s₀.heap.get? y with
    | none => rfl
    | some o =>
     obtain ⟨o', e'⟩ := I1.base.there y o z (by rw [hex0]; intro q; cases q)
     exact absurd rfl (here y o' e')
   ·obtain ⟨m, ⟨o, es, ep, e, _⟩, _⟩ := I1.loc
    exact (here _ o e).symm
   ·intro n c e
    obtain ⟨v, o, e', _⟩ := I1.cell n c e
    exact here c o e'
   ·intro p hp
    exact here p.1 p.2 (I1.pin p hp).1
  refine cT (X := X.caught y) I7 hN hi (.inl hloc) (show RelV (.ref y) (.ref y) from rfl) (fun s8 I8 => ?_) (.inr hloc)
  refine wpAny_mono (hs y pins s8 _ _ (unE D i) I8 (fin y o6 F6.noX hc6)) (fun fl s9 q9 => ?_) fun e s z => (hxe e s z).elim
  have let_go : ∀ {σ' : St} {H9 : Hp} {R : Unit -> Shared -> Prop}, Inv (X.caught y) pins σ' H9 s9 -> (∀ s', Inv X pins (σ'.set i none) H9 s' -> R () s') -> wpAny (model X.prog X.w) X.A (do bindName X.env en .none; unbindBehindTheSuite X.env en hp) R X.xe s9 := fun {σ' H9 R} J g => by
   have J0 := J.uncaught I.ok
   refine wpAny_bind (wpAny_bindName (cT J0 hN hi (.inl hloc) (show RelV .non .none from rfl) (fun s10 I10 => ?_) (.inr hloc)))
   refine wpAny_onRaise (sM I10 hN hi hloc (List.getElem?_set_self (by rw [J0.len]; exact (List.getElem?_eq_some_iff.mp hi).1)) fun s11 I11 => ?_)
   rw [List.set_set] at I11
   exact g s11 I11
  cases fl with
  | next => obtain ⟨σ', H9, J, q⟩ := q9; exact let_go J fun s' I' => ⟨_, _, I', q⟩
  | brk => obtain ⟨σ', H9, J, q⟩ := q9; exact let_go J fun s' I' => ⟨_, _, I', q⟩
  | cont => obtain ⟨σ', H9, J, q⟩ := q9; exact let_go J fun s' I' => ⟨_, _, I', q⟩
  | ret u => obtain ⟨v, σ', H9, J, r, q⟩ := q9; exact let_go J fun s' I' => ⟨v, _, _, I', r, q⟩
end
noncomputable def cM (K : Frag) (C : Addr) : Bool := (kitCls K (.ref C) (.ref C) == some true) && fF K C && (clsIn K C).isSome
theorem cM.kit {K : Frag} {x C : Addr} (h : cM K C = true) : KitX K (.ref x) (.ref C) (ExcAt x C) := by
 simp only [cM, Bool.and_eq_true, beq_iff_eq] at h
 exact pF h.1.1 h.1.2 h.2
noncomputable def m6 : Value -> V
 | .ref C => .ref C
 | .type T => .ty T
 | _ => .non
noncomputable def isC : Value -> Bool
 | .ref _ => true
 | .type _ => true
 | _ => false
theorem jN {c u : Value} (h : isC c = true) (r : RelV (m6 c) u) : u = c := by
 match c, h, r with
 | .ref _, _, r => exact r
 | .type _, _, r => exact r
theorem g9 : ∀ {cs us : List Value}, cs.all isC = true -> Vals (cs.map m6) us -> us = cs
 | [], _, _, .nil => rfl
 | c :: cs, _, h, .cons r t => by
  simp only [List.all_cons, Bool.and_eq_true] at h
  rw [jN h.1 r, g9 h.2 t]
noncomputable def pG (K : PySem.W.Frag) : List V -> Hp -> VK -> Prop := fun xs H Q => ∃ y o C c b, xs = [.ref y, c] /\ H y = some (.frz o (.own y)) /\ o.cls = .ref C /\ cM K C = true /\
 ((∃ cv, c = m6 cv /\ isC cv = true /\ kitOne K (.ref C) cv = some b) \/ (∃ t cs, c = .ref t /\ SqT K H t (cs.map m6) /\ cs.all isC = true /\ kitAny K (.ref C) cs = some b)) /\ Q (.bl b) H
theorem hV {X : Cx} : cG X (.builtin "isinstance") (pG X.K) := by
 rintro pins s σ H xs us Q I r ⟨y, o, C, c, b, e, hy, hc, ok, h, q⟩
 subst e
 obtain ⟨u, w', rfl, rx, rc⟩ := vals2 r
 cases rx
 have at_ : ExcAt y C s.heap := ⟨o, (show aY X.prog X.w H s.heap y (.frz o (.own y)) from I.hok y _ hy).1, hc⟩
 have fin : ∀ tk, EP X pins σ Q (.bool b) { s with toks := tk } := fun tk => ⟨.bl b, H, I.tok tk, rfl, q⟩
 rcases h with ⟨cv, rfl, hi, e⟩ | ⟨t, cs, rfl, hq, hi, e⟩
 ·rw [jN hi rc]
  exact PySem.W.kia_one (cM.kit ok) I.kIn at_ e (fun z => nomatch z) fin
 ·cases rc
  obtain ⟨its, r2, tp, _⟩ := I.tuple hq
  cases g9 hi r2
  obtain ⟨o2, h1, h2, n, h3⟩ := tp
  obtain ⟨oc, od, odt, osl⟩ := o2
  simp only at h2 h3
  subst h2; subst h3
  exact PySem.W.kia_tup (cM.kit ok) I.kIn at_ h1 e (fun z => nomatch z) fin
noncomputable def gu : List Addr -> TA
 | [] => fR
 | c :: r => cV (tC (.ref c)) (gu r)
theorem jO : ∀ {cs : List Addr} {Q : List V -> Hp -> Prop}, Q (cs.map V.ref) H -> gu cs σ H Q
 | [], _, h => h
 | _ :: cs, _, h => jO (cs := cs) h
theorem pH {X : Cx} : PA X [] (gu []) := dD
theorem cf {X : Cx} {n : Str} {p : Pos} {c : Addr} {es : List Expr} {cs : List Addr} (hm : X.mg n = some (.ref c)) (hr : PA X es (gu cs)) (hg : Gl X n := by rfl) (hd : (n == ("__debug__" : Str)) = false := by decide)
  (hs : starEach (.Name n p :: es) X.env = (false, eval (.Name n p) X.env) :: starEach es X.env := by rfl) : PA X (.Name n p :: es) (gu (c :: cs)) := bZ (dR hg hm rfl hd) hr hs
end L2
namespace VL
open PySem L2 PySem.W
section
variable {K : PySem.W.Frag} {X : Cx} {m : Bool} {i : Nat} {en cn : Str} {p1 p2 p3 p4 pos : Pos} {es : List Expr} {cs : List Addr} {c : Value}
theorem By {H0 H : Hp} {C : Addr} (k : OK K H0 Z σ H S) (h : S[i]? = some (.val (.exc (.ref C)))) : ∃ y o, σ[i]? = some (some (.ref y)) /\ H y = some (.frz o (.own y)) /\ o.cls = .ref C := by
 obtain ⟨o, e, v, rfl, r⟩ := k.ownAt h
 cases r with | exc n hh hc => exact ⟨_, _, e, hh, hc⟩
noncomputable def uZ (K : Frag) (i : Nat) (c : Value) : VT := fun S Q => ∃ C b, S[i]? = some (.val (.exc (.ref C))) /\ cM K C = true /\ kitOne K (.ref C) c = some b /\ Q (.d (.bl b)) S
theorem iP (hK : X.K = K) (hc : isC c = true) (hcn : PE X (.Name cn p3) (tC (m6 c))) (hi : X.N[i]? = some en) (hv : Vis X.env.scope en) (hg : Gl X "isinstance") (hm : X.mg "isinstance" = none) (hd : (en == ("__debug__" : Str)) = false := by decide) (hcd : (en == ("__classdict__" : Str)) = false := by decide)
  (he : starEach [.Name en p2, .Name cn p3] X.env = [(false, eval (.Name en p2) X.env), (false, eval (.Name cn p3) X.env)] := by rfl) :
  VE K X m (.Call (.Name "isinstance" p1) [.Name en p2, .Name cn p3] [] pos) (tCB (pG K) (cV (cg i) (cV (tC (m6 c)) fR))) (uZ K i c) :=
 ⟨by subst hK; exact fT hV hg hm bp (bZ (j7 hi hv hd hcd) (bZ hcn dD)), fun H0 Z σ H S Q C k t hcc => by
  obtain ⟨C0, b, h1, h2, h3, q⟩ := t
  obtain ⟨y, o, e1, e2, e3⟩ := By k h1
  exact ⟨_, e1, y, o, C0, _, b, rfl, e2, e3, h2, .inl ⟨c, rfl, hc, h3⟩, hcc _ _ (.d (.bl b)) S k .refl (Rep.bl b) q⟩⟩
noncomputable def u0 (K : Frag) (i : Nat) (cs : List Addr) : VT := fun S Q => ∃ C b, S[i]? = some (.val (.exc (.ref C))) /\ cM K C = true /\ kitAny K (.ref C) (cs.map Value.ref) = some b /\ Q (.d (.bl b)) S
theorem sN {x1} (hK : X.K = K) (hcs : PA X es (gu cs)) (hz : cs.length < 100) (hi : X.N[i]? = some en) (hv : Vis X.env.scope en) (hg : Gl X "isinstance") (hm : X.mg "isinstance" = none) (hd : (en == ("__debug__" : Str)) = false := by decide) (hcd : (en == ("__classdict__" : Str)) = false := by decide)
  (he : starEach [.Name en p2, .Tuple es x1 p3] X.env = [(false, eval (.Name en p2) X.env), (false, eval (.Tuple es x1 p3) X.env)] := by rfl) :
  VE K X m (.Call (.Name "isinstance" p1) [.Name en p2, .Tuple es x1 p3] [] pos) (tCB (pG K) (cV (cg i) (cV (wN (gu cs)) fR))) (u0 K i cs) :=
 ⟨by subst hK; exact fT hV hg hm bp (bZ (j7 hi hv hd hcd) (bZ (nY hcs) dD)), fun H0 Z σ H S Q C k t hcc => by
  obtain ⟨C0, b, h1, h2, h3, q⟩ := t
  obtain ⟨y, o, e1, e2, e3⟩ := By k h1
  refine ⟨_, e1, jO ⟨by rw [List.length_map, sizeLine_eq]; lia, fun p hp => ?_⟩⟩
  have g := aC (o := .tup (cs.map V.ref)) hp
  refine ⟨y, o, C0, _, b, rfl, by rw [g y (by rw [e2]; simp)]; exact e2, e3, h2, .inr ⟨p, cs.map Value.ref, rfl, .inl (.inl ?_), by simp [isC], h3⟩, hcc _ _ (.d (.bl b)) S (k.grow g) (.grow g) (Rep.bl b) q⟩
  rw [aw, List.map_map]
  rfl⟩
end
end VL
namespace VL
open PySem L2 PySem.W
noncomputable def spX (K : PySem.W.Frag) (bad : List D -> Addr -> Prop) : Sp := fun vs H _ E => ∃ ds C, Reps K Any AnyF H vs ds /\ bad ds C /\ ∀ H', (∀ a, H a ≠ none -> H' a = H a) -> E (.ref C) none H'
noncomputable def iQ (P : Program) (w : World) (K : PySem.W.Frag) (mg : Str -> Option Value) (base : Heap) (k : Nat) (x : Str) (ps : List Str) (bad : List D -> Addr -> Prop) : Prop :=
 ∃ (f : Addr) (fd : FuncData), ft P w K mg base (CX1 P w) k f fd ps (spX K bad) /\ mg x = some (.ref f) /\ PySem.W.keepIn K (.ref f) = true /\ Binds K fd ps []
noncomputable def Fz (Hin : Hp) (Z : AP) (σ : St) (S : List Sl) (H : Hp) : Prop := ∀ a, Hin a ≠ none -> H a = Hin a /\ NM Z σ S a
theorem Fz.step {Hin H H' : Hp} {σ σ' : St} {S S' : List Sl} (f : Fz Hin Z σ S H) (st : Step Z σ S H σ' S' H') : Fz Hin Z σ' S' H' := fun a e => by
 obtain ⟨e1, n⟩ := f a e
 obtain ⟨e2, n2⟩ := st.1 a n (by rw [e1]; exact e)
 exact ⟨e2.trans e1, n2⟩
structure VXs (K : PySem.W.Frag) (X : Cx) (Hin : Hp) (E : XK) (sts : List Stmt) (ts : TS) (t : (Addr -> Prop) -> List Sl -> Prop) : Prop where
 ps : PSs X sts ts
 snd : ∀ Wc : Addr -> Prop, (∀ C, Wc C -> ∀ H', (∀ a, Hin a ≠ none -> H' a = Hin a) -> E (.ref C) none H') -> ∀ H0 Z σ H S D, OK K H0 Z σ H S -> Fz Hin Z σ S H -> t Wc S -> ts D σ H
section
variable {K : PySem.W.Frag} {X : Cx} {Hin : Hp} {E : XK} {sts rest A : List Stmt} {st : Stmt} {ts us : TS} {t u : (Addr -> Prop) -> List Sl -> Prop} {v : VTS} {pos : Pos}
theorem jP : VXs K X Hin E sts fO (fun _ _ => False) := ⟨gL, fun _ _ _ _ _ _ _ _ _ _ h => h.elim⟩
theorem jQ {C : Addr} {bmB : List Value} {B newId initId : String} {x z : Str} {j : Nat} {np p cpos pos : Pos} (T : dN X Hin E) (FB : ExcBaseFacts B newId initId bmB) (ec : excIn X.K C bmB newId = true) (hm : X.mg x = some (.ref C)) (hc : X.calm = true) (hg : Gl X x := by rfl) (hd : (x == ("__debug__" : Str)) = false := by decide)
  (he : starEach [.Constant (.str z) j p] X.env = [(false, eval (.Constant (.str z) j p) X.env)] := by rfl) :
  VXs K X Hin E [.Raise (some (.Call (.Name x np) [.Constant (.str z) j p] [] cpos)) none pos] (pD Hin E C) (fun Wc _ => Wc C) :=
 ⟨kX (pE T FB ec hm hc hg hd he), fun Wc hE H0 Z σ H S D k f h => ⟨fun b e => (f b e).1, hE C h H fun b e => (f b e).1⟩⟩
theorem yw (h1 : VS K X st ts v) (h2 : VXs K X Hin E rest us u) : VXs K X Hin E (st :: rest) (nM ts us) (fun Wc S => v { nx := u Wc, rt := fun _ _ => False } S) :=
 ⟨ez h1.ps h2.ps, fun Wc hE H0 Z σ H S D k f h => h1.snd H0 Z σ H S _ _ k h ⟨fun σ' H' S' k' st q => h2.snd Wc hE H0 Z σ' H' S' D k' (f.step st) q, fun _ _ _ _ _ q => q.elim, fun _ _ _ _ _ q => q.elim, fun _ _ _ _ _ _ _ _ q => q.elim⟩⟩
theorem u3 {c : Expr} {tc : TT} {wc : VTT} (hc : VTe K X c tc wc) (ha : VXs K X Hin E A ts t) (hr : VXs K X Hin E rest us u) : VXs K X Hin E (.If c A [] pos :: rest) (nM (wq tc ts nL) us) (fun Wc S => wc S fun b S1 => if b = true then t Wc S1 else u Wc S1) :=
 ⟨ez (um hc.pe ha.ps kW) hr.ps, fun Wc hE H0 Z σ H S D k f h => hc.snd H0 Z σ H S _ _ k h fun b H1 S1 k1 st1 q => by
  cases b with
  | true => rw [if_pos rfl] at q ⊢; exact ha.snd Wc hE H0 Z σ H1 S1 _ k1 (f.step st1) q
  | false => rw [if_neg Bool.false_ne_true] at q ⊢; exact hr.snd Wc hE H0 Z σ H1 S1 D k1 (f.step st1) q⟩
theorem lS {k j : Nat} {x : Str} {ps : List Str} {bad : List D -> Addr -> Prop} {e : Expr} {es : List Expr} {tr : TA} {vr : VTA} {p0 cpos : Pos} (T : dN X Hin E) (F : iQ X.prog X.w X.K X.mg X.base k x ps bad) (hK : X.K = K) (hr : bQ j X.A) (ha : VA K X false (e :: es) tr vr)
  (hk : k <= j := by decide) (hg : Gl X x := by rfl) (hdb : (x == ("__debug__" : Str)) = false := by decide) (he : starEach (e :: es) X.env = (false, eval e X.env) :: starEach es X.env := by rfl)
  (hpl : (backTo cpos (starEach es X.env)).any (·.1) = false := by rfl) (hs : swapsWith (.Call (.Name x p0) (e :: es) [] cpos) none pos.line X.env = pure false := by rfl) :
  VXs K X Hin E (.Expr (.Call (.Name x p0) (e :: es) [] cpos) pos :: rest) (nM (nN (fS (spX K bad) [] (fun c _ H' => (∀ b, Hin b ≠ none -> H' b = Hin b) /\ E c none H') tr)) fO) (fun Wc S => vr S fun rs S1 => ∃ ds C, gets S1 rs = some ds /\ bad ds C /\ Wc C) := by
 subst hK
 obtain ⟨f, fd, F, hm, kp, hb⟩ := F
 refine ⟨ez (kY (lq F (hr.mono hk) hg hm kp hb .nil (fun pins σ H s e s' I h => T.next pins σ H s e s' I h) ha.pe hdb he hpl) hs) gL, fun Wc hE H0 Z σ H S D k f h => ?_⟩
 refine ha.snd H0 Z σ H S _ _ k h fun vs H1 rs S1 k1 st1 rrs zr1 => ?_
 obtain ⟨ds, C, e, hb, hw⟩ := zr1
 have f1 := f.step st1
 refine ⟨ds, C, by rw [List.append_nil]; exact rrs.gets k1 e, hb, fun H' g => ?_⟩
 have fr : ∀ b, Hin b ≠ none -> H' b = Hin b := fun b e => by
  have q := (f1 b e).1
  rw [<- q]
  exact g b (by rw [q]; exact e)
 exact ⟨fr, hE C hw H' fr⟩
theorem pI {P : Program} {w : World} {mg : Str -> Option Value} {base : Heap} {x : Str} {st : Stmt} {N ps : List Str} {k : Nat} {bad : List D -> Addr -> Prop} (S : Src K mg x st) (sc : aA N ps (aj st))
  (hb : ∀ (kV doc pm : Value) (an : Option Addr) (cdv ct : Value) (us : List Value), us.length = ps.length -> bindArgs (PySem.W.fnOf x x (b6 st) (bu st) (aj st) .none kV doc pm an cdv ct) ⟨us, []⟩ = pure (ps.zip us))
  (len : ∀ ds C, bad ds C -> ds.length = ps.length)
  (hbody : ∀ (f : Addr) (cdv : Value) (A : Around) (outer : List Env) (s : Shared) (H : Hp) (E : XK), bQ k (A.deeper (PyProof.Rows.envOfC x (aj st) s.heap.objs.size f cdv)) -> dN (fu (CX1 P w) P w K mg base N x (aj st) f cdv A outer s H E) H E ->
   ∃ ts t, VXs K (fu (CX1 P w) P w K mg base N x (aj st) f cdv A outer s H E) H E (bu st) ts t /\ ∀ ds C, bad ds C -> t (· = C) (slots N.length ds)) : iQ P w K mg base (k + 1) x ps bad := by
 obtain ⟨f, fd, F, hm⟩ := S
 obtain ⟨oc, od, kV, doc, pm, an, cdv, ct, osl, rfl, lk, hcd⟩ := F.ex
 refine ⟨f, _, uw lk hcd sc (fun vs H Q E zq1 => by obtain ⟨ds, C, r, h, _⟩ := zq1; rw [r.length]; exact len ds C h) fun A outer s H vs Q E hr ⟨ds, C, r, h, fin⟩ => ?_, hm, F.kp, F.binds hb⟩
 obtain ⟨ts, t, vx, q⟩ := hbody f cdv A outer s H E hr m5
 refine ⟨ts, vx.ps, vx.snd (· = C) (fun C' e H' g => by subst e; exact fin H' g) H _ _ H _ _ (jD (N := N) r) (fun a e => ⟨rfl, ?_⟩) (q ds C h)⟩
 rintro (⟨j, s, g1, g2, _⟩ | z)
 ·rw [cm g1] at g2; cases g2
 ·exact z
end
end VL
namespace VL
open PySem L2 PySem.W
section
variable {K : PySem.W.Frag} {H H0 : Hp} {Z : AP} {σ : St} {S : List Sl} {i : Nat}
theorem OK.letGo (k : OK K H0 Z σ H S) (hi : i < S.length) : OK K H0 Z (σ.set i none) H (S.set i .no) /\ Step Z σ S H (σ.set i none) (S.set i .no) H := by
 have n : ∀ a, NM Z σ S a -> NM Z (σ.set i none) (S.set i .no) a := fun a x z => by
  rcases gg z with z | ⟨z, _⟩
  ·exact x z
  ·cases z
 exact ⟨k.put hi (fun a x _ => ⟨n a x, rfl⟩) (fun _ _ _ _ _ _ _ => rfl) trivial (fun _ _ _ _ _ _ z => nomatch z) (fun _ e => e) k.zl (fun _ z => nomatch z), fun a x _ => ⟨rfl, n a x⟩, fun _ e => e, fun _ _ _ => rfl⟩
theorem NP.letGo {a : Addr} (h : NP σ S a) : NP (σ.set i none) (S.set i .no) a := fun j ad ns g1 g2 => by
 by_cases hj : i = j
 ·subst hj
  by_cases hl : i < S.length
  ·rw [List.getElem?_set_self hl] at g1; cases g1
  ·rw [List.getElem?_eq_none (by simpa using hl)] at g1; cases g1
 ·rw [List.getElem?_set_ne hj] at g1 g2
  exact h j ad ns g1 g2
noncomputable def unV (V : ba) (i : Nat) : ba := { nx := fun S => i < S.length /\ V.nx (S.set i .no), rt := fun d S => i < S.length /\ V.rt d (S.set i .no), bk := fun S => i < S.length /\ V.bk (S.set i .no), ct := fun S => i < S.length /\ V.ct (S.set i .no) }
theorem Lf.letGo {V : ba} {E : Ends} (l : Lf K H0 Z σ S H V E) : Lf K H0 Z σ S H (unV V i) (unE E i) where
 nx := fun σ' H' S' k st zt1 => by obtain ⟨hi, q⟩ := zt1; exact l.nx _ _ _ (k.letGo hi).1 (st.trans (k.letGo hi).2) q
 bk := fun σ' H' S' k st zt1 => by obtain ⟨hi, q⟩ := zt1; exact l.bk _ _ _ (k.letGo hi).1 (st.trans (k.letGo hi).2) q
 ct := fun σ' H' S' k st zt1 => by obtain ⟨hi, q⟩ := zt1; exact l.ct _ _ _ (k.letGo hi).1 (st.trans (k.letGo hi).2) q
 rt := fun v d σ' H' S' k st r zt1 => by obtain ⟨hi, q⟩ := zt1; exact l.rt v d _ _ _ (k.letGo hi).1 (st.trans (k.letGo hi).2) (r.mono (fun a n _ => ⟨NP.letGo n, rfl⟩) fun _ x => x) q
end
section
variable {K : PySem.W.Frag} {X : Cx} {k j i : Nat} {CB : Addr} {ps : List Str} {bad : List D -> Addr -> Prop} {e0 : Expr} {es : List Expr} {tr : TA} {vr : VTA} {x cb en : Str} {b0 : Stmt} {suite : List Stmt} {th : TS} {vh : VTS} {p pos pe np hp tp : Pos}
noncomputable def yx (K : Frag) (CB : Addr) (bad : List D -> Addr -> Prop) (vr : VTA) (i : Nat) (vh : VTS) : VTS := fun V S => vr S fun rs S1 => i < S1.length /\ ∃ ds C, gets S1 rs = some ds /\ bad ds C /\ exmOne K (.ref C) (.ref CB) = some true /\ vh (unV V i) (S1.set i (.val (.exc (.ref C))))
theorem yz (F : iQ X.prog X.w X.K X.mg X.base k x ps bad) (hK : X.K = K) (hr : bQ j X.A) (ha : VA K X false (e0 :: es) tr vr) (hcb : X.mg cb = some (.ref CB)) (hs : ∀ y, VSs K (X.caught y) (b0 :: suite) th vh) (hxe : ∀ e s, ¬X.xe e s) (hex0 : X.ex = [])
  (hst : X.stack = X.env :: X.outer) (hfr : X.env.frame = some X.env.locals) (hN : X.N.Nodup) (hi : X.N[i]? = some en) (hloc : X.env.scope.names.lookup en = some .local) (hk : k <= j := by decide)
  (hg : Gl X x := by rfl) (hgc : Gl X cb := by rfl) (hd : (x == ("__debug__" : Str)) = false := by decide) (hdc : (cb == ("__debug__" : Str)) = false := by decide) (he : starEach (e0 :: es) X.env = (false, eval e0 X.env) :: starEach es X.env := by rfl) (hpl : (backTo pos (starEach es X.env)).any (·.1) = false := by rfl)
  (hsw : swapsWith (.Call (.Name x p) (e0 :: es) [] pos) none pe.line X.env = pure false := by rfl) :
  VS K X (.Try [.Expr (.Call (.Name x p) (e0 :: es) [] pos) pe] [.ExceptHandler (some (.Name cb np)) (some en) (b0 :: suite) hp] [] [] tp) (Bx K CB (spX K bad) tr i th) (yx K CB bad vr i vh) := by
 subst hK
 obtain ⟨f, fd, F, hm, kp, hb⟩ := F
 refine ⟨yv F (hr.mono hk) hm kp hb ha.pe hcb (fun y => (hs y).ps) hxe hex0 hst hfr hN hi hloc hg hgc hd hdc he hpl hsw, fun H0 Z σ H S V D k t l => ?_⟩
 refine ha.snd H0 Z σ H S _ _ k t fun vs H1 rs S1 k1 st1 rrs ⟨hl, ds, C, e, hbd, hex, q⟩ => ⟨ds, C, rrs.gets k1 e, hbd, fun H' g => ⟨C, rfl, hex, fun y o hy hc => ?_⟩⟩
 have g2 := aC (o := .frz o (.own y)) hy
 have k2 := (k1.grow g).grow g2
 have st2 : Step Z σ S H σ S1 (upd H' y (.frz o (.own y))) := (st1.trans (.grow g)).trans (.grow g2)
 obtain ⟨k3, st3⟩ := k2.setVal hl (Rep.exc (c := .ref C) ((k1.grow g).nm hy) aw hc)
 exact (hs 0).snd H0 Z _ _ _ _ _ k3 q ((l.step (st2.trans st3)).letGo)
end
end VL
end
section
namespace VL
open PySem L2 PySem.W
section
variable {K : PySem.W.Frag} {X : Cx} {m : Bool} {e c : Expr} {te : TE} {va : VT} {pos : Pos} {i : Nat} {tc : TT} {wc : VTT} {t : TS} {v : VTS} {body : List Stmt}
noncomputable def yA (wc : VTT) (vb : VTS) : VTS := fun V S => ∃ Iv : Nat -> List Sl -> Prop, (∃ n, Iv n S) /\ ∀ n S, Iv n S -> wc S fun b S1 => if b = true then vb { nx := fun S2 => ∃ n', n' < n /\ Iv n' S2, ct := fun S2 => ∃ n', n' < n /\ Iv n' S2, bk := V.nx, rt := V.rt } S1 else V.nx S1
theorem pJ (hp : PassesOwn (model X.prog X.w) X.A X.env X.xe) (hc : VTe K X c tc wc) (hb : VSs K X body t v) : VS K X (.While c body [] pos) (nS tc t) (yA wc v) :=
 ⟨nT hp hc.pe hb.ps, fun H0 Z σ H S V E k zq1 l => by
  obtain ⟨Iv, ⟨n0, i0⟩, h⟩ := zq1
  refine ⟨fun n σ' H' => ∃ S', OK K H0 Z σ' H' S' /\ Step Z σ S H σ' S' H' /\ Iv n S', ⟨n0, S, k, .refl, i0⟩, ?_⟩
  rintro n σ1 H1 ⟨S1, k1, st1, i1⟩
  refine hc.snd H0 Z σ1 H1 S1 _ _ k1 (h n S1 i1) fun b H2 S2 k2 st2 q => ?_
  cases b with
  | false => rw [if_neg Bool.false_ne_true] at q ⊢; exact l.nx _ _ _ k2 (st1.trans st2) q
  | true =>
   rw [if_pos rfl] at q ⊢
   refine ⟨fun σ' H' => ∃ n', n' < n /\ ∃ S', OK K H0 Z σ' H' S' /\ Step Z σ S H σ' S' H' /\ Iv n' S', fun σ' H' zt1 => by obtain ⟨n', hn, z⟩ := zt1; exact ⟨n', hn, z⟩, ?_⟩
   have st := st1.trans st2
   exact hb.snd H0 Z σ1 H2 S2 _ _ k2 q ⟨fun σ' H' S' k' s' zt1 => by obtain ⟨n', hn, q'⟩ := zt1; exact ⟨n', hn, S', k', st.trans s', q'⟩, fun σ' H' S' k' s' q' => l.nx _ _ _ k' (st.trans s') q', fun σ' H' S' k' s' zt1 => by obtain ⟨n', hn, q'⟩ := zt1; exact ⟨n', hn, S', k', st.trans s', q'⟩, fun v d σ' H' S' k' s' r q' => l.rt v d _ _ _ k' (st.trans s') r q'⟩⟩
end
end VL
namespace VL
open PySem L2 PySem.W
section
variable {i : Nat} {va : VT} {vr : VTA} {S : List Sl} {Q : VR -> List Sl -> Prop} {q : D -> Prop}
theorem eU {K : Frag} {c : Value} {C : Addr} {b : Bool} (e : S[i]? = some (.val (.exc (.ref C)))) (ok : cM K C = true) (hk : kitOne K (.ref C) c = some b) (h : Q (.d (.bl b)) S) : uZ K i c S Q := ⟨C, b, e, ok, hk, h⟩
theorem pK {K : Frag} {cs : List Addr} {C : Addr} {b : Bool} (e : S[i]? = some (.val (.exc (.ref C)))) (ok : cM K C = true) (hk : kitAny K (.ref C) (cs.map Value.ref) = some b) (h : Q (.d (.bl b)) S) : u0 K i cs S Q := ⟨C, b, e, ok, hk, h⟩
end
end VL
namespace VL
open PySem L2 PySem.W
section
variable {K : PySem.W.Frag} {X : Cx} {m : Bool} {e : Expr} {te : TE} {va : VT} {pos pos' : Pos} {i : Nat} {x : Str}
theorem OK.setFre {H H0 : Hp} (k : OK K H0 Z σ H S) (hi : i < S.length) (h : Rep K (NM Z σ S) (Fr H0) H v d) : OK K H0 Z (σ.set i (some v)) H (S.set i (.fre d)) /\ Step Z σ S H (σ.set i (some v)) (S.set i (.fre d)) H := by
 have n : ∀ a, NM Z σ S a -> NM Z (σ.set i (some v)) (S.set i (.fre d)) a := fun a x z => by
  rcases gg z with z | ⟨z, _⟩
  ·exact x z
  ·cases z
 exact ⟨k.put hi (fun a x _ => ⟨n a x, rfl⟩) (fun _ _ _ _ _ _ _ => rfl) ⟨v, rfl, h.mono (fun a x _ => ⟨n a x, rfl⟩) fun _ x => x⟩ (fun _ _ _ _ _ _ z => nomatch z) (fun _ e => e) k.zl (fun _ z => nomatch z), fun a x _ => ⟨rfl, n a x⟩, fun _ e => e, fun _ _ _ => rfl⟩
@[irreducible] noncomputable def jR (i : Nat) (V : ba) : VR -> List Sl -> Prop := fun r S1 => ∃ d, r = .d d /\ i < S1.length /\ V.nx (S1.set i (.fre d))
noncomputable def u4 (i : Nat) (va : VT) : VTS := fun V S => va S (jR i V)
theorem yB {V : ba} (h : va S (jR i V)) : u4 i va V S := h
theorem iR {V : ba} (hi : i < S.length) (h : V.nx (S.set i (.fre d))) : jR i V (.d d) S := by unfold jR; exact ⟨d, rfl, hi, h⟩
theorem iS (hN : X.N.Nodup) (hi : X.N[i]? = some x) (hx : Loc X.env.scope x) (h : VE K X true e te va) (hs : swapsWith e (some (.Name x pos')) pos.line X.env = pure false := by rfl)
  (hf : X.fn x = true \/ X.env.scope.names.lookup x = some .local := by first | exact .inl rfl | exact .inr rfl | assumption) : VS K X (.Assign [.Name x pos'] e pos) (cU te (aZ i)) (u4 i va) :=
 ⟨bK hN hi hx h.pe hs hf, fun H0 Z σ H S V E k t l => h.snd H0 Z σ H S _ _ k t fun v H' r S' k' st rr q => by
  unfold jR at q
  obtain ⟨d, e, hi, q⟩ := q
  subst e
  have r : Rep K (NM Z σ S') (Fr H0) H' v d := (show Rep K (NM Z σ S') (FM H0 true) H' v d from rr).mono (fun _ n _ => ⟨n, rfl⟩) fun _ x => x rfl
  exact l.nx _ _ _ (k'.setFre hi r).1 (st.trans (k'.setFre hi r).2) q⟩
noncomputable def u5 (i : Nat) : VT := fun S Q => ∃ d, (S[i]? = some (.fre d) \/ S[i]? = some (.val d) /\ flat d = true) /\ Q (.d d) S
theorem sO (i : Nat) (h : PE X e (cg i)) : VE K X m e (cg i) (u5 i) := ⟨h, fun H0 Z σ H S Q C k zq1 hc => by
 obtain ⟨d, h, q⟩ := zq1
 rcases h with h | ⟨h, hf⟩
 ·obtain ⟨o, h1, v, rfl, r⟩ := k.ownAt h
  exact ⟨v, h1, hc _ _ (.d d) _ k .refl (show Rep K _ _ _ _ _ from r.mono (fun _ n _ => ⟨n, rfl⟩) fun _ x _ => x) q⟩
 ·obtain ⟨o, h1, v, rfl, r⟩ := k.ownAt h
  exact ⟨v, h1, hc _ _ (.d d) _ k .refl (show Rep K _ _ _ _ _ from Rep.flat r hf) q⟩⟩
theorem yC {Q : VR -> List Sl -> Prop} (h : S[i]? = some (.fre d) \/ S[i]? = some (.val d) /\ flat d = true) (q : Q (.d d) S) : u5 i S Q := ⟨d, h, q⟩
end
end VL
namespace VL
open PySem L2 PySem.W
section
variable {K : PySem.W.Frag} {X : Cx} {a b : Expr} {ta tb : TE} {pos : Pos}
noncomputable def u6 (t u : VTN) : VTN := fun S Q => t S fun ds S1 => u S1 fun es S2 => ds.length + es.length <= 1000000 /\ Q (ds ++ es) S2
theorem lT {t u : VTN} (h1 : VN K X a ta t) (h2 : VN K X b tb u) : VN K X (.BinOp a .Add b pos) (tOp wX ta tb) (u6 t u) := ⟨jr n8 h1.pe h2.pe, fun H0 Z σ H S Q C k t hc =>
 h1.snd H0 Z σ H S _ _ k t fun c us ds H1 H1' S1 k1 st1 ha1 hg1 hl1 rr1 t1 => h2.snd H0 Z σ H1' S1 _ _ (k1.grow hg1) t1 fun a' vs es H2 H' S2 k2 st2 ha hg hl rr zq1 => by
  obtain ⟨hlen, q⟩ := zq1
  obtain ⟨ec, nc2⟩ := st2.1 c (k1.nm ha1) (by simp [hl1])
  have ec' : H' c = some (.lst us) := by rw [hg c (by rw [ec, hl1]; simp), ec, hl1]
  have r1 : Reps K (NM Z σ S2) (Fr H0) H' us ds := ((rr1.mono (N' := NM Z σ S1) (fun b n e => ⟨n.1, rfl⟩) (fun _ x => x)).step st2).mono (fun b n e => ⟨n, hg b e⟩) fun _ x => x
  refine ⟨c, a', us, vs, rfl, rfl, ec', hl, by rw [rr1.length, rr.length, sizeLine_eq]; lia, fun p hp => ?_⟩
  refine hc p _ _ H' _ S2 (k2.grow hg) ((st1.trans (.grow hg1)).trans (st2.trans (.grow hg))) hp (aC hp) aw (Reps.append ?_ ?_) q
  ·exact bA hp (r1.mono (fun _ n _ => ⟨n, rfl⟩) fun _ x _ => x)
  ·exact bA hp (rr.mono (fun _ n _ => ⟨n.1, rfl⟩) fun _ x _ => x)⟩
@[irreducible] noncomputable def kD1 (u : VTN) (Q : List D -> List Sl -> Prop) : List D -> List Sl -> Prop := fun ds S1 => u S1 fun es S2 => ds.length + es.length <= 1000000 /\ Q (ds ++ es) S2
@[irreducible] noncomputable def kD2 (ds : List D) (Q : List D -> List Sl -> Prop) : List D -> List Sl -> Prop := fun es S2 => ds.length + es.length <= 1000000 /\ Q (ds ++ es) S2
theorem yD {t u : VTN} {Q : List D -> List Sl -> Prop} (h : t S (kD1 u Q)) : u6 t u S Q := by unfold kD1 at h; exact h
theorem BA {u : VTN} {Q : List D -> List Sl -> Prop} (h : u S (kD2 ds Q)) : kD1 u Q ds S := by unfold kD1; unfold kD2 at h; exact h
theorem u7 {ds es : List D} {Q : List D -> List Sl -> Prop} (hl : ds.length + es.length <= 1000000) (h : Q (ds ++ es) S) : kD2 ds Q es S := by unfold kD2; exact ⟨hl, h⟩
end
end VL
end
section
namespace L2
open PySem PySem.Spec PyProof.Rows PySem.W
section
variable {X : Cx}
theorem DctP.at {D : Addr} {h h' : Heap} (d : DctP D es h) (e : h'.get? D = h.get? D) : DctP D es h' :=
 let ⟨z, m, nd, xs, ev, o, ds, ep, q, r⟩ := d; ⟨z, m, nd, xs, ev, o, ds, ep, e.trans q, r⟩
theorem DctP.nocell {D : Addr} {h : Heap} {o : Obj} (d : DctP D es h) (e : h.get? D = some o) : ∀ v, o.data ≠ .cell v := fun v z => by
 obtain ⟨_, _, _, _, _, o', ds, ep, q, _, hd, _⟩ := d
 rw [e] at q; cases q
 rw [hd] at z; cases z
theorem lU {D : Addr} {h : Heap} (e : h.get? D = some { cls := .type "dict", data := .dict #[] }) (hb : sysModules < D) : DctP D [] h :=
 ⟨Nat.zero_le _, beq_eq_false_iff_ne.mpr (Ne.symm (Nat.ne_of_lt hb)), List.nodup_nil, [], .nil, _, #[], 0, e, ⟨rfl, rfl, rfl⟩, rfl, rfl⟩
theorem lV {s : Shared} {a : Addr} (I : Inv X pins σ H s) (d : DctP a es s.heap) (k : bX X.K H es) : es.length <= sizeLine /\ (a == sysModules) = false /\ (es.map (·.1)).Nodup /\
  ∃ xs, EV es xs /\ s.heap.DictOfH (tupleKind (KT.numKind X.prog X.w)) a xs := by
 obtain ⟨z, m, nd, xs, ev, o, ds, ep, h1, h2, h3, h4⟩ := d
 refine ⟨z, m, nd, xs, ev, o, ds, ep, h1, h2, h3, h4, fun x hx => ?_, ev.keys ▸ nd⟩
 obtain ⟨e, he, e1, e2⟩ := ev.mem x hx
 exact e1 ▸ e2 ▸ cK I (k e he)
noncomputable def iT (K : PySem.W.Frag) (wi : TI) (n : Nat) (ix : List Nat) (g : TG) (tc : TT) (tk tv : TE) : TE := fun σ H Q => wi σ H fun J H1 => ∃ W : Nat -> Nat -> List (List Int × Addr × V) -> Hp -> Prop, (∃ m, W 0 m [] H1) /\ ∀ i m es H2, W i m es H2 ->
 (J.stop i H2 /\ ∀ D ob, H2 D = none -> Q (.ref D) (upd H2 D (bR D ob es))) \/
 (J.go i H2 /\ es.length < sizeLine /\ ∃ Nx : List (List Int × Addr × V) -> Hp -> Prop, (∀ es' H', Nx es' H' -> ∃ m', m' < m /\ W (i + 1) m' es' H') /\
  ∀ x H3, J.yld i H2 x H3 -> g x (capt n ix σ) H3 fun σ2 H4 => tc σ2 H4 fun b H5 => if b = true then tk σ2 H5 fun y H6 => tv σ2 H6 fun v H7 => ∃ b ms, y = .ref b /\ SqN K H7 b ms /\ bX K H7 es /\ Nx (d7 es ms b v) H7 else Nx es H5)
theorem pL {kx vx target iter : Expr} {ifs : List Expr} {scope : Scope} {pos : Pos} {tg cs : List Str} {wi : TI} {g : TG} {tc : TT} {tk tv : TE} (hu : X.A.units + 64 < cLine) (S : aL X scope tg cs ix) (hcalm : X.calm = true) (kg : cr tg.length ix g)
    (hi : PI X target iter wi) (hg : ∀ C fp s H, PG (ak X scope (tg ++ cs) C fp s H) target g) (hc : ∀ C fp s H, PTs (ak X scope (tg ++ cs) C fp s H) ifs tc) (hk : ∀ C fp s H, PE (ak X scope (tg ++ cs) C fp s H) kx tk) (hv : ∀ C fp s H, PE (ak X scope (tg ++ cs) C fp s H) vx tv)
    (hs : ∀ x, foldedSetIterable iter X.env x = pure x := by intro _; rfl) : PE X (.DictComp kx vx [⟨target, iter, ifs, 0⟩] scope pos) (iT X.K wi tg.length ix g tc tk tv) := by
  intro pins s σ H Q I h
  rw [arm_eval_DictComp]
  refine wpAny_comprehension_free (use := none) (cl := aV X.env scope.names []) rfl hs (cC fun n hn => I.ok.has n (S.out n hn)) S.kind S.names ?_
  refine wpAny_mono (hi pins s σ H _ I h) (fun v s1 h1 => wpAny_mono h1 (fun itv s2 h2 => ?_) fun _ _ e => e) fun _ _ e => e
  obtain ⟨it, fp, tn, J, H2, rfl, I2, T, st2, f2, W, ⟨m0, w0⟩, turn⟩ := h2
  refine wpAny_newObj_type (wpAny_newFunctionEnv S.nocell (by intro y hy; simp at hy) (fun h1 hns1 hsb1 => ?_) S.kind)
  dsimp only at hns1 hsb1 ⊢
  generalize hP : s2.heap.push { cls := .type "dict", dict := none, data := .dict #[] } = P2 at hns1 hsb1 ⊢
  have hCs : P2.objs.size = s2.heap.objs.size + 1 := by rw [<- hP, Heap.size_push]
  have hDC : s2.heap.objs.size ≠ P2.objs.size := by rw [hCs]; exact Nat.ne_of_lt (Nat.lt_succ_self _)
  have hCle : s2.heap.objs.size <= P2.objs.size := by rw [hCs]; exact Nat.le_succ _
  generalize hCg : P2.objs.size = C at *
  have old : ∀ b o, s2.heap.get? b = some o -> h1.get? b = some o := fun b o e => hsb1.extBut b o (Nat.ne_of_lt (Nat.lt_of_lt_of_le (Heap.lt_size e) hCle)) (Heap.get?_push_of_some _ (hP ▸ Heap.get?_push_of_some _ e))
  generalize hDg : s2.heap.objs.size = D at *
  have hD0 : h1.get? D = some { cls := .type "dict", data := .dict #[] } := hsb1.extBut _ _ hDC (Heap.get?_push_of_some _ (hP ▸ hDg ▸ Heap.get?_push_size _ rfl))
  have nC : H2 C = none := I2.hok.fresh (by rw [hDg]; exact hCle)
  have nD : H2 D = none := I2.hok.fresh (by rw [hDg]; exact Nat.le_refl _)
  have fo : ∀ b ∈ fp, ∃ o, s2.heap.get? b = some o := fun b hb => let ⟨o, e, _⟩ := T.obj _ _ st2 b hb; ⟨o, e⟩
  have Dfp : D ∉ fp := fun z => by
    obtain ⟨o, e⟩ := fo D z
    have := Heap.lt_size e
    rw [hDg] at this
    exact absurd this (Nat.lt_irrefl _)
  have Dfs : D ∉ frs X.stack := fun z => by
    rcases List.mem_cons.mp (I2.stkSub D z) with e | e
    · have := I2.lt
      rw [<- e, hDg] at this
      exact absurd this (Nat.lt_irrefl _)
    · exact I2.nofs (by rw [hDg]; exact Nat.le_refl _) e
  have DcY : ∀ x c, (aV X.env scope.names []).lookup x = some c -> c ≠ D := fun x c e => by
    rcases cj (PySem.mem_of_lookup e) with h | h
    · cases h
    · exact (I2.fpOk (H' := H2) (b := D) (by rw [hDg]; exact Nat.le_refl _) nD).2.2.2.2.1 x c h
  -- the block's context
  have Yok : ∀ s4 : Shared, s4 = { s2 with heap := h1, toks := s2.toks + ([] : List (Str × Value)).length } -> Inv (ak X scope (tg ++ cs) C fp s2 H2) [] (capt tg.length ix σ) H2 s4 := by
    rintro s4 rfl
    exact eD S I2 f2 fo (by rw [hDg]; exact hCle) old (by simpa using hns1) rfl I2.bare nC
  -- the loop
  have loop : ∀ s4 : Shared, s4 = { s2 with heap := h1, toks := s2.toks + ([] : List (Str × Value)).length } ->
      codeAny (model X.prog X.w) X.A (.compLoop (.DictComp kx vx [⟨target, iter, ifs, 0⟩] scope pos) 0 (.ref it) (.ref D) (compEnvC scope (aV X.env scope.names []) C X.env)) (compPost (model X.prog X.w) X.A X.xe none (EP X pins σ Q) (.ref D) C) s4 := by
    intro s4 e4
    refine codeAny_loop rfl (fun n s' => ∃ i es o H', Inv (ak X scope (tg ++ cs) C fp s2 H2) [] (capt tg.length ix σ) H' s' /\ tn i s'.heap /\ (∀ b ∈ fp, H' b = none) /\ H' D = none /\ s'.heap.get? D = some o /\ DctP D es s'.heap /\ W i n es H')
      ?_ m0 ⟨0, [], _, H2, Yok s4 e4, ?_, fun b hb => (f2 b hb).1, nD, by rw [e4]; exact hD0, lU (by rw [e4]; exact hD0) (by rw [<- hDg]; exact kC I2), w0⟩
    · rintro n s5 ⟨i, es, o, H5, I5, st5, fr5, d5, o5, v5, w5⟩
      show wpAny _ X.A ((compTurn (.DictComp kx vx [⟨target, iter, ifs, 0⟩] scope pos) 0 (.ref it) (.ref D) (compEnvC scope (aV X.env scope.names []) C X.env)).onRaise (fun x => do noteFrame x (compEnvC scope (aV X.env scope.names []) C X.env); theTreesLotGoes x)) _ _ s5
      refine wpAny_noted ?_
      rw [compTurn_dict]
      have pin0 : Inv (ak X scope (tg ++ cs) C fp s2 H2) [(D, o)] (capt tg.length ix σ) H5 s5 := I5.pins_of fun p hp => by
        have e : p = (D, o) := by simpa using hp
        subst e
        exact ⟨o5, d5, hDC, Dfs, v5.nocell o5⟩
      have fpY : ∀ {H' : Hp}, (∀ b ∈ fp, H' b = none) -> ∀ b ∈ fp, dw (ak X scope (tg ++ cs) C fp s2 H2) [(D, o)] H' b := fun hn b hb =>
        ⟨hn b hb, (I5.ok.exf b hb).1, fun z => I5.ok.exfs b hb z, .inl hb, (I5.ok.exf b hb).2, fun p hp z => by
          have hp : p ∈ ([] : List (Addr × Obj)) ++ [(D, o)] := hp
          have e : p = (D, o) := by simpa using hp
          subst e
          have z : D = b := z
          exact Dfp (z ▸ hb)⟩
      refine wpAny_bind (wpAny_standAt (wpAny_bind ?_))
      rcases turn i n es H5 w5 with ⟨stop, qn⟩ | ⟨go, hz, Nx, hN, step⟩
      · refine thn (T.done (ak X scope (tg ++ cs) C fp s2 H2) rfl rfl rfl hcalm i _ s5 _ H5 _ pin0 (fpY fr5) st5 stop) fun r s6 zr1 => ?_
        obtain ⟨hr, I6⟩ := zr1
        subst hr
        refine wpAny_pure ?_
        obtain ⟨mC, hnsC, _⟩ := id I6.loc
        refine ⟨mC, hnsC, fun h' sb => ?_⟩
        have IX : Inv X pins σ H5 s6 := I2.call' (ch := fp) I6.os I6.base I6.hok I6.bare fun b hb => let ⟨_, a1, _, a3, a4, a5⟩ := f2 b hb; ⟨a3, a1, a4, a5⟩
        obtain ⟨_, c1, _, c3, c4, c5⟩ := I2.fpOk (H' := H5) (b := C) (by rw [hDg]; exact hCle) I6.free
        have IX2 : Inv X pins σ H5 { s6 with heap := h' } := IX.turned (t' := s6.toks) (fun b o hb e => (sb.2 b hb).trans e) I6.free c1 c3 c4 c5
        obtain ⟨_, b1, _, b3, b4, b5⟩ := I2.fpOk (H' := H5) (b := D) (by rw [hDg]; exact Nat.le_refl _) d5
        have gD : h'.get? D = some o := (sb.2 D hDC).trans (I6.pin (D, o) (List.mem_append_right _ List.mem_cons_self)).1
        exact ⟨.ref D, upd H5 D (bR D o es), IX2.track d5 (by rw [<- hDg]; exact I2.sz) b1 b4 b5 ((v5.at (gD.trans o5.symm)).ok gD), rfl, qn D o d5⟩
      · refine thn (T.item (ak X scope (tg ++ cs) C fp s2 H2) rfl rfl rfl hcalm i _ s5 _ H5 _ pin0 (fpY fr5) st5 go) fun r s6 zr1 => ?_
        obtain ⟨u, hr, h6⟩ := zr1
        subst hr
        refine wpAny_bind (thn h6 fun _ s7 zr1 => ?_)
        obtain ⟨x, H7, I7, r7, y7, st7, fr7⟩ := zr1
        have I7' := I7.pinned (fpY fr7) (T.obj _ _ st7)
        -- the next turn
        have again : ∀ {σ2 : St} {H8 : Hp} {s8 : Shared} {es' : List (List Int × Addr × V)} {o' : Obj}, Inv (ak X scope (tg ++ cs) C fp s2 H2) [] σ2 H8 s8 -> (σ2.length = (capt tg.length ix σ).length /\ ∀ (i : Nat) (v : V), (capt tg.length ix σ)[i]? = some (some v) -> σ2[i]? = some (some v)) ->
            (∀ b ∈ fp, ∀ o, s7.heap.get? b = some o -> s8.heap.get? b = some o) -> (∀ b ∈ fp, H8 b = none) -> H8 D = none -> s8.heap.get? D = some o' -> DctP D es' s8.heap -> Nx es' H8 ->
            ∃ m, m < n /\ ∃ i es o H', Inv (ak X scope (tg ++ cs) C fp s2 H2) [] (capt tg.length ix σ) H' s8 /\ tn i s8.heap /\ (∀ b ∈ fp, H' b = none) /\ H' D = none /\ s8.heap.get? D = some o /\ DctP D es s8.heap /\ W i m es H' := by
          intro σ2 H8 s8 es' o' I8 kp fk fn dn dg vv nx
          obtain ⟨m', hm, w8⟩ := hN es' H8 nx
          exact ⟨m', hm, i + 1, es', o', H8, I8.weak kp.1.symm kp.2, T.keep _ _ _ st7 fk, fn, dn, dg, vv, w8⟩
        refine wpAny_bind (wpAny_mono (hg C fp s2 H2 _ s7 _ H7 x u _ I7' r7 (kg x σ H7 _ (step x H7 y7))) (fun _ s8 zr1 => ?_) fun _ _ z => z.elim)
        obtain ⟨σ8, H8, I8, kp8, q8⟩ := zr1
        refine wpAny_bind (wpAny_mono (hc C fp s2 H2 _ s8 σ8 H8 _ I8 q8) (fun ok s9 zr1 => ?_) fun _ _ z => z.elim)
        obtain ⟨H9, I9, q9⟩ := zr1
        have pinsOf : ∀ {σ' : St} {H' : Hp} {s' : Shared}, Inv (ak X scope (tg ++ cs) C fp s2 H2) ([(D, o)] ++ bP fp s7.heap) σ' H' s' ->
            (∀ b ∈ fp, ∀ o, s7.heap.get? b = some o -> s'.heap.get? b = some o) /\ (∀ b ∈ fp, H' b = none) /\ H' D = none /\ s'.heap.get? D = some o := by
          intro σ' H' s' I'
          refine ⟨fun b hb o e => (I'.pin (b, o) (List.mem_append_right _ (List.mem_append_right _ (aG hb e)))).1, fun b hb => ?_, (I'.pin (D, o) (List.mem_append_right _ (List.mem_append_left _ List.mem_cons_self))).2.1, (I'.pin (D, o) (List.mem_append_right _ (List.mem_append_left _ List.mem_cons_self))).1⟩
          obtain ⟨o, e, d⟩ := T.obj _ _ st7 b hb
          exact (I'.pin (b, o) (List.mem_append_right _ (List.mem_append_right _ (aG hb e)))).2.1
        cases ok with
        | false =>
          obtain ⟨p1, p2, p3, p4⟩ := pinsOf I9
          exact wpAny_pure ⟨rfl, again (I9.pins_of fun p hp => nomatch hp) kp8 p1 p2 p3 p4 (v5.at (p4.trans o5.symm)) q9⟩
        | true =>
          have q9 : tk σ8 H9 fun y H6 => tv σ8 H6 fun v H7 => ∃ b ms, y = .ref b /\ SqN X.K H7 b ms /\ bX X.K H7 es /\ Nx (d7 es ms b v) H7 := q9
          refine wpAny_bind (wpAny_bind (wpAny_mono (hk C fp s2 H2 _ s9 σ8 H9 _ I9 q9) (fun kv s10 zr1 => ?_) fun _ _ z => z.elim))
          obtain ⟨y, H10, I10, ry, q10⟩ := zr1
          refine wpAny_bind (wpAny_holding (wpAny_mono (hv C fp s2 H2 _ s10 σ8 H10 _ I10 q10) (fun vv s11 zr1 => ?_) fun _ _ z => z.elim))
          obtain ⟨v, H11, I11, rv, b, ms, ey, sq, ka, nx⟩ := zr1
          subst ey
          cases ry
          obtain ⟨p1, p2, p3, p4⟩ := pinsOf I11
          have P11 : DctP D es s11.heap := v5.at (p4.trans o5.symm)
          obtain ⟨z, m, nd, xs, ev, dd⟩ := lV I11 P11 ka
          refine wpAny_bind (wpAny_standAt (wpAny_holding (wpAny_dictSet_heap (hsz := by rw [<- Paired.length ev]; exact z) (show (tupleKind (KT.numKind X.prog X.w)).room X.A from by show X.A.units < cLine; lia) (cK (X := ak X scope (tg ++ cs) C fp s2 H2) I11 sq) dd fun h' dd' hs' => ?_)))
          have I12 : Inv (ak X scope (tg ++ cs) C fp s2 H2) [] σ8 H11 s11 := I11.pins_of fun p hp => nomatch hp
          have I13 : Inv (ak X scope (tg ++ cs) C fp s2 H2) [] σ8 H11 { s11 with heap := h', toks := s11.toks + (tupleKind (KT.numKind X.prog X.w)).draws ms } :=
            I12.turned (fun b o hb e => (hs'.2 b hb).trans e) p3 hDC (.inr (by show s2.heap.objs.size <= D; rw [hDg]; exact Nat.le_refl _)) DcY (fun p hp => nomatch hp)
          obtain ⟨qo, qd, qe, h1q, h2q, h3q, h4q, _, h5q⟩ := dd'
          refine wpAny_pure ⟨rfl, again I13 kp8 (fun b hb o e => (hs'.2 b (fun z : b = D => Dfp (z ▸ hb))).trans (p1 b hb o e)) p2 p3 h1q ⟨?_, m, ?_, _, ev.put ms rv, qo, qd, qe, h1q, h2q, h3q, h4q⟩ nx⟩
          · have := dM es ms b v; lia
          · rw [(ev.put ms rv).keys]; exact h5q
    · rw [e4]; exact T.keep _ _ _ st2 fun b _ o e => old b o e
  exact codeAny_compStart_dict (loop _ rfl) (T.self _ 0 _ _ _ (T.keep _ _ _ st2 fun b _ o e => old b o e) (loop _ rfl))
end
end L2
namespace VL
open PySem L2 PySem.W
section
variable {X : Cx} {K : PySem.W.Frag} {m : Bool} {e : Expr} {te : TE} {va : VT} {pos : Pos}
theorem iU {N : AP} {k : List Int} : ∀ {es : List (List Int × Addr × V)} {kvs : List (List Int × D)}, es.map (·.1) = kvs.map (·.1) -> Reps K N F H (es.map (·.2.2)) (kvs.map (·.2)) ->
  (atE es k = none /\ getA kvs k = none) \/ ∃ v d, atE es k = some v /\ getA kvs k = some d /\ Rep K N F H v d
 | [], [], _, _ => .inl ⟨rfl, rfl⟩
 | [], _ :: _, h, _ => by cases h
 | _ :: _, [], h, _ => by cases h
 | e :: es, p :: ps, h, .cons r t => by
  have h1 : e.1 = p.1 := (List.cons.inj h).1
  by_cases z : p.1 = k
  ·exact .inr ⟨e.2.2, p.2, by simp [atE, h1, z], by simp [getA, z], r⟩
  ·rcases iU (k := k) (List.cons.inj h).2 t with ⟨a, b⟩ | ⟨v, d, a, b, r⟩
   ·exact .inl ⟨by simpa [atE, List.find?_cons, h1, z] using a, by simpa [getA, List.find?_cons, z] using b⟩
   ·exact .inr ⟨v, d, by simpa [atE, List.find?_cons, h1, z] using a, by simpa [getA, List.find?_cons, z] using b, r⟩
noncomputable def BB (i : Nat) (vn : VTN) : VT := fun S Q => (∃ ds, S[i]? = some (.own ds)) /\ vn S fun ds2 S1 => ∃ ds, S1[i]? = some (.own ds) /\ ds.length + ds2.length <= 1000000 /\ Q (.d .non) (S1.set i (.own (ds ++ ds2)))
theorem pM {apos : Pos} {o : Expr} {vn : VTN} (i : Nat) (hK : X.K = K) (ho : PE X o (cg i)) (h : VN K X e te vn) (hbase : attributeBase o "extend" X.env (eval o X.env) = eval o X.env := by rfl)
  (hfew : ((backTo pos (starEach (e :: []) X.env)).all (fun x => !x.1) && (backToKw pos (keywordEach [] X.env)).all (fun x => x.1.isSome)
   && decide ((e :: []).length + ([] : List Keyword).length + (if ([] : List Keyword).isEmpty then 0 else 1) < 30)) = true := by rfl)
  (hline : (apos.endLine == pos.line) = true := by rfl) (hs : starEach (e :: []) X.env = (false, eval e X.env) :: starEach [] X.env := by rfl) (hplain : (backTo pos (starEach [] X.env)).any (·.1) = false := by rfl) :
  VE K X m (.Call (.Attribute o "extend" apos) [e] [] pos) (tBM K "list" lu (cg i) (cV te fR)) (BB i vn) :=
 ⟨by subst hK; exact uy PySem.F.plainAttrs_list PySem.F.slot_list_extend PySem.F.type_list_extend mK ho (bZ h.pe dD hs) hbase hfew hline hs hplain, fun H0 Z σ H S Q C k zq1 hc => by
  obtain ⟨⟨ds0, e0⟩, t⟩ := zq1
  obtain ⟨o, h1, a, vs, rfl, h2, h3, h4⟩ := k.ownAt e0
  refine ⟨.ref a, h1, .inl ⟨rfl, vs, .inl (.inl h2)⟩, ?_⟩
  refine h.snd H0 Z σ H S _ _ k t fun b us ds2 H1 H' S1 k1 st1 hb hg hl rr zr1 => ?_
  obtain ⟨ds, e1, hlen, q⟩ := zr1
  have k' := k1.grow hg
  obtain ⟨o', g1, a', vs', rfl, g2, g3, g4⟩ := k'.ownAt e1
  rw [h1] at g1; cases g1
  have l1 := g4.length
  have l2 := rr.length
  refine ⟨a, b, vs', us, rfl, rfl, g2, hl, by rw [sizeLine_eq]; lia, ?_⟩
  have na : NM Z σ S1 a -> False := fun n => n (.inl ⟨i, _, e1, rfl, h1⟩)
  have hm : ∀ c, NM Z σ S1 c -> H' c ≠ none -> NM Z σ S1 c /\ upd H' a (.lst (vs' ++ us)) c = H' c := fun c n _ => ⟨n, au fun z => na (by rw [<- z]; exact n)⟩
  obtain ⟨k2, st2⟩ := k'.chg (s := .own (ds ++ ds2)) (o := .lst (vs' ++ us)) e1 rfl h1 ⟨_, rfl⟩ rfl ⟨a, _, rfl, aw, g3, Reps.append (g4.mono hm fun _ x => x) (rr.mono (fun c n z => hm c n.1 z) fun _ x => x)⟩
  exact hc .non _ (.d .non) _ k2 ((st1.trans (.grow hg)).trans st2) Rep.non q⟩
end
section
variable {K : PySem.W.Frag} {X : Cx} {kx vx iter : Expr} {pos : Pos}
theorem pN {H0 H : Hp} {y : V} {ri : VR} {m : Bool} (rr : dA K (FM H0 m) Z σ S H y ri) (ek : get S ri = some (kT ms)) : ∃ b, y = .ref b /\ SqT K H b (ms.map L2.V.int) /\ Rep K (NM Z σ S) AnyF H (.ref b) (kT ms) := by
 cases ri with
 | d z =>
  cases ek
  obtain ⟨b, vs, rfl, hq, r2⟩ := Rep.sqT (show Rep K _ _ H y (.tup (ms.map D.int)) from rr)
  cases Reps.toInts r2
  exact ⟨b, rfl, hq, Rep.mono (fun _ n _ => ⟨n, rfl⟩) (fun _ _ => trivial) rr⟩
 | own j =>
  have ek : getO S[j]? = some (kT ms) := ek
  cases e : S[j]? with
  | none => rw [e] at ek; cases ek
  | some s => rw [e] at ek; cases s <;> cases ek
noncomputable def kJ (vi : VTN) (n : Nat) (ix : List Nat) (vg : VG) (vt : VTT) (vk vv : VT) : VTD := fun S Q => vi S fun ds S1 => ds.length <= 1000000 /\ ∃ Iv : Nat -> List (List Int × D) -> List Sl -> Prop, Iv 0 [] S1 /\
 (∀ i d kvs S2, ds[i]? = some d -> Iv i kvs S2 -> vg d (aO n ix S2) fun S3 => vt S3 fun b S4 => if b = true then vk S4 fun rk S5 => vv S5 fun rv S6 => ∃ ms x, get S6 rk = some (kT ms) /\ rv = .d x /\ Iv (i + 1) (putA kvs ms x) (backS n ix S2 S6) else Iv (i + 1) kvs (backS n ix S2 S4)) /\
 ∀ kvs S2, Iv ds.length kvs S2 -> Q kvs S2
theorem lW {ifs : List Expr} {scope : Scope} {tg cs : List Str} {target : Expr} {wi : TI} {vi : VTN} {g : TG} {vg : VG} {tc : TT} {vt : VTT} {tk tv : TE} {vk vv : VT} (hK : X.K = K) (hu : X.A.units + 64 < cLine) (Sc : aL X scope tg cs ix) (hcalm : X.calm = true) (kg : cr tg.length ix g) (hnd : ix.Nodup)
    (hi : VI K X target iter wi vi) (hg : ∀ C fp s H, VGe K (ak X scope (tg ++ cs) C fp s H) target g vg) (hc : ∀ C fp s H, VTs K (ak X scope (tg ++ cs) C fp s H) ifs tc vt) (hk : ∀ C fp s H, VE K (ak X scope (tg ++ cs) C fp s H) false kx tk vk) (hv : ∀ C fp s H, VE K (ak X scope (tg ++ cs) C fp s H) true vx tv vv)
    (hs : ∀ x, foldedSetIterable iter X.env x = pure x := by intro _; rfl) : VDe K X (.DictComp kx vx [⟨target, iter, ifs, 0⟩] scope pos) (iT K wi tg.length ix g tc tk tv) (kJ vi tg.length ix vg vt vk vv) := by
  have sg : SndG K g vg := (hg 0 [] X.s₀ (fun _ => none)).snd
  have sc : SndT K tc vt := (hc 0 [] X.s₀ (fun _ => none)).snd
  have sk : SndE K false tk vk := (hk 0 [] X.s₀ (fun _ => none)).snd
  have sv : SndE K true tv vv := (hv 0 [] X.s₀ (fun _ => none)).snd
  refine ⟨by subst hK; exact pL hu Sc hcalm kg hi.pi (fun C fp s H => (hg C fp s H).pg) (fun C fp s H => (hc C fp s H).pe) (fun C fp s H => (hk C fp s H).pe) (fun C fp s H => (hv C fp s H).pe) hs, fun H0 Z σ H S Q C k t hq => ?_⟩
  refine hi.snd H0 Z σ H S _ _ k t fun J ds H1 S1 k1 st1 gd zr1 => ?_
  obtain ⟨hl, Iv, i0, hs, hd⟩ := zr1
  refine ⟨fun i m es H => m = ds.length - i /\ i <= ds.length /\ es.length <= i /\ ∃ S2 kvs, OK K H0 Z σ H S2 /\ Step Z σ S1 H1 σ S2 H /\ es.map (·.1) = kvs.map (·.1) /\ Reps K (NM Z σ S2) AnyF H (es.map fun x => V.ref x.2.1) ((kvs.map (·.1)).map kT) /\ Reps K (NM Z σ S2) (Fr H0) H (es.map (·.2.2)) (kvs.map (·.2)) /\ Iv i kvs S2,
    ⟨ds.length, by simp, Nat.zero_le _, Nat.le_refl _, S1, [], k1, .refl, rfl, .nil, .nil, i0⟩, ?_⟩
  rintro i m es H2 ⟨rfl, hi, hy, S2, kvs, k2, st2, ek, rk, rz, p⟩
  obtain ⟨g1, g2, g3⟩ := gd σ S2 H2 (fun _ => k2.nm) st2.1 i
  have hsz : (1000000 : Nat) < sizeLine := by rw [sizeLine_eq]; lia
  by_cases hlt : i < ds.length
  · refine .inr ⟨g1 hlt, by lia, fun es' H' => es'.length <= i + 1 /\ ∃ S' kvs', OK K H0 Z σ H' S' /\ Step Z σ S1 H1 σ S' H' /\ es'.map (·.1) = kvs'.map (·.1) /\ Reps K (NM Z σ S') AnyF H' (es'.map fun x => V.ref x.2.1) ((kvs'.map (·.1)).map kT) /\ Reps K (NM Z σ S') (Fr H0) H' (es'.map (·.2.2)) (kvs'.map (·.2)) /\ Iv (i + 1) kvs' S',
      fun es' H' zt1 => by obtain ⟨p1, p2⟩ := zt1; exact ⟨ds.length - (i + 1), by lia, rfl, hlt, p1, p2⟩, fun x H3 y => ?_⟩
    obtain ⟨hgr, d, hd', rd⟩ := g2 x H3 y hlt
    replace k2 := k2.grow hgr
    replace st2 := st2.trans (.grow hgr)
    replace rk := rk.step (.grow hgr)
    replace rz := rz.step (.grow hgr)
    have kc := k2.capt (n := tg.length) hnd
    have rd' : Rep K (NM (Zin Z ix σ S2) (L2.capt tg.length ix σ) (aO tg.length ix S2)) AnyF H3 x d := rd.mono (fun a n _ => ⟨fun z => n (di.mp z), rfl⟩) fun _ x => x
    have h1 := sg H0 _ _ H3 _ x d _ (fun σ4 H4 => ∃ S4, OK K H0 (Zin Z ix σ S2) σ4 H4 S4 /\ Step (Zin Z ix σ S2) (L2.capt tg.length ix σ) (aO tg.length ix S2) H3 σ4 S4 H4 /\ vt S4 fun b S5 => if b = true then vk S5 fun rk S6 => vv S6 fun rv S7 => ∃ ms x, get S7 rk = some (kT ms) /\ rv = .d x /\ Iv (i + 1) (putA kvs ms x) (backS tg.length ix S2 S7) else Iv (i + 1) kvs (backS tg.length ix S2 S5)) kc rd' (hs i d kvs S2 hd' p) (fun σ4 H4 S4 k4 st4 q4 => ⟨S4, k4, st4, q4⟩)
    have h2 := kg x σ H3 _ h1
    refine (hg 0 [] X.s₀ (fun _ => none)).mono _ _ _ _ _ ?_ h2
    rintro σ4 H4 ⟨⟨hl4, hσ4⟩, S4, k4, st4, q4⟩
    refine sc H0 _ σ4 H4 S4 _ _ k4 q4 fun bb H5 S5 k5 st5 q5 => ?_
    cases bb with
    | false =>
      rw [if_neg Bool.false_ne_true] at q5 ⊢
      obtain ⟨kb, sb, nb⟩ := k2.back k5 (st4.trans st5) hσ4
      exact ⟨by lia, _, kvs, kb, st2.trans sb, ek, rk.step sb, rz.step sb, q5⟩
    | true =>
      rw [if_pos rfl] at q5 ⊢
      refine sk H0 _ σ4 H5 S5 _ _ k5 q5 fun yy H6 ry S6 k6 st6 rry q6 => ?_
      refine sv H0 _ σ4 H6 S6 _ _ k6 q6 fun vv' H7 rv S7 k7 st7 rrv zr1 => ?_
      obtain ⟨ms, xx, e1, er, q7⟩ := zr1
      subst er
      obtain ⟨b, rfl, sq, rb⟩ := pN (rry.step st7) e1
      obtain ⟨kb, sb, nb⟩ := k2.back k7 (((st4.trans st5).trans st6).trans st7) hσ4
      have rk' := rk.step sb
      have rz' := rz.step sb
      obtain ⟨z1, z2, z3⟩ := iJ (k := ms) (b := b) (v := vv') (d := xx) (F := Fr H0) (F' := AnyF) (Rep.mono (fun a n _ => ⟨nb a n, rfl⟩) (fun _ x => x rfl) rrv) (Rep.mono (fun a n _ => ⟨nb a n, rfl⟩) (fun _ x => x) rb) ek rk' rz'
      refine ⟨b, ms, rfl, SqN.of sq, cB (by rw [ek]; exact rk'), ?_, _, putA kvs ms xx, kb, st2.trans sb, z1, z2, z3, q7⟩
      have := dM es ms b vv'
      lia
  · have e : i = ds.length := by lia
    refine .inl ⟨g3 e, fun l ob hp => ?_⟩
    exact hq l es kvs H2 _ S2 k2 (st1.trans st2) hp (aC hp) ⟨ob, aw⟩ ek (rk.mono (fun a n e => ⟨⟨n, fun z => e (z ▸ hp)⟩, au fun z => e (z ▸ hp)⟩) fun _ x => x) (bA hp (rz.mono (fun _ n _ => ⟨n, rfl⟩) fun _ x _ => x)) (hd kvs S2 (by rw [<- e]; exact p))
end
end VL
end
section
namespace L2
open PySem PySem.Spec PyProof.Rows PySem.W
noncomputable abbrev lso (its : List Value) (k : Nat) : Obj := { cls := .type "list", data := .seq its.toArray k }
noncomputable abbrev two_of (elt t1 i1 t2 i2 : Expr) (f1 f2 : List Expr) (scope : Scope) (pos : Pos) : Expr := .ListComp elt [⟨t1, i1, f1, 0⟩, ⟨t2, i2, f2, 0⟩] scope pos
section
variable {elt t1 i1 t2 i2 : Expr} {f1 f2 : List Expr} {scope : Scope} {pos : Pos}
theorem sP (it acc : Value) (env : Env) : compTurn (two_of elt t1 i1 t2 i2 f1 f2 scope pos) 1 it acc env = (do { standAt i2.pos; match <- pyNext it with | none => pure (.done .next) | some v => (do { letOwnedTupleGo t2 it v; assign t2 env v; let mut ok := true; for c in f2 do { if ok then { ok <- isTrue c env (eval c env) } }; if ok then { (do { let _ <- call (.builtin "list.append") [acc, <- eval elt env] }) }; again (.compLoop (two_of elt t1 i1 t2 i2 f1 f2 scope pos) 1 it acc env) }) }) := by rfl
theorem pO (it acc : Value) (env : Env) : compTurn (two_of elt t1 i1 t2 i2 f1 f2 scope pos) 0 it acc env = (do { standAt i1.pos; match <- pyNext it with | none => pure (.done .next) | some v => (do { letOwnedTupleGo t1 it v; assign t1 env v; let mut ok := true; for c in f1 do { if ok then { ok <- isTrue c env (eval c env) } }; if ok then { let x <- eval i2 env; standAt i2.pos; let x <- foldedSetIterable i2 env x; let _ <- runOwn (.compStart (two_of elt t1 i1 t2 i2 f1 f2 scope pos) 1 (<- holding [x] (pyIter x)) acc env) env }; again (.compLoop (two_of elt t1 i1 t2 i2 f1 f2 scope pos) 0 it acc env) }) }) := by rfl
theorem pP {P : Program} {w : World} {A : Around} {R : Result -> Shared -> Prop} {s : Shared} {it acc : Value} {env : Env} (h0 : codeAny (model P w) A (.compLoop (two_of elt t1 i1 t2 i2 f1 f2 scope pos) 1 it acc env) R s)
  (h : wpAny (model P w) A (pyIter it) (fun y s' => codeAny (model P w) A (.compLoop (two_of elt t1 i1 t2 i2 f1 f2 scope pos) 1 y acc env) R s') (notedBy (model P w) A env fun x s' => R (.error x) s') s) :
  codeAny (model P w) A (.compStart (two_of elt t1 i1 t2 i2 f1 f2 scope pos) 1 it acc env) R s := by
 refine codeAny_of_tree (wpAny_notedAt (m := compStart (two_of elt t1 i1 t2 i2 f1 f2 scope pos) 1 it acc env) ?_)
 unfold compStart
 refine (show wpAny _ _ (ask >>= _) _ _ s from wpAny_bind (wpAny_askSetting (wpAny_ite ?_)))
 split
 ·exact wpAny_pure ⟨rfl, h0⟩
 ·exact wpAny_bind (wpAny_rule (wpAny_bind (m := standAt i2.pos) (wpAny_standAt (wpAny_bind (wpAny_mono h (fun y s' q => wpAny_pure ⟨rfl, q⟩) fun _ _ x => x)))))
noncomputable def tIn (wi : TI) (g : TG) (tc : TT) (te : TE) (σ : St) (ys : List V) (Nx : List V -> Hp -> Prop) (H : Hp) : Prop := wi σ H fun J H1 => ∃ W : Nat -> Nat -> List V -> Hp -> Prop, (∃ m, W 0 m ys H1) /\ ∀ j m zs H2, W j m zs H2 ->
 (J.stop j H2 /\ Nx zs H2) \/ (J.go j H2 /\ zs.length < sizeLine /\ ∃ N2 : List V -> Hp -> Prop, (∀ zs' H', N2 zs' H' -> ∃ m', m' < m /\ W (j + 1) m' zs' H') /\
  ∀ x H3, J.yld j H2 x H3 -> g x σ H3 fun σ4 H4 => tc σ4 H4 fun b H5 => if b = true then te σ4 H5 fun v H6 => N2 (zs ++ [v]) H6 else N2 zs H5)
noncomputable def pQ (σ : St) (g : TG) : Prop := ∀ x H Q, g x σ H Q -> g x σ H fun σ2 H2 => (σ2.length = σ.length /\ ∀ (i : Nat) (v : V), σ[i]? = some (some v) -> σ2[i]? = some (some v)) /\ Q σ2 H2
theorem sQ {Y : Cx} {wi : TI} {g : TG} {tc : TT} {te : TE} {s : Shared} {D : Addr} {ys : List V} {its : List Value} {k : Nat} {Nx : List V -> Hp -> Prop} (hcalm : Y.calm = true) (hxe : ∀ e s, ¬Y.xe e s)
  (hi : PI Y t2 i2 wi) (hg : PG Y t2 g) (hc : PTs Y f2 tc) (he : PE Y elt te) (kg : pQ σ g) (I : Inv Y pins σ H s) (dL : D ≠ Y.env.locals) (dF : D ∉ Y.fs) (dS : Y.s₀.heap.objs.size <= D) (dC : ∀ x c, Y.env.cells.lookup x = some c -> c ≠ D)
  (dP : ∀ p ∈ Y.pn ++ pins, p.1 ≠ D) (dn : H D = none) (dg : s.heap.get? D = some (lso its k)) (vy : Vals ys its) (h : tIn wi g tc te σ ys Nx H) (hs : ∀ x, foldedSetIterable i2 Y.env x = pure x) {α : Type} {r : Sem α} {Q : α -> Shared -> Prop} {E : Value -> Shared -> Prop}
  (fin : ∀ s' ys' its' k' H', Inv Y pins σ H' s' -> H' D = none -> s'.heap.get? D = some (lso its' k') -> Vals ys' its' -> Nx ys' H' -> wpAny (model Y.prog Y.w) Y.A r Q E s') :
  wpAny (model Y.prog Y.w) Y.A (do { let x <- eval i2 Y.env; standAt i2.pos; let x <- foldedSetIterable i2 Y.env x; let _ <- runOwn (.compStart (two_of elt t1 i1 t2 i2 f1 f2 scope pos) 1 (<- holding [x] (pyIter x)) (.ref D) Y.env) Y.env; r }) Q E s := by
 have nc : ∀ (its : List Value) (k : Nat) v, (lso its k).data ≠ .cell v := fun its k v z => by have z' : Data.seq _ _ = Data.cell v := z; cases z'
 have pinD : ∀ {H' : Hp} {s' : Shared} {its' : List Value} {k' : Nat}, Inv Y pins σ H' s' -> H' D = none -> s'.heap.get? D = some (lso its' k') -> Inv Y (pins ++ [(D, lso its' k')]) σ H' s' := fun I' n' g' => I'.pins_of fun p hp => by
  rcases List.mem_append.mp hp with hp | hp
  ·exact I'.pin p (List.mem_append_right _ hp)
  ·rw [List.mem_singleton.mp hp]; exact ⟨g', n', dL, dF, nc _ _⟩
 refine wpAny_bind (wpAny_mono (hi _ s σ H _ (pinD I dn dg) h) (fun v s1 h1 => ?_) fun e s z => (hxe e s z).elim)
 refine wpAny_bind (wpAny_standAt ?_)
 rw [hs]
 refine wpAny_bind (wpAny_pure (wpAny_bind (wpAny_holding (wpAny_mono h1 (fun itv s2 h2 => ?_) fun e s z => (hxe e s z).elim))))
 obtain ⟨it, fp, tn, J, H2, rfl, I2, T, st2, f2', W, ⟨m0, w0⟩, turn⟩ := h2
 have Dfp : D ∉ fp := fun z => (f2' D z).2.2.2.2.2 (D, lso its k) (List.mem_append_right _ (List.mem_append_right _ List.mem_cons_self)) rfl
 have stat : ∀ {H' : Hp} {its' : List Value} {k' : Nat}, (∀ b ∈ fp, H' b = none) -> ∀ b ∈ fp, dw Y (pins ++ [(D, lso its' k')]) H' b := fun hn b hb => by
  obtain ⟨_, a1, a2, a3, a4, a5⟩ := f2' b hb
  refine ⟨hn b hb, a1, a2, a3, a4, fun p hp z => ?_⟩
  rcases List.mem_append.mp hp with hp | hp
  ·exact a5 p (List.mem_append_left _ hp) z
  ·rcases List.mem_append.mp hp with hp | hp
   ·exact a5 p (List.mem_append_right _ (List.mem_append_left _ hp)) z
   ·rw [List.mem_singleton.mp hp] at z; have z : D = b := z; exact Dfp (z ▸ hb)
 have d2 := I2.pin (D, lso its k) (List.mem_append_right _ (List.mem_append_right _ List.mem_cons_self))
 have loop : codeAny (model Y.prog Y.w) Y.A (.compLoop (two_of elt t1 i1 t2 i2 f1 f2 scope pos) 1 (.ref it) (.ref D) Y.env) (fun res s' => match res with | .ok _ => wpAny (model Y.prog Y.w) Y.A r Q E s' | .error e => cameBackBy (model Y.prog Y.w) Y.A Y.env E e s') s2 := by
  refine codeAny_loop rfl (fun n s' => ∃ j zs its k H', Inv Y pins σ H' s' /\ tn j s'.heap /\ (∀ b ∈ fp, H' b = none) /\ H' D = none /\ s'.heap.get? D = some (lso its k) /\ Vals zs its /\ W j n zs H') ?_ m0 ⟨0, ys, its, k, H2, I2.unpinned, st2, fun b hb => (f2' b hb).1, d2.2.1, d2.1, vy, w0⟩
  rintro n s5 ⟨j, zs, its5, k5, H5, I5, st5, fr5, d5, o5, v5, w5⟩
  refine wpAny_noted (m := compTurn (two_of elt t1 i1 t2 i2 f1 f2 scope pos) 1 (.ref it) (.ref D) Y.env) ?_
  rw [sP]
  have pin0 := pinD I5 d5 o5
  refine wpAny_bind (wpAny_standAt (wpAny_bind ?_))
  rcases turn j n zs H5 w5 with ⟨stop, qn⟩ | ⟨go, hz, N2, hN, step⟩
  ·refine thn (T.done Y rfl rfl rfl hcalm j _ s5 _ H5 _ pin0 (stat fr5) st5 stop) fun r s6 zr1 => ?_
   obtain ⟨hr, I6⟩ := zr1
   subst hr
   have d6 := I6.pin (D, lso its5 k5) (List.mem_append_right _ (List.mem_append_right _ List.mem_cons_self))
   exact wpAny_pure (fin s6 zs its5 k5 H5 I6.unpinned d5 d6.1 v5 qn)
  ·refine thn (T.item Y rfl rfl rfl hcalm j _ s5 _ H5 _ pin0 (stat fr5) st5 go) fun r s6 zr1 => ?_
   obtain ⟨u, hr, h6⟩ := zr1
   subst hr
   refine wpAny_bind (thn h6 fun _ s7 zr1 => ?_)
   obtain ⟨x, H7, I7, r7, y7, st7, fr7⟩ := zr1
   have I7' := I7.pinned (stat fr7) (T.obj _ _ st7)
   have pinsOf : ∀ {σ' : St} {H' : Hp} {s' : Shared}, Inv Y ((pins ++ [(D, lso its5 k5)]) ++ bP fp s7.heap) σ' H' s' ->
     (∀ b ∈ fp, ∀ o, s7.heap.get? b = some o -> s'.heap.get? b = some o) /\ (∀ b ∈ fp, H' b = none) /\ H' D = none /\ s'.heap.get? D = some (lso its5 k5) := by
    intro σ' H' s' I'
    have dd := I'.pin (D, lso its5 k5) (List.mem_append_right _ (List.mem_append_left _ (List.mem_append_right _ List.mem_cons_self)))
    refine ⟨fun b hb o e => (I'.pin (b, o) (List.mem_append_right _ (List.mem_append_right _ (aG hb e)))).1, fun b hb => ?_, dd.2.1, dd.1⟩
    obtain ⟨o, e, d⟩ := T.obj _ _ st7 b hb
    exact (I'.pin (b, o) (List.mem_append_right _ (List.mem_append_right _ (aG hb e)))).2.1
   have again : ∀ {σ2 : St} {H8 : Hp} {s8 : Shared} {zs' : List V} {its' : List Value} {k' : Nat}, Inv Y pins σ2 H8 s8 -> (σ2.length = σ.length /\ ∀ (i : Nat) (v : V), σ[i]? = some (some v) -> σ2[i]? = some (some v)) -> (∀ b ∈ fp, ∀ o, s7.heap.get? b = some o -> s8.heap.get? b = some o) -> (∀ b ∈ fp, H8 b = none) ->
     H8 D = none -> s8.heap.get? D = some (lso its' k') -> Vals zs' its' -> N2 zs' H8 -> ∃ m, m < n /\ ∃ j zs its k H', Inv Y pins σ H' s8 /\ tn j s8.heap /\ (∀ b ∈ fp, H' b = none) /\ H' D = none /\ s8.heap.get? D = some (lso its k) /\ Vals zs its /\ W j m zs H' := by
    intro σ2 H8 s8 zs' its' k' I8 kp fk fn dn' dg' vv nx
    obtain ⟨m', hm, w8⟩ := hN zs' H8 nx
    exact ⟨m', hm, j + 1, zs', its', k', H8, I8.weak kp.1.symm kp.2, T.keep _ _ _ st7 fk, fn, dn', dg', vv, w8⟩
   refine wpAny_bind (wpAny_mono (hg _ s7 _ H7 x u _ I7' r7 (kg x H7 _ (step x H7 y7))) (fun _ s8 zr1 => ?_) fun e s z => (hxe e s z).elim)
   obtain ⟨σ8, H8, I8, kp8, q8⟩ := zr1
   refine wpAny_bind (wpAny_mono (hc _ s8 σ8 H8 _ I8 q8) (fun ok s9 zr1 => ?_) fun e s z => (hxe e s z).elim)
   obtain ⟨H9, I9, q9⟩ := zr1
   cases ok with
   | false =>
    obtain ⟨p1, p2, p3, p4⟩ := pinsOf I9
    exact wpAny_pure ⟨rfl, again I9.unpinned.unpinned kp8 p1 p2 p3 p4 v5 q9⟩
   | true =>
    have q9 : te σ8 H9 fun v H6 => N2 (zs ++ [v]) H6 := q9
    refine wpAny_bind (wpAny_bind (wpAny_mono (he _ s9 σ8 H9 _ I9 q9) (fun y s10 zr1 => ?_) fun e s z => (hxe e s z).elim))
    obtain ⟨v, H10, I10, rv, nx⟩ := zr1
    obtain ⟨p1, p2, p3, p4⟩ := pinsOf I10
    have hl5 := v5.length
    refine wpAny_bind (call_meets F.slot_list_append ⟨_, p4, rfl⟩ F.entry_list_append (F.args_list_append_2 _ _) (PySem.list_append D its5.toArray k5 y (by rw [List.size_toArray]; lia)) ⟨p4, ?_⟩)
    have g10 := PySem.IsL.update p4 (·.push y)
    rw [show its5.toArray.push y = (its5 ++ [y]).toArray by simp] at g10
    have I12 : Inv Y pins σ8 H10 { s10 with heap := s10.heap.update D (Obj.mapSeq (·.push y)) } :=
     I10.unpinned.unpinned.turned (t' := s10.toks) (fun b o hb e => (Heap.get?_update_other s10.heap (Obj.mapSeq (·.push y)) (Ne.symm hb)).trans e) p3 dL (.inr dS) dC dP
    refine wpAny_pure (wpAny_pure ⟨rfl, again (its' := its5 ++ [y]) I12 kp8 (fun b hb o e => ?_) p2 p3 g10 (v5.append (.cons rv .nil)) nx⟩)
    exact (Heap.get?_update_other s10.heap (Obj.mapSeq (·.push y)) (fun z : D = b => Dfp (z ▸ hb))).trans (p1 b hb o e)
 refine wpAny_bind (wpAny_runOwn (pP (A := Y.A) loop (T.self _ 0 _ _ _ st2 loop)))
end
section
variable {X : Cx}
noncomputable def pR (wi : TI) (n : Nat) (ix : List Nat) (g : TG) (tc : TT) (wi2 : TI) (g2 : TG) (tc2 : TT) (te : TE) : TE := fun σ H Q => wi σ H fun J H1 => ∃ W : Nat -> Nat -> List V -> Hp -> Prop, (∃ m, W 0 m [] H1) /\ ∀ i m ys H2, W i m ys H2 ->
 (J.stop i H2 /\ ys.length <= sizeLine /\ ∀ D, H2 D = none -> Q (.ref D) (upd H2 D (.lst ys))) \/
 (J.go i H2 /\ ∃ Nx : List V -> Hp -> Prop, (∀ ys' H', Nx ys' H' -> ∃ m', m' < m /\ W (i + 1) m' ys' H') /\
  ∀ x H3, J.yld i H2 x H3 -> g x (capt n ix σ) H3 fun σ2 H4 => tc σ2 H4 fun b H5 => if b = true then tIn wi2 g2 tc2 te σ2 ys Nx H5 else Nx ys H5)
noncomputable def kK (n : Nat) (ix : List Nat) (g g2 : TG) : Prop := ∀ x σ H Q, g x (capt n ix σ) H Q -> g x (capt n ix σ) H fun σ2 H2 => ((σ2.length = (capt n ix σ).length /\ ∀ (i : Nat) (v : V), (capt n ix σ)[i]? = some (some v) -> σ2[i]? = some (some v)) /\ pQ σ2 g2) /\ Q σ2 H2
theorem iV {n : Nat} {a b : Nat} (ha : a < n) (hb : b < n) (hab : a ≠ b) : kK n ix (aZ a) (aZ b) := fun x σ H Q q => by
 obtain ⟨kp, q⟩ := aM ha x σ H Q q
 refine ⟨⟨kp, fun y H' Q' q' => ⟨⟨by simp, fun i v e => ?_⟩, q'⟩⟩, q⟩
 by_cases hi : b = i
 ·subst hi
  rw [List.getElem?_set_ne hab] at e
  exact (bO hb e).elim
 ·rw [List.getElem?_set_ne hi]; exact e
theorem pS {elt t1 i1 t2 i2 : Expr} {f1 f2 : List Expr} {scope : Scope} {pos : Pos} {tg cs : List Str} {wi wi2 : TI} {g g2 : TG} {tc tc2 : TT} {te : TE} (S : aL X scope tg cs ix) (hcalm : X.calm = true) (kg : kK tg.length ix g g2)
    (hi : PI X t1 i1 wi) (hg : ∀ C fp s H, PG (ak X scope (tg ++ cs) C fp s H) t1 g) (hc : ∀ C fp s H, PTs (ak X scope (tg ++ cs) C fp s H) f1 tc) (hi2 : ∀ C fp s H, PI (ak X scope (tg ++ cs) C fp s H) t2 i2 wi2) (hg2 : ∀ C fp s H, PG (ak X scope (tg ++ cs) C fp s H) t2 g2) (hc2 : ∀ C fp s H, PTs (ak X scope (tg ++ cs) C fp s H) f2 tc2) (he : ∀ C fp s H, PE (ak X scope (tg ++ cs) C fp s H) elt te)
    (hs : ∀ x, foldedSetIterable i1 X.env x = pure x := by intro _; rfl) (hs2 : ∀ (e : Env) x, foldedSetIterable i2 e x = pure x := by intro _ _; rfl) : PE X (two_of elt t1 i1 t2 i2 f1 f2 scope pos) (pR wi tg.length ix g tc wi2 g2 tc2 te) := by
  intro pins s σ H Q I h
  rw [eval_ListComp]
  refine wpAny_comprehension_free (use := none) (cl := aV X.env scope.names []) rfl hs (cC fun n hn => I.ok.has n (S.out n hn)) S.kind S.names ?_
  refine wpAny_mono (hi pins s σ H _ I h) (fun v s1 h1 => wpAny_mono h1 (fun itv s2 h2 => ?_) fun _ _ e => e) fun _ _ e => e
  obtain ⟨it, fp, tn, J, H2, rfl, I2, T, st2, fpk, W, ⟨m0, w0⟩, turn⟩ := h2
  refine wpAny_newObj_type (wpAny_newFunctionEnv S.nocell (by intro y hy; simp at hy) (fun h1 hns1 hsb1 => ?_) S.kind)
  dsimp only at hns1 hsb1 ⊢
  generalize hP : s2.heap.push { cls := .type "list", dict := none, data := .seq ([] : List Value).toArray } = P2 at hns1 hsb1 ⊢
  have hCs : P2.objs.size = s2.heap.objs.size + 1 := by rw [<- hP, Heap.size_push]
  have hDC : s2.heap.objs.size ≠ P2.objs.size := by rw [hCs]; exact Nat.ne_of_lt (Nat.lt_succ_self _)
  have hCle : s2.heap.objs.size <= P2.objs.size := by rw [hCs]; exact Nat.le_succ _
  generalize hCg : P2.objs.size = C at *
  have old : ∀ b o, s2.heap.get? b = some o -> h1.get? b = some o := fun b o e => hsb1.extBut b o (Nat.ne_of_lt (Nat.lt_of_lt_of_le (Heap.lt_size e) hCle)) (Heap.get?_push_of_some _ (hP ▸ Heap.get?_push_of_some _ e))
  generalize hDg : s2.heap.objs.size = D at *
  have hD0 : h1.get? D = some { cls := .type "list", data := .seq ([] : List Value).toArray 0 } := hsb1.extBut _ _ hDC (Heap.get?_push_of_some _ (hP ▸ hDg ▸ Heap.get?_push_size _ rfl))
  have nC : H2 C = none := I2.hok.fresh (by rw [hDg]; exact hCle)
  have nD : H2 D = none := I2.hok.fresh (by rw [hDg]; exact Nat.le_refl _)
  have fo : ∀ b ∈ fp, ∃ o, s2.heap.get? b = some o := fun b hb => let ⟨o, e, _⟩ := T.obj _ _ st2 b hb; ⟨o, e⟩
  have Dfp : D ∉ fp := fun z => by
    obtain ⟨o, e⟩ := fo D z
    have := Heap.lt_size e
    rw [hDg] at this
    exact absurd this (Nat.lt_irrefl _)
  have Dfs : D ∉ frs X.stack := fun z => by
    rcases List.mem_cons.mp (I2.stkSub D z) with e | e
    · have := I2.lt
      rw [<- e, hDg] at this
      exact absurd this (Nat.lt_irrefl _)
    · exact I2.nofs (by rw [hDg]; exact Nat.le_refl _) e
  have DcY : ∀ x c, (aV X.env scope.names []).lookup x = some c -> c ≠ D := fun x c e => by
    rcases cj (PySem.mem_of_lookup e) with h | h
    · cases h
    · exact (I2.fpOk (H' := H2) (b := D) (by rw [hDg]; exact Nat.le_refl _) nD).2.2.2.2.1 x c h
  -- the block's context
  have Yok : ∀ s4 : Shared, s4 = { s2 with heap := h1, toks := s2.toks + ([] : List (Str × Value)).length } -> Inv (ak X scope (tg ++ cs) C fp s2 H2) [] (capt tg.length ix σ) H2 s4 := by
    rintro s4 rfl
    exact eD S I2 fpk fo (by rw [hDg]; exact hCle) old (by simpa using hns1) rfl I2.bare nC
  -- the loop
  have loop : ∀ s4 : Shared, s4 = { s2 with heap := h1, toks := s2.toks + ([] : List (Str × Value)).length } ->
      codeAny (model X.prog X.w) X.A (.compLoop (two_of elt t1 i1 t2 i2 f1 f2 scope pos) 0 (.ref it) (.ref D) (compEnvC scope (aV X.env scope.names []) C X.env)) (compPost (model X.prog X.w) X.A X.xe none (EP X pins σ Q) (.ref D) C) s4 := by
    intro s4 e4
    refine codeAny_loop rfl (fun n s' => ∃ i ys its k H', Inv (ak X scope (tg ++ cs) C fp s2 H2) [] (capt tg.length ix σ) H' s' /\ tn i s'.heap /\ (∀ b ∈ fp, H' b = none) /\ H' D = none /\ s'.heap.get? D = some (lso its k) /\ Vals ys its /\ W i n ys H')
      ?_ m0 ⟨0, [], [], 0, H2, Yok s4 e4, ?_, fun b hb => (fpk b hb).1, nD, by rw [e4]; exact hD0, .nil, w0⟩
    · rintro n s5 ⟨i, ys, its, k, H5, I5, st5, fr5, d5, o5, v5, w5⟩
      show wpAny _ X.A ((compTurn (two_of elt t1 i1 t2 i2 f1 f2 scope pos) 0 (.ref it) (.ref D) (compEnvC scope (aV X.env scope.names []) C X.env)).onRaise (fun x => do noteFrame x (compEnvC scope (aV X.env scope.names []) C X.env); theTreesLotGoes x)) _ _ s5
      refine wpAny_noted ?_
      rw [pO]
      have pin0 : Inv (ak X scope (tg ++ cs) C fp s2 H2) [(D, (lso its k))] (capt tg.length ix σ) H5 s5 := I5.pins_of fun p hp => by
        have e : p = (D, (lso its k)) := by simpa using hp
        subst e
        exact ⟨o5, d5, hDC, Dfs, fun v z => by have z' : Data.seq _ _ = Data.cell v := z; cases z'⟩
      have fpY : ∀ {H' : Hp}, (∀ b ∈ fp, H' b = none) -> ∀ b ∈ fp, dw (ak X scope (tg ++ cs) C fp s2 H2) [(D, (lso its k))] H' b := fun hn b hb =>
        ⟨hn b hb, (I5.ok.exf b hb).1, fun z => I5.ok.exfs b hb z, .inl hb, (I5.ok.exf b hb).2, fun p hp z => by
          have hp : p ∈ ([] : List (Addr × Obj)) ++ [(D, (lso its k))] := hp
          have e : p = (D, (lso its k)) := by simpa using hp
          subst e
          have z : D = b := z
          exact Dfp (z ▸ hb)⟩
      refine wpAny_bind (wpAny_standAt (wpAny_bind ?_))
      rcases turn i n ys H5 w5 with ⟨stop, hz, qn⟩ | ⟨go, Nx, hN, step⟩
      · refine thn (T.done (ak X scope (tg ++ cs) C fp s2 H2) rfl rfl rfl hcalm i _ s5 _ H5 _ pin0 (fpY fr5) st5 stop) fun r s6 zr1 => ?_
        obtain ⟨hr, I6⟩ := zr1
        subst hr
        refine wpAny_pure ?_
        obtain ⟨mC, hnsC, _⟩ := id I6.loc
        refine ⟨mC, hnsC, fun h' sb => ?_⟩
        have IX : Inv X pins σ H5 s6 := I2.call' (ch := fp) I6.os I6.base I6.hok I6.bare fun b hb => let ⟨_, a1, _, a3, a4, a5⟩ := fpk b hb; ⟨a3, a1, a4, a5⟩
        obtain ⟨_, c1, _, c3, c4, c5⟩ := I2.fpOk (H' := H5) (b := C) (by rw [hDg]; exact hCle) I6.free
        have IX2 : Inv X pins σ H5 { s6 with heap := h' } := IX.turned (t' := s6.toks) (fun b o hb e => (sb.2 b hb).trans e) I6.free c1 c3 c4 c5
        obtain ⟨_, b1, _, b3, b4, b5⟩ := I2.fpOk (H' := H5) (b := D) (by rw [hDg]; exact Nat.le_refl _) d5
        have gD : h'.get? D = some (lso its k) := (sb.2 D hDC).trans (I6.pin (D, (lso its k)) (List.mem_append_right _ List.mem_cons_self)).1
        exact ⟨.ref D, upd H5 D (.lst ys), IX2.track d5 (by rw [<- hDg]; exact I2.sz) b1 b4 b5 ⟨hz, its, k, v5, gD⟩, rfl, qn D d5⟩
      · refine thn (T.item (ak X scope (tg ++ cs) C fp s2 H2) rfl rfl rfl hcalm i _ s5 _ H5 _ pin0 (fpY fr5) st5 go) fun r s6 zr1 => ?_
        obtain ⟨u, hr, h6⟩ := zr1
        subst hr
        refine wpAny_bind (thn h6 fun _ s7 zr1 => ?_)
        obtain ⟨x, H7, I7, r7, y7, st7, fr7⟩ := zr1
        have I7' := I7.pinned (fpY fr7) (T.obj _ _ st7)
        -- the next turn
        have again : ∀ {σ2 : St} {H8 : Hp} {s8 : Shared} {ys' : List V} {its' : List Value} {k' : Nat} , Inv (ak X scope (tg ++ cs) C fp s2 H2) [] σ2 H8 s8 -> (σ2.length = (capt tg.length ix σ).length /\ ∀ (i : Nat) (v : V), (capt tg.length ix σ)[i]? = some (some v) -> σ2[i]? = some (some v)) ->
            (∀ b ∈ fp, ∀ o, s7.heap.get? b = some o -> s8.heap.get? b = some o) -> (∀ b ∈ fp, H8 b = none) -> H8 D = none -> s8.heap.get? D = some (lso its' k') -> Vals ys' its' -> Nx ys' H8 ->
            ∃ m, m < n /\ ∃ i ys its k H', Inv (ak X scope (tg ++ cs) C fp s2 H2) [] (capt tg.length ix σ) H' s8 /\ tn i s8.heap /\ (∀ b ∈ fp, H' b = none) /\ H' D = none /\ s8.heap.get? D = some (lso its k) /\ Vals ys its /\ W i m ys H' := by
          intro σ2 H8 s8 ys' its' k' I8 kp fk fn dn dg vv nx
          obtain ⟨m', hm, w8⟩ := hN ys' H8 nx
          exact ⟨m', hm, i + 1, ys', its', k', H8, I8.weak kp.1.symm kp.2, T.keep _ _ _ st7 fk, fn, dn, dg, vv, w8⟩
        refine wpAny_bind (wpAny_mono (hg C fp s2 H2 _ s7 _ H7 x u _ I7' r7 (kg x σ H7 _ (step x H7 y7))) (fun _ s8 zr1 => ?_) fun _ _ z => z.elim)
        obtain ⟨σ8, H8, I8, ⟨kp8, kb8⟩, q8⟩ := zr1
        refine wpAny_bind (wpAny_mono (hc C fp s2 H2 _ s8 σ8 H8 _ I8 q8) (fun ok s9 zr1 => ?_) fun _ _ z => z.elim)
        obtain ⟨H9, I9, q9⟩ := zr1
        have pinsOf : ∀ {σ' : St} {H' : Hp} {s' : Shared}, Inv (ak X scope (tg ++ cs) C fp s2 H2) ([(D, (lso its k))] ++ bP fp s7.heap) σ' H' s' ->
            (∀ b ∈ fp, ∀ o, s7.heap.get? b = some o -> s'.heap.get? b = some o) /\ (∀ b ∈ fp, H' b = none) /\ H' D = none /\ s'.heap.get? D = some (lso its k) := by
          intro σ' H' s' I'
          refine ⟨fun b hb o e => (I'.pin (b, o) (List.mem_append_right _ (List.mem_append_right _ (aG hb e)))).1, fun b hb => ?_, (I'.pin (D, (lso its k)) (List.mem_append_right _ (List.mem_append_left _ List.mem_cons_self))).2.1, (I'.pin (D, (lso its k)) (List.mem_append_right _ (List.mem_append_left _ List.mem_cons_self))).1⟩
          obtain ⟨o, e, d⟩ := T.obj _ _ st7 b hb
          exact (I'.pin (b, o) (List.mem_append_right _ (List.mem_append_right _ (aG hb e)))).2.1
        cases ok with
        | false =>
          obtain ⟨p1, p2, p3, p4⟩ := pinsOf I9
          exact wpAny_pure ⟨rfl, again (I9.pins_of fun p hp => nomatch hp) kp8 p1 p2 p3 p4 v5 q9⟩
        | true =>
          have q9 : tIn wi2 g2 tc2 te σ8 ys Nx H9 := q9
          obtain ⟨p1, p2, p3, p4⟩ := pinsOf I9
          have I9' : Inv (ak X scope (tg ++ cs) C fp s2 H2) (bP fp s7.heap) σ8 H9 s9 := I9.pins_of fun p hp => I9.pin p (List.mem_append_right _ (List.mem_append_right _ hp))
          refine sQ (Y := ak X scope (tg ++ cs) C fp s2 H2) hcalm (fun _ _ z => z) (hi2 C fp s2 H2) (hg2 C fp s2 H2) (hc2 C fp s2 H2) (he C fp s2 H2) kb8 I9' hDC Dfs (by show s2.heap.objs.size <= D; rw [hDg]; exact Nat.le_refl _) DcY (fun p hp z => ?_) p3 p4 v5 q9 (hs2 _) fun s12 zs its' k' H12 I12 d12 g12 v12 n12 => ?_
          · have hp : p ∈ bP fp s7.heap := hp
            exact Dfp (z ▸ (dW hp).1)
          · have pn := fun (b : Addr) (hb : b ∈ fp) (o : Obj) (e : s7.heap.get? b = some o) => I12.pin (b, o) (List.mem_append_right _ (aG hb e))
            refine wpAny_pure ⟨rfl, again (its' := its') (I12.pins_of fun p hp => nomatch hp) kp8 (fun b hb o e => (pn b hb o e).1) (fun b hb => ?_) d12 g12 v12 n12⟩
            obtain ⟨o, e, _⟩ := T.obj _ _ st7 b hb
            exact (pn b hb o e).2.1
    · rw [e4]; exact T.keep _ _ _ st2 fun b _ o e => old b o e
  exact codeAny_compStart_list (loop _ rfl) (T.self _ 0 _ _ _ (T.keep _ _ _ st2 fun b _ o e => old b o e) (loop _ rfl))
end
end L2
namespace VL
open PySem L2 PySem.W
section
variable {K : PySem.W.Frag} {H H4 H0 : Hp} {Z : AP} {σ σ4 σ5 : St} {S S4 : List Sl}
noncomputable def Cw : Sl -> Sl -> Sl
 | .no, _ => .no
 | _, b => b
noncomputable def msk (S4 S : List Sl) : List Sl := List.zipWith Cw S4 S
theorem gv {i : Nat} {s : Sl} (h : (msk S4 S)[i]? = some s) : s = .no \/ S[i]? = some s /\ ∃ t, S4[i]? = some t /\ t ≠ .no := by
 unfold msk at h
 rw [List.getElem?_zipWith] at h
 cases h1 : S4[i]? with
 | none => rw [h1] at h; cases h
 | some t =>
  cases h2 : S[i]? with
  | none => rw [h1, h2] at h; cases h
  | some u =>
   rw [h1, h2] at h
   cases t with
   | no => cases h; exact .inl rfl
   | val _ | fre _ | own _ | pen _ _ | odi _ _ | obj _ => cases h; exact .inr ⟨rfl, _, rfl, fun z => nomatch z⟩
theorem OK.forget (k4 : OK K H0 Z σ4 H4 S4) (k : OK K H0 Z σ5 H S) (st : Step Z σ4 S4 H4 σ5 S H) (hl : σ5.length = σ4.length) (hσ : ∀ (i : Nat) (v : V), σ4[i]? = some (some v) -> σ5[i]? = some (some v)) :
  OK K H0 Z σ4 H (msk S4 S) /\ Step Z σ4 S4 H4 σ4 (msk S4 S) H /\ ∀ a, NM Z σ5 S a -> NM Z σ4 (msk S4 S) a := by
 have at4 : ∀ {i : Nat} {t : Sl}, S4[i]? = some t -> t ≠ .no -> ∃ v, σ4[i]? = some (some v) := fun {i t} e hn => by
  obtain ⟨o, h1, q⟩ := k4.ownAt e
  cases t with
  | no => exact absurd rfl hn
  | val _ => obtain ⟨v, rfl, _⟩ := q; exact ⟨v, h1⟩
  | fre _ => obtain ⟨v, rfl, _⟩ := q; exact ⟨v, h1⟩
  | own _ => obtain ⟨a, _, rfl, _⟩ := q; exact ⟨_, h1⟩
  | pen _ _ => obtain ⟨a, rfl, _⟩ := q; exact ⟨_, h1⟩
  | odi _ _ => obtain ⟨a, _, rfl, _⟩ := q; exact ⟨_, h1⟩
  | obj _ => obtain ⟨a, rfl, _⟩ := q; exact ⟨_, h1⟩
 have mo : ∀ a, Mo Z σ4 (msk S4 S) a -> Mo Z σ5 S a := fun a z => by
  rcases z with ⟨i, s, h1, h2, h3⟩ | z
  ·rcases gv h1 with rfl | ⟨h4, _⟩
   ·cases h2
   ·exact .inl ⟨i, s, h4, h2, hσ i _ h3⟩
  ·exact .inr z
 have nm : ∀ a, NM Z σ5 S a -> NM Z σ4 (msk S4 S) a := fun a n z => n (mo a z)
 have hm : ∀ a, NM Z σ5 S a -> H a ≠ none -> NM Z σ4 (msk S4 S) a /\ H a = H a := fun a n _ => ⟨nm a n, rfl⟩
 refine ⟨⟨?_, fun i o s h1 h2 => ?_, fun i j a s t h1 h2 m1 m2 h3 h4 => ?_, k.dom, k.zl, fun i s a h1 h2 h3 => ?_⟩, ⟨fun a n e => ⟨(st.1 a n e).1, nm a (st.1 a n e).2⟩, st.2.1, st.2.2⟩, nm⟩
 ·have := k4.len; have := k.len
  unfold msk
  rw [List.length_zipWith]; lia
 ·rcases gv h2 with rfl | ⟨h4, t, h5, h6⟩
  ·trivial
  ·obtain ⟨v, e⟩ := at4 h5 h6
   rw [e] at h1; cases h1
   have q := k.at_ i _ s (hσ i v e) h4
   cases s with
   | no => trivial
   | val d => obtain ⟨v, e, r⟩ := q; exact ⟨v, e, r.mono hm fun _ x => x⟩
   | fre d => obtain ⟨v, e, r⟩ := q; exact ⟨v, e, r.mono hm fun _ x => x⟩
   | own ds => obtain ⟨a, vs, e, e', e0, r⟩ := q; exact ⟨a, vs, e, e', e0, r.mono hm fun _ x => x⟩
   | pen ad ns => exact q
   | odi ks ds => obtain ⟨a, vs, e, e', e0, ek, r⟩ := q; exact ⟨a, vs, e, e', e0, ⟨ek.1, ek.2.mono hm fun _ x => x⟩, r.mono hm fun _ x => x⟩
   | obj k => obtain ⟨a, e, e0, r⟩ := q; exact ⟨a, e, e0, k.mono hm rfl r⟩
 ·rcases gv h1 with rfl | ⟨h1, _⟩
  ·cases m1
  ·rcases gv h2 with rfl | ⟨h2, _⟩
   ·cases m2
   ·exact k.inj i j a s t h1 h2 m1 m2 (hσ i _ h3) (hσ j _ h4)
 ·rcases gv h1 with rfl | ⟨h1, _⟩
  ·cases h2
  ·exact k.nz i s a h1 h2 (hσ i _ h3)
end
section
variable {K : PySem.W.Frag} {X : Cx} {elt t1 i1 t2 i2 : Expr} {f1 f2 : List Expr} {scope : Scope} {pos : Pos}
noncomputable def pT (vi : VTN) (n : Nat) (ix : List Nat) (vg : VG) (vt : VTT) (vi2 : VTN) (vg2 : VG) (vt2 : VTT) (ve : VT) : VTN := fun S Q => vi S fun ds S1 => ds.length <= 1000 /\ ∃ Iv : Nat -> List D -> List Sl -> Prop, Iv 0 [] S1 /\
 (∀ i d ys S2, ds[i]? = some d -> Iv i ys S2 -> vg d (aO n ix S2) fun S3 => vt S3 fun b S4 => if b = true then (vi2 S4 fun es S5 => es.length <= 1000 /\ ∃ Jv : Nat -> List D -> List Sl -> Prop, Jv 0 ys S5 /\
  (∀ j e zs S6, es[j]? = some e -> Jv j zs S6 -> vg2 e S6 fun S7 => vt2 S7 fun b2 S8 => if b2 = true then ve S8 fun r S9 => ∃ x, r = .d x /\ Jv (j + 1) (zs ++ [x]) (msk S6 S9) else Jv (j + 1) zs (msk S6 S8)) /\ ∀ zs S6, Jv es.length zs S6 -> Iv (i + 1) zs (backS n ix S2 S6))
  else Iv (i + 1) ys (backS n ix S2 S4)) /\
 ∀ ys S2, Iv ds.length ys S2 -> Q ys S2
theorem pU {tg cs : List Str} {wi wi2 : TI} {vi vi2 : VTN} {g g2 : TG} {vg vg2 : VG} {tc tc2 : TT} {vt vt2 : VTT} {te : TE} {ve : VT} (Sc : aL X scope tg cs ix) (hcalm : X.calm = true) (kg : kK tg.length ix g g2) (hnd : ix.Nodup)
  (hi : VI K X t1 i1 wi vi) (hg : ∀ C fp s H, VGe K (ak X scope (tg ++ cs) C fp s H) t1 g vg) (hc : ∀ C fp s H, VTs K (ak X scope (tg ++ cs) C fp s H) f1 tc vt) (hi2 : ∀ C fp s H, VI K (ak X scope (tg ++ cs) C fp s H) t2 i2 wi2 vi2)
  (hg2 : ∀ C fp s H, VGe K (ak X scope (tg ++ cs) C fp s H) t2 g2 vg2) (hc2 : ∀ C fp s H, VTs K (ak X scope (tg ++ cs) C fp s H) f2 tc2 vt2) (he : ∀ C fp s H, VE K (ak X scope (tg ++ cs) C fp s H) true elt te ve)
  (hs : ∀ x, foldedSetIterable i1 X.env x = pure x := by intro _; rfl) (hs2 : ∀ (e : Env) x, foldedSetIterable i2 e x = pure x := by intro _ _; rfl) : VN K X (two_of elt t1 i1 t2 i2 f1 f2 scope pos) (pR wi tg.length ix g tc wi2 g2 tc2 te) (pT vi tg.length ix vg vt vi2 vg2 vt2 ve) := by
 have sg : SndG K g vg := (hg 0 [] X.s₀ (fun _ => none)).snd
 have sc : SndT K tc vt := (hc 0 [] X.s₀ (fun _ => none)).snd
 have si2 : SndI K wi2 vi2 := (hi2 0 [] X.s₀ (fun _ => none)).snd
 have sg2 : SndG K g2 vg2 := (hg2 0 [] X.s₀ (fun _ => none)).snd
 have sc2 : SndT K tc2 vt2 := (hc2 0 [] X.s₀ (fun _ => none)).snd
 have se : SndE K true te ve := (he 0 [] X.s₀ (fun _ => none)).snd
 have hsz := sizeLine_eq
 refine ⟨pS Sc hcalm kg hi.pi (fun C fp s H => (hg C fp s H).pg) (fun C fp s H => (hc C fp s H).pe) (fun C fp s H => (hi2 C fp s H).pi) (fun C fp s H => (hg2 C fp s H).pg) (fun C fp s H => (hc2 C fp s H).pe) (fun C fp s H => (he C fp s H).pe) hs hs2, fun H0 Z σ H S Q C k t hq => ?_⟩
 refine hi.snd H0 Z σ H S _ _ k t fun J ds H1 S1 k1 st1 gd zr1 => ?_
 obtain ⟨hl, Iv, i0, hs, hd⟩ := zr1
 refine ⟨fun i m ys H => m = ds.length - i /\ i <= ds.length /\ ys.length <= 1000 * i /\ ∃ S2 zs, OK K H0 Z σ H S2 /\ Step Z σ S1 H1 σ S2 H /\ Reps K (NM Z σ S2) (Fr H0) H ys zs /\ Iv i zs S2, ⟨ds.length, by simp, Nat.zero_le _, Nat.le_refl _, S1, [], k1, .refl, .nil, i0⟩, ?_⟩
 rintro i m ys H2 ⟨rfl, hi, hy, S2, zs, k2, st2, rz, p⟩
 obtain ⟨g1, g2', g3⟩ := gd σ S2 H2 (fun _ => k2.nm) st2.1 i
 by_cases hlt : i < ds.length
 ·refine .inr ⟨g1 hlt, fun ys' H' => ys'.length <= 1000 * (i + 1) /\ ∃ S' zs', OK K H0 Z σ H' S' /\ Step Z σ S1 H1 σ S' H' /\ Reps K (NM Z σ S') (Fr H0) H' ys' zs' /\ Iv (i + 1) zs' S', fun ys' H' zt1 => by obtain ⟨p1, p2⟩ := zt1; exact ⟨ds.length - (i + 1), by lia, rfl, hlt, p1, p2⟩, fun x H3 y => ?_⟩
  obtain ⟨hgr, d, hd', rd⟩ := g2' x H3 y hlt
  replace k2 := k2.grow hgr
  replace st2 := st2.trans (.grow hgr)
  replace rz := rz.step (.grow hgr)
  have kc := k2.capt (n := tg.length) hnd
  have rd' : Rep K (NM (Zin Z ix σ S2) (L2.capt tg.length ix σ) (aO tg.length ix S2)) AnyF H3 x d := rd.mono (fun a n _ => ⟨fun z => n (di.mp z), rfl⟩) fun _ x => x
  have rzc : Reps K (NM (Zin Z ix σ S2) (L2.capt tg.length ix σ) (aO tg.length ix S2)) (Fr H0) H3 ys zs := rz.mono (fun a n _ => ⟨fun z => n (di.mp z), rfl⟩) fun _ x => x
  have h1 := sg H0 _ _ H3 _ x d _ (fun σ4 H4 => ∃ S4, OK K H0 (Zin Z ix σ S2) σ4 H4 S4 /\ Step (Zin Z ix σ S2) (L2.capt tg.length ix σ) (aO tg.length ix S2) H3 σ4 S4 H4 /\ vt S4 fun b S5 => if b = true then (vi2 S5 fun es S5 => es.length <= 1000 /\ ∃ Jv : Nat -> List D -> List Sl -> Prop, Jv 0 zs S5 /\
   (∀ j e zs S6, es[j]? = some e -> Jv j zs S6 -> vg2 e S6 fun S7 => vt2 S7 fun b2 S8 => if b2 = true then ve S8 fun r S9 => ∃ x, r = .d x /\ Jv (j + 1) (zs ++ [x]) (msk S6 S9) else Jv (j + 1) zs (msk S6 S8)) /\ ∀ zs S6, Jv es.length zs S6 -> Iv (i + 1) zs (backS tg.length ix S2 S6)) else Iv (i + 1) zs (backS tg.length ix S2 S5)) kc rd' (hs i d zs S2 hd' p) (fun σ4 H4 S4 k4 st4 q4 => ⟨S4, k4, st4, q4⟩)
  have h2 := kg x σ H3 _ h1
  refine (hg 0 [] X.s₀ (fun _ => none)).mono _ _ _ _ _ ?_ h2
  rintro σ4 H4 ⟨⟨⟨hl4, hσ4⟩, kb⟩, S4, k4, st4, q4⟩
  refine sc H0 _ σ4 H4 S4 _ _ k4 q4 fun bb H5 S5 k5 st5 q5 => ?_
  cases bb with
  | false =>
   rw [if_neg Bool.false_ne_true] at q5 ⊢
   obtain ⟨kb', sb, nb⟩ := k2.back k5 (st4.trans st5) hσ4
   exact ⟨by lia, _, zs, kb', st2.trans sb, rz.step sb, q5⟩
  | true =>
   rw [if_pos rfl] at q5 ⊢
   refine si2 H0 _ σ4 H5 S5 _ _ k5 q5 fun J2 es H6 S6 k6 st6 gd2 zr1 => ?_
   obtain ⟨hl2, Jv, j0, hj, hd2⟩ := zr1
   have stA := (st4.trans st5).trans st6
   refine ⟨fun j m us H => m = es.length - j /\ j <= es.length /\ us.length <= 1000 * i + j /\ ∃ S7 ws, OK K H0 (Zin Z ix σ S2) σ4 H S7 /\ Step (Zin Z ix σ S2) σ4 S6 H6 σ4 S7 H /\ Reps K (NM (Zin Z ix σ S2) σ4 S7) (Fr H0) H us ws /\ Jv j ws S7, ⟨es.length, by simp, Nat.zero_le _, by lia, S6, zs, k6, .refl, rzc.step stA, j0⟩, ?_⟩
   rintro j m us H7 ⟨rfl, hjl, hul, S7, ws, k7, st7, rw7, p7⟩
   obtain ⟨a1, a2, a3⟩ := gd2 σ4 S7 H7 (fun _ => k7.nm) st7.1 j
   by_cases hlt2 : j < es.length
   ·refine .inr ⟨a1 hlt2, by lia, fun us' H' => us'.length <= 1000 * i + (j + 1) /\ ∃ S' ws', OK K H0 (Zin Z ix σ S2) σ4 H' S' /\ Step (Zin Z ix σ S2) σ4 S6 H6 σ4 S' H' /\ Reps K (NM (Zin Z ix σ S2) σ4 S') (Fr H0) H' us' ws' /\ Jv (j + 1) ws' S', fun us' H' zt1 => by obtain ⟨p1, p2⟩ := zt1; exact ⟨es.length - (j + 1), by lia, rfl, hlt2, p1, p2⟩, fun x2 H8 y2 => ?_⟩
    obtain ⟨hgr, e, he', re⟩ := a2 x2 H8 y2 hlt2
    replace k7 := k7.grow hgr
    replace st7 := st7.trans (.grow hgr)
    replace rw7 := rw7.step (.grow hgr)
    have h3 := sg2 H0 _ σ4 H8 S7 x2 e _ (fun σ5 H9 => ∃ S9, OK K H0 (Zin Z ix σ S2) σ5 H9 S9 /\ Step (Zin Z ix σ S2) σ4 S7 H8 σ5 S9 H9 /\ vt2 S9 fun b2 S8 => if b2 = true then ve S8 fun r S9 => ∃ x, r = .d x /\ Jv (j + 1) (ws ++ [x]) (msk S7 S9) else Jv (j + 1) ws (msk S7 S8)) k7 re (hj j e ws S7 he' p7) (fun σ5 H9 S9 k9 st9 q9 => ⟨S9, k9, st9, q9⟩)
    refine (hg2 0 [] X.s₀ (fun _ => none)).mono _ _ _ _ _ ?_ (kb x2 H8 _ h3)
    rintro σ5 H9 ⟨⟨hl5, hσ5⟩, S9, k9, st9, q9⟩
    refine sc2 H0 _ σ5 H9 S9 _ _ k9 q9 fun b2 H10 S10 k10 st10 q10 => ?_
    cases b2 with
    | false =>
     rw [if_neg Bool.false_ne_true] at q10 ⊢
     obtain ⟨kf, sf, nf⟩ := k7.forget k10 (st9.trans st10) hl5 hσ5
     exact ⟨by lia, _, ws, kf, st7.trans sf, rw7.step sf, q10⟩
    | true =>
     rw [if_pos rfl] at q10 ⊢
     refine se H0 _ σ5 H10 S10 _ _ k10 q10 fun vv H11 r S11 k11 st11 rr zr1 => ?_
     obtain ⟨xx, er, q11⟩ := zr1
     subst er
     obtain ⟨kf, sf, nf⟩ := k7.forget k11 ((st9.trans st10).trans st11) hl5 hσ5
     exact ⟨by simp; lia, _, ws ++ [xx], kf, st7.trans sf, Reps.append (rw7.step sf) (.cons (Rep.mono (fun a n _ => ⟨nf a n, rfl⟩) (fun _ x => x rfl) rr) .nil), q11⟩
   ·have e : j = es.length := by lia
    obtain ⟨kb', sb, nb⟩ := k2.back k7 (stA.trans st7) hσ4
    exact .inl ⟨a3 e, by lia, _, ws, kb', st2.trans sb, rw7.mono (fun a n _ => ⟨nb a n, rfl⟩) fun _ x => x, hd2 ws S7 (by rw [<- e]; exact p7)⟩
 ·have e : i = ds.length := by lia
  refine .inl ⟨g3 e, by lia, fun l hp => ?_⟩
  exact hq l ys zs H2 _ S2 k2 (st1.trans st2) hp (aC hp) aw (bA hp (rz.mono (fun _ n _ => ⟨n, rfl⟩) fun _ x _ => x)) (hd zs S2 (by rw [<- e]; exact p))
end
end VL
end
section
namespace VL
open PySem L2 PySem.W
section
variable {va vb : VT} {vn : VTN} {S : List Sl} {Q : VR -> List Sl -> Prop} {i : Nat}
noncomputable def BC (i : Nat) (Q : VR -> List Sl -> Prop) : List D -> List Sl -> Prop := fun ds2 S1 => ∃ ds, S1[i]? = some (.own ds) /\ ds.length + ds2.length <= 1000000 /\ Q (.d .non) (S1.set i (.own (ds ++ ds2)))
theorem BD (e : S[i]? = some (.own ds)) (h : vn S (BC i Q)) : BB i vn S Q := ⟨⟨ds, e⟩, h⟩
theorem pV {ds ds2 : List D} (e : S[i]? = some (.own ds)) (e2 : ds.length + ds2.length <= 1000000) (h : Q (.d .non) (S.set i (.own (ds ++ ds2)))) : BC i Q ds2 S := ⟨ds, e, e2, h⟩
end
section
variable {α β : Type} {n : Nat} {ix : List Nat} {g g2 : VG} {vt vt2 : VTT} {vi vi2 : VTN} {ve vk vv : VT} {S : List Sl}
noncomputable def yE (rk : VR) (A : List Int -> D -> List Sl -> Prop) : VR -> List Sl -> Prop := fun rv S6 => ∃ ms x, get S6 rk = some (kT ms) /\ rv = .d x /\ A ms x S6
noncomputable def yF (vv : VT) (A : List Int -> D -> List Sl -> Prop) : VR -> List Sl -> Prop := fun rk S5 => vv S5 (yE rk A)
noncomputable def sR (vk vv : VT) (A : List Int -> D -> List Sl -> Prop) (B : List Sl -> Prop) : Bool -> List Sl -> Prop := fun b S4 => if b = true then vk S4 (yF vv A) else B S4
noncomputable def pW (n : Nat) (ix : List Nat) (g : VG) (vt : VTT) (vk vv : VT) (Q : List (List Int × D) -> List Sl -> Prop) : List D -> List Sl -> Prop := fun ds S1 => ds.length <= 1000000 /\ ∃ Iv : Nat -> List (List Int × D) -> List Sl -> Prop, Iv 0 [] S1 /\
 (∀ i d kvs S2, ds[i]? = some d -> Iv i kvs S2 -> g d (aO n ix S2) fun S3 => vt S3 (sR vk vv (fun ms x S6 => Iv (i + 1) (putA kvs ms x) (backS n ix S2 S6)) fun S4 => Iv (i + 1) kvs (backS n ix S2 S4))) /\ ∀ kvs S2, Iv ds.length kvs S2 -> Q kvs S2
theorem sS {Q : List (List Int × D) -> List Sl -> Prop} (h : vi S (pW n ix g vt vk vv Q)) : kJ vi n ix g vt vk vv S Q := h
theorem yG {A : List Int -> D -> List Sl -> Prop} {B : List Sl -> Prop} (h : vk S (yF vv A)) : sR vk vv A B true S := by unfold sR; rw [if_pos rfl]; exact h
theorem yH {A : List Int -> D -> List Sl -> Prop} {rk : VR} (h : vv S (yE rk A)) : yF vv A rk S := h
theorem yI {A : List Int -> D -> List Sl -> Prop} {rk : VR} {x : D} (e : get S rk = some (kT ms)) (h : A ms x S) : yE rk A (.d x) S := ⟨ms, x, e, rfl, h⟩
theorem eV {Q : List (List Int × D) -> List Sl -> Prop} {xs : List α} {en f : α -> D} {ky : α -> List Int} (hl : xs.length <= 1000000)
  (h : ∀ x ∈ xs, ∀ (A : List Int -> D -> List Sl -> Prop) (B : List Sl -> Prop), (∀ S5, backS n ix S S5 = S -> A (ky x) (f x) S5) -> g (en x) (aO n ix S) fun S3 => vt S3 (sR vk vv A B))
  (h2 : Q (xs.foldl (fun kvs x => putA kvs (ky x) (f x)) []) S) : pW n ix g vt vk vv Q (xs.map en) S := by
 refine ⟨by simpa using hl, fun i kvs S' => S' = S /\ kvs = (xs.take i).foldl (fun kvs x => putA kvs (ky x) (f x)) [], ⟨rfl, by simp⟩, ?_, ?_⟩
 ·rintro i d kvs S2 e ⟨rfl, rfl⟩
  obtain ⟨x, h1, rfl, hm, ht⟩ := aP e
  refine h x hm _ _ fun S5 e5 => ⟨e5, ?_⟩
  rw [ht, List.foldl_append]
  rfl
 ·rintro kvs S2 ⟨rfl, rfl⟩
  rw [List.length_map, List.take_length]
  exact h2
theorem bN {k c : List Int} : c ∈ (putA kvs k d).map (·.1) ↔ c = k \/ c ∈ kvs.map (·.1) := by
 unfold putA
 split
 ·next h =>
  rw [show (kvs.map fun x => if x.1 = k then (x.1, d) else x).map (·.1) = kvs.map (·.1) from gr kvs k d]
  exact ⟨.inr, fun z => z.elim (fun e => e ▸ h) id⟩
 ·simp [or_comm]
noncomputable def yJ (vg2 : VG) (vt2 : VTT) (ve : VT) (ys : List D) (A : List D -> List Sl -> Prop) : List D -> List Sl -> Prop := fun es S5 => es.length <= 1000 /\ ∃ Jv : Nat -> List D -> List Sl -> Prop, Jv 0 ys S5 /\
 (∀ j e zs S6, es[j]? = some e -> Jv j zs S6 -> vg2 e S6 fun S7 => vt2 S7 (dm ve (fun x S9 => Jv (j + 1) (zs ++ [x]) (msk S6 S9)) fun S8 => Jv (j + 1) zs (msk S6 S8))) /\ ∀ zs S6, Jv es.length zs S6 -> A zs S6
noncomputable def sT (vi2 : VTN) (vg2 : VG) (vt2 : VTT) (ve : VT) (ys : List D) (A : List D -> List Sl -> Prop) (B : List Sl -> Prop) : Bool -> List Sl -> Prop := fun b S4 => if b = true then vi2 S4 (yJ vg2 vt2 ve ys A) else B S4
noncomputable def pX (n : Nat) (ix : List Nat) (g : VG) (vt : VTT) (vi2 : VTN) (vg2 : VG) (vt2 : VTT) (ve : VT) (Q : List D -> List Sl -> Prop) : List D -> List Sl -> Prop := fun ds S1 => ds.length <= 1000 /\ ∃ Iv : Nat -> List D -> List Sl -> Prop, Iv 0 [] S1 /\
 (∀ i d ys S2, ds[i]? = some d -> Iv i ys S2 -> g d (aO n ix S2) fun S3 => vt S3 (sT vi2 vg2 vt2 ve ys (fun zs S6 => Iv (i + 1) zs (backS n ix S2 S6)) fun S4 => Iv (i + 1) ys (backS n ix S2 S4))) /\ ∀ ys S2, Iv ds.length ys S2 -> Q ys S2
theorem sU {Q : List D -> List Sl -> Prop} (h : vi S (pX n ix g vt vi2 g2 vt2 ve Q)) : pT vi n ix g vt vi2 g2 vt2 ve S Q := h
theorem yK {ys : List D} {A : List D -> List Sl -> Prop} {B : List Sl -> Prop} (h : vi2 S (yJ g2 vt2 ve ys A)) : sT vi2 g2 vt2 ve ys A B true S := by unfold sT; rw [if_pos rfl]; exact h
theorem yL {xs : List β} {en f : β -> D} {ys : List D} {A : List D -> List Sl -> Prop} (hl : xs.length <= 1000)
  (h : ∀ x ∈ xs, ∀ (A : D -> List Sl -> Prop) (B : List Sl -> Prop), (∀ S5, msk S S5 = S -> A (f x) S5) -> g2 (en x) S fun S3 => vt2 S3 (dm ve A B)) (h2 : A (ys ++ xs.map f) S) : yJ g2 vt2 ve ys A (xs.map en) S := by
 refine ⟨by simpa using hl, fun j zs S' => S' = S /\ zs = ys ++ (xs.take j).map f, ⟨rfl, by simp⟩, ?_, ?_⟩
 ·rintro i d zs S2 e ⟨rfl, rfl⟩
  obtain ⟨x, h1, rfl, hm, ht⟩ := aP e
  refine h x hm _ _ fun S5 e5 => ⟨e5, ?_⟩
  rw [ht, List.map_append, <- List.append_assoc]
  rfl
 ·rintro zs S2 ⟨rfl, rfl⟩
  rw [List.length_map, List.take_length]
  exact h2
theorem m7 {Q : List D -> List Sl -> Prop} {xs : List α} {en : α -> D} {r : α -> List D} (hl : xs.length <= 1000)
  (h : ∀ x ∈ xs, ∀ (ys : List D) (A : List D -> List Sl -> Prop) (B : List Sl -> Prop), (∀ S5, backS n ix S S5 = S -> A (ys ++ r x) S5) -> g (en x) (aO n ix S) fun S3 => vt S3 (sT vi2 g2 vt2 ve ys A B)) (h2 : Q (xs.flatMap r) S) : pX n ix g vt vi2 g2 vt2 ve Q (xs.map en) S := by
 refine ⟨by simpa using hl, fun i ys S' => S' = S /\ ys = (xs.take i).flatMap r, ⟨rfl, by simp⟩, ?_, ?_⟩
 ·rintro i d ys S2 e ⟨rfl, rfl⟩
  obtain ⟨x, h1, rfl, hm, ht⟩ := aP e
  refine h x hm _ _ _ fun S5 e5 => ⟨e5, ?_⟩
  rw [ht, List.flatMap_append]
  simp
 ·rintro ys S2 ⟨rfl, rfl⟩
  rw [List.length_map, List.take_length]
  exact h2
end
end VL
end
section
namespace L2
open PySem PySem.Spec PyProof.Rows
theorem EV.pick {xs : List (List Int × Addr × Value)} (r : EV es xs) : ∀ {i : Nat} {e : List Int × Addr × V}, es[i]? = some e -> ∃ x, xs[i]? = some x /\ e.2.1 = x.2.1 /\ RelV e.2.2 x.2.2 := by
 induction r with
 | nil => intro i e h; simp at h
 | @cons p q ps qs h t ih =>
  intro i e he
  cases i with
  | zero => simp at he; subst he; exact ⟨q, rfl, h.2.1, h.2.2⟩
  | succ i => simpa using ih (by simpa using he)
end L2
end
section
namespace L2
open PySem PySem.Spec PyProof.Rows
section
variable {prog : Program} {w : World} {A : Around} {E : Value -> Shared -> Prop} {s : Shared}
noncomputable def KyIt (h : Heap) (it d : Addr) (i n ep : Nat) : Prop := h.get? it = some { cls := .type "dict_keyiterator", data := .fields #[.ref d, .int i 0, .int n 0, .int ep 0] }
theorem m8 : Builtin.Dict_items.ownsTuple "dict_keyiterator" = false := by decide
theorem fG {it : Addr} {Q : Nat -> Shared -> Prop} (ty : s.TypeIs (.ref it) "dict_keyiterator") (h : Q 0 s) :
  wpAny (model prog w) A (typeNameOfWhole (.ref it) >>= fun n => pure (if Builtin.Dict_items.ownsTuple n = true then 2 else 0)) Q E s :=
 wpAny_bind (wpAny_typeNameOfWhole_keyiter ty (wpAny_pure (by rw [m8]; exact h)))
theorem sV {it d : Addr} {i ep : Nat} {o : Obj} {es : Array DictEntry} {Q : Option Value -> Shared -> Prop} (hit : KyIt s.heap it d i es.size ep) (ho : s.heap.get? d = some o) (hd : o.data = .dict es ep) (hi : i < es.size)
  (hQ : ∀ h', KyIt h' it d (i + 1) es.size ep -> (∀ b u, b ≠ it -> s.heap.get? b = some u -> h'.get? b = some u) -> Q (some es[i].key) { s with heap := h' }) : wpAny (model prog w) A (pyNext (.ref it)) Q E s := by
 have ty : s.TypeIs (.ref it) "dict_keyiterator" := ⟨_, hit, rfl⟩
 unfold pyNext
 refine wpAny_bind (wpAny_attempt (wpAny_callSpecial?_slot (name := Str.ofString "__next__") ty F.slot_dict_keyiterator_next (wpAny_call_entry F.slot_dict_keyiterator_next ty F.entry_dict_keyiterator_next ?_ (F.args_dict_keyiterator_next_1 _))))
 refine wpAny_bind (wpAny_pure (wpAny_bind (wpAny_bind (fG ty (wpAny_bind (wpAny_fieldsOf hit rfl ?_))))))
 show wpAny _ _ (if (Value.ref d == Value.none) = true then _ else _) _ _ s
 rw [if_neg (fun z : (Value.ref d == Value.none) = true => Bool.false_ne_true z)]
 refine wpAny_bind (wpAny_pure (wpAny_bind (wpAny_dictEntries ho hd ?_)))
 rw [if_neg (by simp)]
 refine wpAny_bind (wpAny_pure (wpAny_bind (wpAny_dictEpoch ho hd ?_)))
 rw [if_neg (by simp)]
 refine wpAny_pure ?_
 have hx : (if ((i : Nat) : Int) < 0 then none else es[((i : Nat) : Int).toNat]?) = some es[i] := by rw [if_neg (by lia), Int.toNat_natCast]; exact Array.getElem?_eq_getElem hi
 dsimp only
 rw [hx]
 refine wpAny_bind (fG ty (wpAny_bind (wpAny_isOneOf_keyiter ty (wpAny_bind (wpAny_setField_rec hit (k := 1) (by simp) fun g e b => ?_)))))
 have e' : KyIt g it d (i + 1) es.size ep := by
  have z : ((i + 1 : Nat) : Int) = (i : Int) + 1 := by lia
  unfold KyIt; rw [z]; exact e
 refine wpAny_bind (wpAny_holding (wpAny_bind (wpAny_isOneOf_keyiter (s := { s with heap := g }) ⟨_, e', rfl⟩ ?_)))
 exact wpAny_pure (wpAny_pure ⟨_, rfl, wpAny_pure (hQ g e' fun c u hn z => (b.2 c hn).trans z)⟩)
theorem yM {it d : Addr} {i ep : Nat} {o : Obj} {es : Array DictEntry} {Q : Option Value -> Shared -> Prop} (hh : A.handled = none) (hit : KyIt s.heap it d i es.size ep) (ho : s.heap.get? d = some o) (hd : o.data = .dict es ep) (hi : es.size <= i)
  (hQ : ∀ h', Heap.ExtBut it s.heap h' -> Q none { s with heap := h' }) : wpAny (model prog w) A (pyNext (.ref it)) Q E s := by
 have ty : s.TypeIs (.ref it) "dict_keyiterator" := ⟨_, hit, rfl⟩
 unfold pyNext
 refine wpAny_bind (wpAny_attempt (wpAny_callSpecial?_slot (name := Str.ofString "__next__") ty F.slot_dict_keyiterator_next (wpAny_call_entry F.slot_dict_keyiterator_next ty F.entry_dict_keyiterator_next ?_ (F.args_dict_keyiterator_next_1 _))))
 refine wpAny_bind (wpAny_pure (wpAny_bind (wpAny_bind (fG ty (wpAny_bind (wpAny_fieldsOf hit rfl ?_))))))
 show wpAny _ _ (if (Value.ref d == Value.none) = true then _ else _) _ _ s
 rw [if_neg (fun z : (Value.ref d == Value.none) = true => Bool.false_ne_true z)]
 refine wpAny_bind (wpAny_pure (wpAny_bind (wpAny_dictEntries ho hd ?_)))
 rw [if_neg (by simp)]
 refine wpAny_bind (wpAny_pure (wpAny_bind (wpAny_dictEpoch ho hd ?_)))
 rw [if_neg (by simp)]
 refine wpAny_pure ?_
 have hx : (if ((i : Nat) : Int) < 0 then none else es[((i : Nat) : Int).toNat]?) = none := by rw [if_neg (by lia), Int.toNat_natCast]; exact Array.getElem?_eq_none hi
 dsimp only
 rw [hx]
 refine wpAny_bind (fG ty (wpAny_bind (wpAny_setField hit rfl (by simp) ?_)))
 unfold newExc newTuple
 refine wpAny_bind (wpAny_bind (wpAny_newObj_type (wpAny_bind (m := firstArgMember _ _) (wpAny_of_eq (a := Value.none) (by first | rfl | (simp only [firstArgMember]; rfl)) (wpAny_newObj_type (wpAny_raiseNew_none (show A.in1.handled = none from hh) ?_) (by size_fits)))) (by size_fits)))
 refine wpAny_bind (wpAny_isInstance (b := true) (T := "StopIteration") ⟨_, Heap.get?_push_size _ rfl, rfl⟩ isSubtype_stop (wpAny_pure (hQ _ ?_)))
 intro b u hn e
 exact Heap.get?_push_of_some _ (Heap.get?_push_of_some _ (((Heap.SameBut.update ..).2 b hn).trans e))
theorem sW {d : Addr} {o : Obj} {es : Array DictEntry} {ep : Nat} {Q : Value -> Shared -> Prop} (ty : s.TypeIs (.ref d) "dict") (hs : (d == sysModules) = false) (ho : s.heap.get? d = some o) (hd : o.data = .dict es ep)
  (h : Q (.ref s.heap.objs.size) { s with heap := s.heap.push { cls := .type "dict_keyiterator", data := .fields #[.ref d, .int 0 0, .int es.size 0, .int ep 0] } }) : wpAny (model prog w) A (pyIter (.ref d)) Q E s := by
 refine wpAny_pyIter_slot ty F.slot_dict_iter (wpAny_call_entry F.slot_dict_iter ty F.entry_dict_iter (wpAny_bind (wpAny_bind (wpAny_notOrdered_dict ty (wpAny_pure ?_)))) (F.args_dict_iter_1 _))
 refine wpAny_bind (m := Builtin.Dict.showsAll d) ?_
 unfold Builtin.Dict.showsAll
 rw [if_neg (by rw [hs]; exact Bool.false_ne_true)]
 refine wpAny_pure (wpAny_bind (wpAny_dictEntries ho hd (wpAny_bind (wpAny_dictEpoch ho hd (wpAny_bind (wpAny_newObj_type (wpAny_pure ⟨_, rfl, "dict_keyiterator", _, ⟨_, Heap.get?_push_size _ rfl, rfl⟩, F.slot_dict_keyiterator_next.lookup, ?_⟩)))))))
 simpa [rawInt] using h
end
noncomputable def Itk (d : Addr) (ob : Obj) (es : List (List Int × Addr × V)) : It :=
 ⟨fun i H => H d = some (bR d ob es) /\ i < es.length, fun i H x H' => ∃ e, es[i]? = some e /\ x = .ref e.2.1 /\ H' = H, fun i H => H d = some (bR d ob es) /\ es.length <= i⟩
theorem m9 {P : Program} {w : World} {tg : Expr} (it d : Addr) (ob : Obj) (es : List (List Int × Addr × V)) (ds : Array DictEntry) (ep : Nat) (hob : ob.data = .dict ds ep) :
  Turn P w K tg (Itk d ob es) [it] it (fun i h => KyIt h it d i ds.size ep) where
 mem := by simp
 obj := fun i h st b hb => by
  have e : b = it := by simpa using hb
  subst e
  exact ⟨_, st, fun v z => by
   have z' : Data.fields _ = Data.cell v := z
   cases z'⟩
 keep := fun i h h' st k => k it (by simp) _ st
 item := by
  rintro X hP hw hK hc i pins s σ H E I hf st ⟨hd, hi⟩
  subst hP hw hK
  obtain ⟨f0, f1, f2, f3, f4, f5⟩ := hf it (by simp)
  obtain ⟨⟨z, m, nd, xs, ev, o, ds', ep', g1, g2, g3, g4⟩, g5⟩ := fA I hd
  rw [g5] at g1; cases g1
  rw [hob] at g3; cases g3
  obtain ⟨e, he⟩ : ∃ e, es[i]? = some e := ⟨_, List.getElem?_eq_getElem hi⟩
  obtain ⟨x, hx, ek, rv⟩ := ev.pick he
  have hxl : i < xs.length := by have := Paired.length ev; lia
  have hds : ds.size = xs.length := by have := congrArg List.length g4; simpa using this
  have hent : ds[i]'(by lia) = w4 x := by
   have h1 : ds.toList[i]? = some (w4 x) := by rw [g4, List.getElem?_map, hx]; rfl
   rw [Array.getElem?_toList, Array.getElem?_eq_getElem (by lia)] at h1
   exact Option.some.inj h1
  refine sV st g5 hob (by lia) fun h' a1 a2 => ⟨_, rfl, lf (s := { s with heap := h' }) a1 rfl rfl (by decide) ?_⟩
  refine ⟨.ref e.2.1, H, I.turned (t' := s.toks) (fun b o hb q => a2 b o hb q) f0 f1 f3 f4 f5, ?_, ⟨e, he, rfl, rfl⟩, a1, fun b hb => ?_⟩
  ·rw [hent, ek]; rfl
  ·have e' : b = it := by simpa using hb
   subst e'; exact f0
 done := by
  rintro X hP hw hK hc i pins s σ H E I hf st ⟨hd, hi⟩
  subst hP hw hK
  obtain ⟨f0, f1, f2, f3, f4, f5⟩ := hf it (by simp)
  obtain ⟨⟨z, m, nd, xs, ev, o, ds', ep', g1, g2, g3, g4⟩, g5⟩ := fA I hd
  rw [g5] at g1; cases g1
  rw [hob] at g3; cases g3
  have hds : ds.size = xs.length := by have := congrArg List.length g4; simpa using this
  have := Paired.length ev
  exact yM (I.ok.hd hc) st g5 hob (by lia) fun h' eb => ⟨rfl, I.turned (t' := s.toks) (fun b o hb e => eb b o hb e) f0 f1 f3 f4 f5⟩
 self := fun _ _ _ _ _ st h => wpAny_pyIter_keyiter ⟨_, st, rfl, rfl⟩ h
section
variable {X : Cx}
noncomputable def u9 (to : TE) : TI := fun σ H R => to σ H fun x H1 => ∃ d ob es, x = .ref d /\ H1 d = some (bR d ob es) /\ R (Itk d ob es) H1
theorem sX {tg o : Expr} {to : TE} (ho : PE X o to) : PI X tg o (u9 to) := by
 intro pins s σ H R I h
 refine thn (ho pins s σ H _ I h) fun v s1 zr1 => ?_
 obtain ⟨x, H1, I1, r1, d, ob, es, hx, hd, q1⟩ := zr1
 subst hx
 cases r1
 obtain ⟨⟨z, m, nd, xs, ev, o', ds, ep, g1, g2, g3, g4⟩, g5⟩ := fA I1 hd
 rw [g5] at g1; cases g1
 refine sW ⟨_, g5, g2.1⟩ m g5 g3 ⟨s1.heap.objs.size, [s1.heap.objs.size], _, _, H1, rfl, I1.kept (t' := s1.toks) fun b u q => Heap.get?_push_of_some _ q, m9 _ d ob es ds ep g3, Heap.get?_push_size _ rfl, fun b hb => ?_, q1⟩
 have e : b = s1.heap.objs.size := by simpa using hb
 subst e
 exact I1.fpOk (Nat.le_refl _) (I1.hok.fresh (Nat.le_refl _))
end
end L2
namespace VL
open PySem L2
section
variable {K : PySem.W.Frag} {X : Cx} {e o tg : Expr} {te : TE} {va : VT} {S : List Sl} {QN : List D -> List Sl -> Prop}
noncomputable def vf (va : VT) : VTN := fun S Q => va S fun r S1 => ∃ kvs, r = .d (dc kvs) /\ Q ((kvs.map (·.1)).map kT) S1
theorem iW (h : VE K X false o te va) : VI K X tg o (u9 te) (vf va) := ⟨sX h.pe, fun H0 Z σ H S Q C k t hc => h.snd H0 Z σ H S _ _ k t fun v H1 r S1 k1 st1 rr zq1 => by
 obtain ⟨kvs, er, q⟩ := zq1
 subst er
 have rr : Rep K _ _ H1 v (.dic (kvs.map (·.1)) (kvs.map (·.2))) := rr
 cases rr with
 | @dic a ob es _ _ n f hh ek rk r =>
 refine ⟨a, ob, es, rfl, hh, hc _ ((kvs.map (·.1)).map kT) H1 S1 k1 st1 (fun σ2 S2 H2 nm st2 i => ?_) q⟩
 obtain ⟨e1, n1⟩ := st2 a n (by rw [hh]; exact fun z => nomatch z)
 have hh2 : H2 a = some (bR a ob es) := e1.trans hh
 have len : ((kvs.map (·.1)).map kT).length = es.length := by have := congrArg List.length ek; simp at this ⊢; lia
 rw [len]
 refine ⟨fun hi => ⟨hh2, hi⟩, fun x H3 zr1 hi => ?_, fun hi => ⟨hh2, by lia⟩⟩
 obtain ⟨en, he, hx, hH⟩ := zr1
 subst hx; subst hH
 have rk2 := (rk.stp st2).mono (N' := NM Z σ2 S2) (F' := AnyF) (H' := H3) (fun b n z => ⟨n, rfl⟩) fun _ _ => trivial
 obtain ⟨dk, hk1, hk2⟩ := rk2.get (i := i) (v := .ref en.2.1) (by rw [List.getElem?_map, he]; rfl)
 exact ⟨fun _ _ => rfl, dk, hk1, hk2⟩⟩
noncomputable def vj (QN : List D -> List Sl -> Prop) : VR -> List Sl -> Prop := fun r S1 => ∃ kvs, r = .d (dc kvs) /\ QN ((kvs.map (·.1)).map kT) S1
theorem yN (h : va S (vj QN)) : vf va S QN := h
theorem sY (h : QN ((kvs.map (·.1)).map kT) S) : vj QN (.d (dc kvs)) S := ⟨kvs, rfl, h⟩
end
end VL
end
section
namespace VL
open PySem L2
section
variable {K : PySem.W.Frag} {X : Cx} {stm : Stmt} {ts : TS} {t : VTS}
theorem lX : ∀ {S : List Sl} {i : Nat} {ks : List (List Int)} {ds : List D}, S[i]? = some (.odi ks ds) -> Wk S (S.set i (.val (.dic ks ds)))
 | [], i, _, _, h => by simp at h
 | s :: r, 0, ks, ds, h => by
  have e : s = .odi ks ds := by simpa using h
  subst e
  exact .fd (Wk.refl r)
 | s :: r, i + 1, ks, ds, h => Wk.keep (lX (by simpa using h))
noncomputable def vm (i : Nat) (t : VTS) : VTS := fun V S => ∃ kvs, S[i]? = some (od kvs) /\ t V (S.set i (.val (dc kvs)))
theorem sZ (i : Nat) (h : VS K X stm ts t) : VS K X stm ts (vm i t) := ⟨h.ps, fun H0 Z σ H S V E k zq1 l => by
 obtain ⟨kvs, e, t⟩ := zq1
 obtain ⟨k', st⟩ := k.wk (lX e)
 exact h.snd H0 Z σ H _ V E k' t (l.step st)⟩
theorem yO {i : Nat} {V : ba} (e : S[i]? = some (od kvs)) (h : t V (S.set i (.val (dc kvs)))) : vm i t V S := ⟨kvs, e, h⟩
end
end VL
end
section
namespace L2
open PySem PySem.Spec PyProof.Rows
section
variable {X : Cx}
noncomputable def lY (K : PySem.W.Frag) : V -> V -> Hp -> VK -> Prop := fun x y H Q => ∃ b a ms es v, y = .ref b /\ x = .ref a /\ SqN K H b ms /\ (∃ ob, H a = some (bR a ob es)) /\ bX K H es /\ atE es ms = some v /\ Q v H
theorem tf (hu : X.A.units + 64 < cLine) : B5 X (lY X.K) := by
 rintro pins s σ H o i ov iv Q I r1 r2 ⟨b, a, ms, es, v, ey, ex, h1, ⟨ob, h2⟩, h3, hv, q⟩
 subst ex; subst ey
 cases r1; cases r2
 obtain ⟨z, m, nd, xs, ev, dd⟩ := fD I h2 h3
 have r := ev.at_ ms
 rw [hv] at r
 cases h5 : atKey xs ms with
 | none => rw [h5] at r; exact r.elim
 | some p =>
  rw [h5] at r
  exact wpAny_getItem_heap (tupleKind_room_in1 (by lia)) (cK I h1) dd h5 ⟨v, H, I.tok _, r, q⟩
end
end L2
end
section
namespace VL
open PySem L2
section
variable {K : PySem.W.Frag} {N N' : AP} {F : FP} {H H' H0 : Hp} {Z P : AP} {σ σ' : St} {S S' : List Sl}
mutual
theorem Rep.mark {v : L2.V} {d : D} : Rep K N F H v d -> Rep K N (fun o => F o /\ ∀ a, o = some a -> N a /\ IsM (H a)) H v d
 | .int i => .int i
 | .bl i => .bl i
 | .non => .non
 | .str i => .str i
 | .ty i => .ty i
 | .tup n h r => .tup n h (Reps.mark r)
 | .tupK h r => .tupK h (Reps.mark r)
 | .lst n f h r => .lst n ⟨f, fun a e => by cases e; exact ⟨n, by rw [h]; trivial⟩⟩ h (Reps.mark r)
 | .lstF n f h r => .lstF n ⟨f, fun a e => nomatch e⟩ h (Reps.mark r)
 | .lstK f h r => .lstK ⟨f, fun a e => nomatch e⟩ h (Reps.mark r)
 | .dic n f h e rk r => .dic n ⟨f, fun a e => by cases e; exact ⟨n, by rw [h]; trivial⟩⟩ h e (Reps.mark rk) (Reps.mark r)
 | .exc n h e => .exc n h e
 | .oth (k := k) h => .oth (k.both (fun a n m f => ⟨f, fun b e => by cases e; exact ⟨n, m⟩⟩) (fun f => ⟨f, fun a e => nomatch e⟩) h)
 | .dib n f h e g rk r => .dib n ⟨f, fun a e => by cases e; exact ⟨n, by rw [h]; trivial⟩⟩ h e g (Reps.mark rk) (Reps.mark r)
theorem Reps.mark {vs : List L2.V} {ds : List D} : Reps K N F H vs ds -> Reps K N (fun o => F o /\ ∀ a, o = some a -> N a /\ IsM (H a)) H vs ds
 | .nil => .nil
 | .cons h t => .cons (Rep.mark h) (Reps.mark t)
end
end
end VL
end
section
namespace L2
open PySem PySem.Spec PyProof.Rows
theorem Inv.turned2 {X : Cx} {s : Shared} {h' : Heap} {t' : Nat} {e it : Addr} (I : Inv X pins σ H s) (k : ∀ b o, b ≠ e -> b ≠ it -> s.heap.get? b = some o -> h'.get? b = some o) (fe : dw X pins H e) (fi : dw X pins H it) :
  Inv X pins σ H { s with heap := h', toks := t' } := by
 obtain ⟨e0, e1, _, e3, e4, e5⟩ := fe
 obtain ⟨i0, i1, _, i3, i4, i5⟩ := fi
 have ne : ∀ b u, H b = some u -> b ≠ e := fun b u q z => by rw [z, e0] at q; cases q
 have ni : ∀ b u, H b = some u -> b ≠ it := fun b u q z => by rw [z, i0] at q; cases q
 have kk : ∀ b o, b ∉ [e, it] -> s.heap.get? b = some o -> h'.get? b = some o := fun b o hc q => k b o (fun z => hc (by simp [z])) (fun z => hc (by simp [z])) q
 refine I.step (g' := s.gens) (d' := s.drawn) (ch := [e, it]) (fun b hb => ?_) (fun b o _ _ hc q _ => kk b o hc q) (fun b o _ _ hc q _ => ⟨o.slots, kk b o hc q⟩) (fun _ _ _ _ n => n)
  (fun b o hc q => ⟨o, kk b o hc q⟩) (fun _ _ q => q) (fun _ _ _ q => q) (fun b ps q => ⟨#[], by rw [q]; simp⟩) (fun m hm => ?_) (fun b u q => ?_) I.bare
 ·rcases List.mem_cons.mp hb with rfl | hb
  ·exact ⟨e3, e1, e4, e5⟩
  ·obtain rfl := List.mem_singleton.mp hb
   exact ⟨i3, i1, i4, i5⟩
 ·obtain ⟨o, es, ep, ho, r⟩ := hm
  exact ⟨o, es, ep, k _ o (Ne.symm e1) (Ne.symm i1) ho, r⟩
 ·refine (I.hok b u q).stay (fun c v hc z => k c v ?_ ?_ z) (fun _ z => z) fun _ _ z => z
  ·rcases hc with y | y
   ·rw [y]; exact ne b u q
   ·exact ne c _ y
  ·rcases hc with y | y
   ·rw [y]; exact ni b u q
   ·exact ni c _ y
noncomputable def Ite (K : PySem.W.Frag) (l : Addr) : It :=
 ⟨fun i H => ∃ xs x, SqL K H l xs /\ xs[i]? = some x, fun i H x H' => ∃ p, H p = none /\ x = .ref p /\ ∀ xs, SqL K H l xs -> ∃ y, xs[i]? = some y /\ H' = upd H p (.tup [.int i, y]), fun i H => ∃ xs, SqL K H l xs /\ xs.length <= i⟩
theorem ng {P : Program} {w : World} {elts : List Expr} {x1} {tp : Pos} (e it l : Addr) (hne : e ≠ it) :
  Turn P w K (.Tuple elts x1 tp) (Ite K l) [e, it] e (fun i h => (∃ old, IsEnum h e it i old) /\ h.IsListIter it l i) where
 mem := by simp
 obj := fun i h zq b hb => by
  obtain ⟨⟨old, st⟩, sl⟩ := zq
  rcases List.mem_cons.mp hb with rfl | hb
  ·exact ⟨_, st, fun v z => by
    have z' : Data.fields _ = Data.cell v := z
    cases z'⟩
  ·obtain rfl := List.mem_singleton.mp hb
   obtain ⟨o, q, c, d⟩ := sl
   exact ⟨o, q, fun v z => by rw [d] at z; cases z⟩
 keep := fun i h h' zq k => by
  obtain ⟨⟨old, st⟩, sl⟩ := zq
  exact ⟨⟨old, k e (by simp) _ st⟩, sl.at fun o q => k it (by simp) o q⟩
 item := by
  intro X hP hw hK hc i pins s σ H E I hf zq hg
  subst hP hw hK
  obtain ⟨⟨old, st⟩, sl⟩ := zq
  obtain ⟨xs, x, hq, hx⟩ := hg
  obtain ⟨its, rv, p, hz⟩ := I.list hq
  obtain ⟨u, hu, ru⟩ := rv.get hx
  have fe := hf e (by simp)
  have fi := hf it (by simp)
  refine wpAny_pyNext_enum_item st sl p.isList (x := u) (by simpa using hu) hne fun h' a1 a2 a3 a4 a5 => ⟨_, rfl, wpAny_letOwnedTupleGo_enum (s := { s with heap := h', toks := s.toks + 1 }) a1 fun h2 b1 b2 => ?_⟩
  have kb : ∀ b o, b ≠ e -> h'.get? b = some o -> h2.get? b = some o := fun b o hb q => (b2.2 b hb).trans q
  have I2 : Inv X pins σ H { s with heap := h2, toks := s.toks + 1 } := I.turned2 (fun b o n1 n2 q => kb b o n1 (a5 b o n1 n2 q)) fe fi
  have np : H s.heap.objs.size = none := I.hok.fresh (Nat.le_refl _)
  obtain ⟨_, p1, _, p3, p4, p5⟩ := I.fpOk (H' := H) (b := s.heap.objs.size) (Nat.le_refl _) np
  have ns : s.heap.objs.size ≠ e := Nat.ne_of_gt (Heap.lt_size st)
  have ni : s.heap.objs.size ≠ it := by
   obtain ⟨o, q, _⟩ := id sl
   exact Nat.ne_of_gt (Heap.lt_size q)
  refine ⟨.ref s.heap.objs.size, upd H s.heap.objs.size (.tup [.int i, x]), I2.track np I.sz p1 p4 p5 ⟨by rw [sizeLine_eq]; exact Nat.le_of_ble_eq_true rfl, [.int i s.toks, u], .cons ⟨_, rfl⟩ (.cons ru .nil), ⟨_, kb _ _ ns a3, rfl, _, rfl⟩⟩, rfl, ⟨_, np, rfl, fun ys hy => ⟨x, by rw [I.list_inj hy hq]; exact hx, rfl⟩⟩, ⟨⟨_, by simpa using b1⟩, a2.at fun o q => kb it o (Ne.symm hne) q⟩, fun b hb => ?_⟩
  rcases List.mem_cons.mp hb with rfl | hb
  ·rw [au (Ne.symm ns)]; exact fe.1
  ·obtain rfl := List.mem_singleton.mp hb
   rw [au (Ne.symm ni)]; exact fi.1
 done := by
  intro X hP hw hK hc i pins s σ H E I hf zq hg
  subst hP hw hK
  obtain ⟨⟨old, st⟩, sl⟩ := zq
  obtain ⟨xs, hq, hx⟩ := hg
  obtain ⟨its, rv, p, hz⟩ := I.list hq
  obtain ⟨f0, f1, f2, f3, f4, f5⟩ := hf it (by simp)
  have hl := rv.length
  exact wpAny_pyNext_enum_end (I.ok.hd hc) st sl p.isList (Array.getElem?_eq_none (by simp; lia)) fun h' eb => ⟨rfl, I.turned (t' := s.toks) (fun b o hb q => eb b o hb q) f0 f1 f3 f4 f5⟩
 self := fun _ _ _ _ _ zq h => by
  obtain ⟨⟨old, st⟩, _⟩ := zq
  exact wpAny_pyIter_enum st h
section
variable {X : Cx}
noncomputable def vp (K : PySem.W.Frag) (ta : TA) : TI := fun σ H R => ta σ H fun vs H1 => ∃ l, vs = [.ref l] /\ (∃ xs, SqL K H1 l xs) /\ R (Ite K l) H1
theorem tj {a : Expr} {ta : TA} {p pos tp : Pos} {elts : List Expr} {x1} (hg : Gl X "enumerate") (hm : X.mg "enumerate" = none) (ha : PA X [a] ta) (hs : starEach [a] X.env = [(false, eval a X.env)] := by rfl) : PI X (.Tuple elts x1 tp) (.Call (.Name "enumerate" p) [a] [] pos) (vp X.K ta) := by
 intro pins s σ H R I h
 refine Call_ (eN I hg hm boot_enumerate (PyProof.Rows.callWith_type1 (thn (ha pos pins s σ H _ I h) fun us s1 zr1 => ?_) hs rfl))
 obtain ⟨vs, H1, I1, r1, q1⟩ := zr1
 obtain ⟨l, e, ⟨xs, hq⟩, q⟩ := q1
 subst e
 cases r1 with
 | cons r rr =>
  cases rr
  cases r
  obtain ⟨its, rv, pl, hz⟩ := I1.list hq
  refine call_enumerate_list pl.isList fun h' g1 g2 g3 g4 => ?_
  have I2 : Inv X pins σ H1 { s1 with heap := h' } := I1.kept (t' := s1.toks) g4
  refine wpAny_pyIter_enum (s := { s1 with heap := h' }) g1 ⟨s1.heap.objs.size + 1, [s1.heap.objs.size + 1, s1.heap.objs.size], _, Ite X.K l, H1, rfl, I2, ng _ _ l (by lia), ⟨⟨_, g1⟩, g2⟩, fun b hb => ?_, q⟩
  have hb' : s1.heap.objs.size <= b := by
   rcases List.mem_cons.mp hb with rfl | hb
   ·lia
   ·obtain rfl := List.mem_singleton.mp hb
    exact Nat.le_refl _
  exact I1.fpOk hb' (I1.hok.fresh hb')
end
end L2
namespace VL
open PySem L2
section
variable {K : PySem.W.Frag} {X : Cx} {a : Expr} {tr : TA} {vr : VTA} {S : List Sl} {QN : List D -> List Sl -> Prop} {p pos tp : Pos}
noncomputable def enD (ds : List D) : List D := (List.range ds.length).map fun (i : Nat) => .tup [.int i, ds.getD i .non]
theorem tm (ds : List D) : (enD ds).length = ds.length := by simp [enD]
theorem yP {i : Nat} (h : ds[i]? = some d) : (enD ds)[i]? = some (.tup [.int i, d]) := by
 obtain ⟨hi, e⟩ := List.getElem?_eq_some_iff.mp h
 simp [enD, hi, List.getD, e]
noncomputable def vq (vr : VTA) : VTN := fun S Q => vr S fun rs S1 => ∃ ds, rs = [.d (.lst ds)] /\ Q (enD ds) S1
theorem tu {elts : List Expr} {x1} (hK : X.K = K) (hg : Gl X "enumerate") (hm : X.mg "enumerate" = none) (ha : VA K X false [a] tr vr) (hs : starEach [a] X.env = [(false, eval a X.env)] := by rfl) :
  VI K X (.Tuple elts x1 tp) (.Call (.Name "enumerate" p) [a] [] pos) (vp K tr) (vq vr) := ⟨by subst hK; exact tj hg hm ha.pe hs, fun H0 Z σ H S Q C k t hc =>
 ha.snd H0 Z σ H S _ _ k t fun vs H1 rs S1 k1 st1 rrs zq1 => by
  obtain ⟨ds, e, q⟩ := zq1
  subst e
  obtain ⟨v, rfl, rv⟩ := rrs.one
  have rv : Rep K _ _ H1 v (.lst ds) := rv
  obtain ⟨l, xs, rfl, hq, _⟩ := rv.sqL
  refine ⟨l, rfl, ⟨xs, hq⟩, hc _ (enD ds) H1 S1 k1 st1 (fun σ2 S2 H2 nm st2 i => ?_) q⟩
  obtain ⟨l', xs', e, hq2, r2⟩ := (rv.stp st2).sqL
  cases e
  rw [tm]
  refine ⟨fun hi => ?_, fun x H3 hy hi => ?_, fun hi => ⟨xs', hq2, by rw [r2.length]; lia⟩⟩
  ·obtain ⟨y, h1, _⟩ := r2.getD (List.getElem?_eq_getElem hi)
   exact ⟨xs', y, hq2, h1⟩
  ·obtain ⟨p, hp, rfl, hy⟩ := hy
   obtain ⟨y, h2, rfl⟩ := hy xs' hq2
   obtain ⟨d, h3, h4⟩ := r2.get h2
   have g := aC (o := .tup [.int i, y]) hp
   exact ⟨g, _, yP h3, .tup (nm p hp) (.inl aw) (.cons (.int _) (.cons (h4.mono (fun b n z => ⟨n, g b z⟩) fun _ _ => trivial) .nil))⟩⟩
noncomputable def vw (QN : List D -> List Sl -> Prop) : List VR -> List Sl -> Prop := fun rs S1 => ∃ ds, rs = [.d (.lst ds)] /\ QN (enD ds) S1
theorem yQ (h : vr S (vw QN)) : vq vr S QN := h
theorem tw (h : QN (enD ds) S) : vw QN [.d (.lst ds)] S := ⟨ds, rfl, h⟩
end
end VL
end
section
namespace L2
open PySem PySem.Spec PyProof.Rows
theorem jS {X : Cx} (hu : X.A.units + 64 < cLine) : IxR X (lY X.K) := by
 intro value slice pins s σ H x y v u Q I rx ry h hs
 have g := tf hu pins s σ H x y v u Q I rx ry h
 obtain ⟨b, a, ms, es, z, ey, ex, h1, ⟨ob, h2⟩, _⟩ := h
 subst ex
 cases rx
 obtain ⟨_, _, _, _, _, o, _, _, z1, z2, _⟩ := iz I h2
 exact tail_any ⟨_, z1, z2.1⟩ slot_dict_getitem.lookup g hs
end L2
namespace VL
open PySem L2
section
variable {K : PySem.W.Frag} {X : Cx} {m : Bool} {o ie : Expr} {to ti : TE} {vo vi : VT} {pos : Pos} {S : List Sl} {Q : VR -> List Sl -> Prop}
noncomputable def BE (vo vi : VT) : VT := fun S Q => vo S fun r S1 => vi S1 fun rk S2 => ∃ kvs ms i, get S2 r = some (dc kvs) /\ get S2 rk = some (kT ms) /\ getA kvs ms = some (.int i) /\ Q (.d (.int i)) S2
theorem kL (hK : X.K = K) (hu : X.A.units + 64 < cLine) (ho : VE K X false o to vo) (hi : VE K X false ie ti vi) (hs : dY ie) : VE K X m (.Subscript o ie pos) (tOp (lY K) to ti) (BE vo vi) :=
 ⟨by subst hK; exact jt (jS hu) ho.pe hi.pe hs, fun H0 Z σ H S Q C k t hc => by
  refine ho.snd H0 Z σ H S _ _ k t fun x H1 ra S1 k1 st1 r1 t1 => ?_
  refine hi.snd H0 Z σ H1 S1 _ _ k1 t1 fun y H2 rb S2 k2 st2 r2 zr1 => ?_
  obtain ⟨kvs, ms, i, e1, e2, ei, q⟩ := zr1
  obtain ⟨b, vs, rfl, hq, rr⟩ := Rep.sqT (show Rep K _ _ H2 y (.tup (ms.map D.int)) from r2.get k2 e2)
  cases Reps.toInts rr
  obtain ⟨a, es, rfl, _, _, ha, ek, hk, _, rv⟩ := Rep.dct (show Rep K _ _ H2 x (.dic _ _) from (r1.step st2).get k2 e1)
  rcases iU (k := ms) ek rv with ⟨z1, z2⟩ | ⟨v, d, z1, z2, r⟩
  ·rw [z2] at ei; cases ei
  ·rw [z2] at ei
   cases ei
   cases r
   exact ⟨b, a, ms, es, .int i, rfl, rfl, SqN.of hq, ha, hk, z1, hc _ H2 (.d (.int i)) S2 k2 (st1.trans st2) (Rep.int i) q⟩⟩
noncomputable def vz (vi : VT) (Q : VR -> List Sl -> Prop) : VR -> List Sl -> Prop := fun r S1 => vi S1 fun rk S2 => ∃ kvs ms i, get S2 r = some (dc kvs) /\ get S2 rk = some (kT ms) /\ getA kvs ms = some (.int i) /\ Q (.d (.int i)) S2
noncomputable def vA (r : VR) (Q : VR -> List Sl -> Prop) : VR -> List Sl -> Prop := fun rk S2 => ∃ kvs ms i, get S2 r = some (dc kvs) /\ get S2 rk = some (kT ms) /\ getA kvs ms = some (.int i) /\ Q (.d (.int i)) S2
theorem BF (h : vo S (vz vi Q)) : BE vo vi S Q := h
theorem tx (h : vi S (vA r Q)) : vz vi Q r S := h
theorem iX {r rk : VR} {i : Int} (e1 : get S r = some (dc kvs)) (e2 : get S rk = some (kT ms)) (e3 : getA kvs ms = some (.int i)) (h : Q (.d (.int i)) S) : vA r Q rk S := ⟨kvs, ms, i, e1, e2, e3, h⟩
end
end VL
namespace VL
open PySem L2
section
variable {K : PySem.W.Frag} {X : Cx} {m : Bool} {a b : Expr} {ta tb : TE} {va vb : VT} {pos : Pos} {S : List Sl} {Q : VR -> List Sl -> Prop}
noncomputable def vB (va vb : VT) : VT := fun S Q => va S fun ra S1 => vb S1 fun rb S2 => ∃ ds es, ra = .d (.tup ds) /\ rb = .d (.tup es) /\ ds ≠ [] /\ ds.length + es.length <= 1000 /\ Q (.d (.tup (ds ++ es))) S2
theorem tD (hK : X.K = K) (ha : VE K X m a ta va) (hb : VE K X m b tb vb) : VE K X m (.BinOp a .Add b pos) (tOp (ux K) ta tb) (vB va vb) := ⟨by subst hK; exact jr rj ha.pe hb.pe, fun H0 Z σ H S Q C k t hc =>
 ha.snd H0 Z σ H S _ _ k t fun x H1 ra S1 k1 st1 r1 t1 => hb.snd H0 Z σ H1 S1 _ _ k1 t1 fun y H2 rb S2 k2 st2 r2 zq1 => by
  obtain ⟨ds, es, e1, e2, n1, hl, q⟩ := zq1
  subst e1; subst e2
  have rx : Rep K (NM Z σ S2) (FM H0 m) H2 x (.tup ds) := (show dA K _ Z σ S1 H1 x (.d (.tup ds)) from r1).step st2
  obtain ⟨p, vs, rfl, hq, rr⟩ := rx.sqT
  obtain ⟨p', vs', rfl, hq', rr'⟩ := Rep.sqT (show Rep K _ _ H2 y (.tup es) from r2)
  have l1 := rr.length
  have l2 := rr'.length
  refine ⟨p, p', vs, vs', rfl, rfl, hq, hq', fun z => n1 (List.eq_nil_of_length_eq_zero (by rw [<- l1, z]; rfl)), by rw [l1, l2, sizeLine_eq]; lia, fun z => ?_, fun _ l hl2 => ?_⟩
  ·obtain rfl : es = [] := List.eq_nil_of_length_eq_zero (by rw [<- l2, z]; rfl)
   rw [List.append_nil] at q
   exact hc _ _ (.d (.tup ds)) S2 k2 (st1.trans st2) rx q
  ·have g := aC (o := .tup (vs ++ vs')) hl2
   exact hc _ _ (.d (.tup (ds ++ es))) S2 (k2.grow g) ((st1.trans st2).trans (.grow g)) (show Rep K _ _ _ _ _ from Rep.tup (k2.nm hl2) (.inl aw) ((Reps.append rr rr').mono (fun a n e => ⟨n, g a e⟩) fun _ x => x)) q⟩
noncomputable def pY (vb : VT) (Q : VR -> List Sl -> Prop) : VR -> List Sl -> Prop := fun ra S1 => vb S1 fun rb S2 => ∃ ds es, ra = .d (.tup ds) /\ rb = .d (.tup es) /\ ds ≠ [] /\ ds.length + es.length <= 1000 /\ Q (.d (.tup (ds ++ es))) S2
noncomputable def pZ (ra : VR) (Q : VR -> List Sl -> Prop) : VR -> List Sl -> Prop := fun rb S2 => ∃ ds es, ra = .d (.tup ds) /\ rb = .d (.tup es) /\ ds ≠ [] /\ ds.length + es.length <= 1000 /\ Q (.d (.tup (ds ++ es))) S2
theorem yR (h : va S (pY vb Q)) : vB va vb S Q := h
theorem p6 {ra : VR} (h : vb S (pZ ra Q)) : pY vb Q ra S := h
theorem p8 {ds es : List D} (h1 : ds ≠ []) (hl : ds.length + es.length <= 1000) (h : Q (.d (.tup (ds ++ es))) S) : pZ (.d (.tup ds)) Q (.d (.tup es)) S := ⟨ds, es, rfl, rfl, h1, hl, h⟩
end
end VL
end
section
namespace VL
open PySem L2 PySem.W
section
variable {K : PySem.W.Frag} {X : Cx} {Hin : Hp} {E : XK} {A B : List Stmt} {ts us : TS} {t u : (Addr -> Prop) -> List Sl -> Prop} {pos : Pos}
theorem yS {sts : List Stmt} (h1 : VXs K X Hin E sts ts t) (h2 : VXs K X Hin E sts us u) : VXs K X Hin E sts (fun D σ H => ts D σ H \/ us D σ H) (fun Wc S => t Wc S \/ u Wc S) :=
 ⟨fun pins s σ H D I h => h.elim (h1.ps pins s σ H D I) (h2.ps pins s σ H D I), fun Wc hE H0 Z σ H S D k f zq => zq.elim (fun z => .inl (h1.snd Wc hE H0 Z σ H S D k f z)) fun z => .inr (h2.snd Wc hE H0 Z σ H S D k f z)⟩
end
end VL
end
section
namespace VL
open PySem L2
section
variable {K : PySem.W.Frag} {X : Cx} {m : Bool} {e o a b : Expr} {te ta tb : TE} {va vb : VT} {pos apos : Pos} {S : List Sl} {Q : VR -> List Sl -> Prop} {QN : List D -> List Sl -> Prop} {t : VTN}
noncomputable def vD (i : Nat) : VT := fun S Q => ∃ ds d, S[i]? = some (.own ds) /\ ds[ds.length - 1]? = some d /\ Q (.d d) (S.set i (.own ds.dropLast))
theorem Reps.dropLast {N : AP} : ∀ {vs : List V} {ds : List D}, Reps K N F H vs ds -> Reps K N F H vs.dropLast ds.dropLast
 | _, _, .nil => .nil
 | _, _, .cons h .nil => .nil
 | _, _, .cons h (.cons h2 t) => .cons h (Reps.dropLast (.cons h2 t))
theorem tE (i : Nat) (hK : X.K = K) (ho : PE X o (cg i)) (hbase : attributeBase o "pop" X.env (eval o X.env) = eval o X.env := by rfl) (hline : (apos.endLine == pos.line) = true := by rfl) :
  VE K X m (.Call (.Attribute o "pop" apos) [] [] pos) (zO K "list" zP (cg i)) (vD i) := ⟨by subst hK; exact wV PySem.F.plainAttrs_list PySem.F.slot_list_pop PySem.F.type_list_pop wW ho hbase hline, fun H0 Z σ H S Q C k zq1 hc => by
 obtain ⟨ds, d, e0, hd, q⟩ := zq1
 obtain ⟨o, h1, a, vs, rfl, h2, h3, h4⟩ := k.ownAt e0
 have hz := h4.length
 obtain ⟨y, hy, ry⟩ := h4.getD hd
 rw [<- hz] at hy
 refine ⟨.ref a, h1, .inl ⟨rfl, vs, .inl (.inl h2)⟩, a, vs, y, rfl, rfl, h2, hy, ?_⟩
 have na : NM Z σ S a -> False := fun n => n (.inl ⟨i, _, e0, rfl, h1⟩)
 have hm : ∀ b, NM Z σ S b -> H b ≠ none -> NM Z σ S b /\ upd H a (.lst vs.dropLast) b = H b := fun b n _ => ⟨n, au fun z => na (by rw [<- z]; exact n)⟩
 obtain ⟨k2, st2⟩ := k.chg (s := .own ds.dropLast) (o := .lst vs.dropLast) e0 rfl h1 ⟨_, rfl⟩ rfl ⟨a, _, rfl, aw, h3, (Reps.dropLast h4).mono hm fun _ x => x⟩
 exact hc y _ (.d d) _ k2 st2 (show Rep K _ _ _ _ _ from (ry.mono (fun b n e => ⟨(st2.1 b n e).2, (st2.1 b n e).1⟩) fun _ x _ => x)) q⟩
theorem yT {i : Nat} (e : S[i]? = some (.own ds)) (hd : ds[ds.length - 1]? = some d) (h : Q (.d d) (S.set i (.own ds.dropLast))) : vD i S Q := ⟨ds, d, e, hd, h⟩
end
end VL
end
section
namespace VL
open PySem L2 PySem.W
section
variable {K : PySem.W.Frag} {X : Cx} {a b : Expr} {ta tb : TE} {pos : Pos} {S : List Sl} {Q : List D -> List Sl -> Prop}
theorem Reps.rep {N : AP} (h : Reps K N F H vs ds) : ∀ k : Nat, Reps K N F H (List.replicate k vs).flatten (List.replicate k ds).flatten
 | 0 => .nil
 | k + 1 => by
  rw [List.replicate_succ, List.flatten_cons, List.replicate_succ, List.flatten_cons]
  exact Reps.append h (Reps.rep h k)
noncomputable def BG (t : VTN) (vb : VT) : VTN := fun S Q => t S fun ds S1 => vb S1 fun r S2 => ∃ k : Nat, r = .d (.int k) /\ ds.length * k <= 1000000 /\ k <= 1000000 /\ Q (List.replicate k ds).flatten S2
theorem yU {t : VTN} {vb : VT} (h1 : VN K X a ta t) (h2 : VE K X false b tb vb) : VN K X (.BinOp a .Mult b pos) (tOp zQ ta tb) (BG t vb) := ⟨jr wY h1.pe h2.pe, fun H0 Z σ H S Q C k t hc =>
 h1.snd H0 Z σ H S _ _ k t fun c us ds H1 H1' S1 k1 st1 ha1 hg1 hl1 rr1 t1 => h2.snd H0 Z σ H1' S1 _ _ (k1.grow hg1) t1 fun y H2 r S2 k2 st2 r2 zq1 => by
  obtain ⟨n, rfl, hlen, hn, q⟩ := zq1
  obtain ⟨ec, nc2⟩ := st2.1 c (k1.nm ha1) (by simp [hl1])
  have ec' : H2 c = some (.lst us) := by rw [ec, hl1]
  have r1 : Reps K (NM Z σ S2) (Fr H0) H2 us ds := (rr1.mono (N' := NM Z σ S1) (fun b n e => ⟨n.1, rfl⟩) (fun _ x => x)).step st2
  cases r2
  refine ⟨c, (n : Int), us, rfl, rfl, ec', by lia, by lia, by rw [rr1.length, sizeLine_eq, Int.toNat_natCast]; exact Nat.le_trans hlen (by decide), fun p hp => ?_⟩
  rw [Int.toNat_natCast]
  exact hc p _ _ H2 _ S2 k2 ((st1.trans (.grow hg1)).trans st2) hp (aC hp) aw (bA hp ((Reps.rep r1 n).mono (fun _ n _ => ⟨n, rfl⟩) fun _ x _ => x)) q⟩
@[irreducible] noncomputable def lZ (vb : VT) (Q : List D -> List Sl -> Prop) : List D -> List Sl -> Prop := fun ds S1 => vb S1 fun r S2 => ∃ k : Nat, r = .d (.int k) /\ ds.length * k <= 1000000 /\ k <= 1000000 /\ Q (List.replicate k ds).flatten S2
@[irreducible] noncomputable def md (ds : List D) (Q : List D -> List Sl -> Prop) : VR -> List Sl -> Prop := fun r S2 => ∃ k : Nat, r = .d (.int k) /\ ds.length * k <= 1000000 /\ k <= 1000000 /\ Q (List.replicate k ds).flatten S2
theorem BH {t : VTN} {vb : VT} (h : t S (lZ vb Q)) : BG t vb S Q := by unfold lZ at h; exact h
theorem tF {vb : VT} (h : vb S (md ds Q)) : lZ vb Q ds S := by unfold lZ; unfold md at h; exact h
theorem tG {k : Nat} (h1 : ds.length * k <= 1000000) (h2 : k <= 1000000) (h : Q (List.replicate k ds).flatten S) : md ds Q (.d (.int k)) S := by unfold md; exact ⟨k, rfl, h1, h2, h⟩
variable {va vb : VT} {z : Str} {QR : VR -> List Sl -> Prop}
end
end VL
end
section
namespace L2
open PySem PySem.Spec PyProof.Rows
noncomputable def layB : Str × NameKind -> List (Str × Addr) -> Sem (ForInStep (List (Str × Addr))) := fun x cells =>
 if (x.2 == NameKind.cell) = true then do let c <- alloc { cls := .type "cell", data := .cell none }; pure (ForInStep.yield ((x.1, c) :: cells)) else pure (ForInStep.yield cells)
theorem jT : ∀ (l : List (Str × NameKind)) (acc : List (Str × Addr)), (∀ z ∈ l, z.2 ≠ .cell) -> forIn l acc layB = pure acc
 | [], _, _ => rfl
 | z :: r, acc, h => by
  have hz : (z.2 == NameKind.cell) = false := by simpa using h z List.mem_cons_self
  rw [List.forIn_cons]
  unfold layB
  rw [hz]
  simp only [Bool.false_eq_true, if_false, pure_bind]
  exact jT r acc fun y hy => h y (List.mem_cons_of_mem _ hy)
theorem me {y : Str} {post : List (Str × NameKind)} (hp : ∀ z ∈ post, z.2 ≠ .cell) : ∀ (pre : List (Str × NameKind)) (acc : List (Str × Addr)), (∀ z ∈ pre, z.2 ≠ .cell) ->
  forIn (pre ++ (y, NameKind.cell) :: post) acc layB = (do let c <- alloc { cls := .type "cell", data := .cell none }; pure ((y, c) :: acc))
 | [], acc, _ => by
  rw [List.nil_append, List.forIn_cons]
  show (layB (y, NameKind.cell) acc >>= _) = _
  unfold layB
  rw [if_pos (show (NameKind.cell == NameKind.cell) = true from rfl)]
  simp only [bind_assoc, pure_bind]
  congr 1
  funext c
  exact jT post _ hp
 | z :: r, acc, h => by
  have hz : (z.2 == NameKind.cell) = false := by simpa using h z List.mem_cons_self
  rw [List.cons_append, List.forIn_cons]
  show (layB z acc >>= _) = _
  unfold layB
  rw [hz]
  simp only [Bool.false_eq_true, if_false, pure_bind]
  exact me hp r acc fun y hy => h y (List.mem_cons_of_mem _ hy)
structure iY (scope : Scope) (y : Str) : Prop where
 at_ : ∃ pre post, scope.names = pre ++ (y, NameKind.cell) :: post /\ (∀ z ∈ pre, z.2 ≠ .cell) /\ ∀ z ∈ post, z.2 ≠ .cell
theorem gK {M : Model} {A : Around} {E : Value -> Shared -> Prop} {s : Shared} {scope : Scope} {y : Str} {g : Addr} {cl : List (Str × Addr)} {qual : Str} {env : Env} {Q : Env -> Shared -> Prop} (h : iY scope y)
  (hQ : Q { scope := scope, locals := s.heap.objs.size, globals := g, cells := (y, s.heap.objs.size + 1) :: cl, qual := qual, func := none, code := env.code, frame := env.frame, builtins := env.builtins }
   { s with heap := (s.heap.push { cls := .type "dict", data := .dict #[] }).push { cls := .type "cell", data := .cell none } }) :
  wpAny M A (newFunctionEnv scope g cl [] qual none Value.none (some env)) Q E s := by
 obtain ⟨pre, post, e, h1, h2⟩ := h.at_
 have he : (forIn scope.names cl fun (x : Str × NameKind) (cells : List (Str × Addr)) => match x with
   | (name, kind) => if (kind == NameKind.cell) = true then (do let c <- alloc { cls := .type "cell", data := .cell none }; pure (ForInStep.yield ((name, c) :: cells)) : Sem (ForInStep (List (Str × Addr)))) else pure (ForInStep.yield cells)) = (do let c <- alloc { cls := .type "cell", data := .cell none }; pure ((y, c) :: cl)) := by
  rw [e]
  exact me h2 pre cl h1
 simp only [newFunctionEnv, Option.isSome_some, if_true]
 refine wpAny_bind (wpAny_alloc ?_)
 refine wpAny_bind ?_
 show wpAny M A (forIn scope.names cl fun (x : Str × NameKind) (cells : List (Str × Addr)) => match x with
   | (name, kind) => if (kind == NameKind.cell) = true then (do let c <- alloc { cls := .type "cell", data := .cell none }; pure (ForInStep.yield ((name, c) :: cells)) : Sem (ForInStep (List (Str × Addr)))) else pure (ForInStep.yield cells)) _ _ _
 rw [he]
 refine wpAny_bind (wpAny_alloc (wpAny_pure ?_))
 refine wpAny_bind ?_
 rw [List.forIn_nil]
 refine wpAny_pure (wpAny_pure ?_)
 have e2 : (s.heap.push { cls := .type "dict", data := .dict #[] }).objs.size = s.heap.objs.size + 1 := Heap.size_push ..
 rw [<- e2] at hQ
 exact hQ
noncomputable def aQ (X : Cx) (scope : Scope) (N : List Str) (y : Str) (C : Addr) (fp : List Addr) (s₀ : Shared) (H₀ : Hp) : Cx :=
 { X with N := N, s₀ := s₀, H₀ := H₀, env := compEnvC scope ((y, C + 1) :: aV X.env scope.names []) C X.env, outer := X.stack, stack := X.stack, ex := fp, fn := fun x => x == y, pn := [], xe := fun _ _ => False }
structure dq (X : Cx) (scope : Scope) (y : Str) (tg cs : List Str) (ix : List Nat) : Prop where
 kind : scope.kind = .function
 one : iY scope y
 look : scope.names.lookup y = some .cell
 names : ∀ z ∈ scope.names, z.2 = .local -> scope.names.lookup z.1 = some .local
 nd : (tg ++ cs).Nodup
 at_ : ix.map (fun i => X.N[i]?) = cs.map some
 free : ∀ x ∈ cs, (x, NameKind.free) ∈ scope.names /\ scope.names.lookup x = some .free
 nofree : (y, NameKind.free) ∉ scope.names
 out : ∀ x, (x, NameKind.free) ∈ scope.names -> X.env.scope.names.lookup x = some .cell \/ X.env.scope.names.lookup x = some .free
theorem gw {env : Env} {scope : Scope} {x : Str} {k : NameKind} (h : (relabel scope env).names.lookup x = some k) (hk : k = .cell \/ k = .free) : scope.names.lookup x = some .cell \/ (x, NameKind.free) ∈ scope.names := by
 have h : (scope.names.map fun (n, k) => if (k == NameKind.free && env.scope.kind == .function && env.kindOf n == some .cell) then (n, NameKind.cell) else (n, k)).lookup x = some k := h
 rw [cy] at h
 cases q : scope.names.lookup x with
 | none => rw [q] at h; cases h
 | some k0 =>
  have hm := PySem.mem_of_lookup q
  rw [q] at h
  by_cases c : freed env (x, k0) = true
  ·unfold freed at c
   simp only [Bool.and_eq_true, beq_iff_eq] at c
   refine .inr ?_
   rw [<- c.1.1]
   exact hm
  ·have h2 : k0 = k := by simpa [c] using h
   subst h2
   rcases hk with rfl | rfl
   ·exact .inl rfl
   ·exact .inr hm
theorem nh {scope : Scope} {x y : Str} (h : iY scope y) (e : scope.names.lookup x = some .cell) : x = y := by
 obtain ⟨pre, post, en, h1, h2⟩ := h.at_
 have hm := PySem.mem_of_lookup e
 rw [en] at hm
 rcases List.mem_append.mp hm with z | z
 ·exact absurd rfl (h1 _ z)
 ·rcases List.mem_cons.mp z with z | z
  ·exact congrArg Prod.fst z
  ·exact absurd rfl (h2 _ z)
section
variable {X : Cx} {pins : List (Addr × Obj)} {σ : St} {H H1 : Hp} {s : Shared}
theorem nj {scope : Scope} {y : Str} {tg cs : List Str} {fp : List Addr} {s4 : Shared} (S : dq X scope y tg cs ix) (I : Inv X pins σ H s) (hf : ∀ b ∈ fp, dw X pins H b) (ho : ∀ b ∈ fp, ∃ o, s.heap.get? b = some o) {C : Addr} (hC : s.heap.objs.size <= C)
  (hk : ∀ b o, s.heap.get? b = some o -> s4.heap.get? b = some o) (hns : s4.heap.Ns C fun _ => none) (hcell : s4.heap.IsCell (C + 1) none) (os : s4.os = s.os) (bare : AllBare s4.gens) (hn : H C = none) (hn1 : H (C + 1) = none) :
  Inv (aQ X scope (tg ++ cs) y C fp s H) [] (capt tg.length ix σ) H s4 := by
 have clX : ∀ x c, (aV X.env scope.names []).lookup x = some c -> X.env.cells.lookup x = some c := fun x c e => by
  rcases cj (PySem.mem_of_lookup e) with h | h
  ·cases h
  ·exact h
 -- a cell of the block: its own or one of outside
 have clY : ∀ x c, ((y, C + 1) :: aV X.env scope.names []).lookup x = some c -> (x = y /\ c = C + 1) \/ (x ≠ y /\ (aV X.env scope.names []).lookup x = some c) := fun x c e => by
  rw [List.lookup_cons] at e
  cases q : x == y with
  | true => rw [q] at e; exact .inl ⟨by simpa using q, (Option.some.inj e).symm⟩
  | false => rw [q] at e; exact .inr ⟨by simpa using q, e⟩
 have old : ∀ x c, X.env.cells.lookup x = some c -> c < s.heap.objs.size := fun x c e => by
  obtain ⟨v, o, h1, _⟩ := I.cell x c e
  exact Heap.lt_size h1
 have hasC : ∀ x, (x, NameKind.free) ∈ scope.names -> ∃ c, (aV X.env scope.names []).lookup x = some c := fun x hx => by
  obtain ⟨c, e⟩ := I.ok.has x (S.out x hx)
  have m := fV (acc := []) hx e
  cases q : (aV X.env scope.names []).lookup x with
  | some c' => exact ⟨c', rfl⟩
  | none =>
   have := List.lookup_eq_none_iff.mp q (x, c) m
   simp at this
 have hasY : ∀ x, x ≠ y -> ∀ c, (aV X.env scope.names []).lookup x = some c -> ((y, C + 1) :: aV X.env scope.names []).lookup x = some c := fun x hx c e => by
  rw [List.lookup_cons, show (x == y) = false by simpa using hx]
  exact e
 have atY : ((y, C + 1) :: aV X.env scope.names []).lookup y = some (C + 1) := by rw [List.lookup_cons, show (y == y) = true by simp]
 refine ⟨⟨I.ok.mod, ?_, I.ok.glob, I.ok.blt, hC, fun x z c e1 e2 => ?_, fun x hx => ?_, fun x c h e => ?_, I.ok.hd, I.ok.frames, .inl rfl, fun b hb => ⟨?_, fun x c e => ?_⟩, I.bs, Nat.le_trans I.ok.bsz I.sz, fun b o e hb => ?_, fun b hb hx => ?_, I.stack, I.stkFree⟩,
  os, bare, Un.kept hk, ⟨_, hns, fun i x v e1 e2 e3 => ?_⟩, fun x c e => ?_, hn, fun x c e => ?_, fun p hp => (by cases hp), I.hok.kept hk, ?_⟩
 ·show (relabel scope X.env).kind = .function
  exact S.kind
 ·rcases clY x c e1 with ⟨rfl, rfl⟩ | ⟨h1, q1⟩ <;> rcases clY z _ e2 with ⟨rfl, h2⟩ | ⟨h2, q2⟩
  ·rfl
  ·have := old _ _ (clX _ _ q2); lia
  ·have := old _ _ (clX _ _ q1); lia
  ·exact I.ok.inj x z c (clX x c q1) (clX z c q2)
 ·have hx' : (relabel scope X.env).names.lookup x = some .cell \/ (relabel scope X.env).names.lookup x = some .free := hx
  have hx2 : scope.names.lookup x = some .cell \/ (x, NameKind.free) ∈ scope.names := by
   rcases hx' with h | h
   ·exact gw h (.inl rfl)
   ·exact gw h (.inr rfl)
  by_cases hxy : x = y
  ·subst hxy; exact ⟨_, atY⟩
  ·rcases hx2 with h | h
   ·exact absurd (nh S.one h) hxy
   ·obtain ⟨c, e⟩ := hasC x h
    exact ⟨c, hasY x hxy c e⟩
 ·have h : (x == y) = true := h
  obtain rfl : x = y := by simpa using h
  have e : ((x, C + 1) :: aV X.env scope.names []).lookup x = some c := e
  rw [atY] at e
  cases e
  show s.heap.objs.size <= C + 1
  lia
 ·obtain ⟨o, e⟩ := ho b hb
  exact Nat.ne_of_lt (Nat.lt_of_lt_of_le (Heap.lt_size e) hC)
 ·rcases clY x c e with ⟨rfl, rfl⟩ | ⟨_, q⟩
  ·obtain ⟨o, e⟩ := ho b hb
   have := Heap.lt_size e
   lia
  ·exact (hf b hb).2.2.2.2.1 x c (clX x c q)
 ·obtain ⟨_, _, _, h, _⟩ := hf b hb
  rcases h with h | h
  ·exact I.ok.noex b o e h
  ·exact absurd (Nat.lt_of_lt_of_le (Heap.lt_size (I.ok.bs b o e).1) h) (Nat.lt_irrefl _)
 ·have hx : b ∈ frs X.stack := hx
  obtain ⟨_, h1, h2, _⟩ := hf b hb
  rcases List.mem_cons.mp (I.stkSub b hx) with h | h
  ·exact h1 h
  ·exact h2 h
 ·obtain ⟨hx, k, h1, h2⟩ := cD (X := X) S.at_ e1 e2
  obtain ⟨hx1, hx2⟩ := S.free x hx
  have hxy : x ≠ y := fun z => S.nofree (z ▸ hx1)
  obtain ⟨m, hnm, hl⟩ := I.loc
  have ov := S.out x hx1
  obtain ⟨u, r, l⟩ := hl k x v h1 h2 (by rcases ov with z | z; exact .inr (.inl z); exact .inr (.inr z))
  refine ⟨u, r, ?_⟩
  rcases l with ⟨l, _⟩ | ⟨_, c, lc, ic⟩
  ·have l : X.env.scope.names.lookup x = some .local := l
   rcases ov with z | z <;> rw [z] at l <;> cases l
  ·obtain ⟨c', e'⟩ := hasC x hx1
   have := (clX x c' e').symm.trans lc
   cases this
   refine .inr ⟨bL hx2, c, hasY x hxy c e', ?_⟩
   obtain ⟨o, ho1, ho2⟩ := ic
   exact ⟨o, hk c o ho1, ho2⟩
 ·rcases clY x c e with ⟨rfl, rfl⟩ | ⟨_, q⟩
  ·exact ⟨none, hcell⟩
  ·obtain ⟨v, o, ho1, ho2⟩ := I.cell x c (clX x c q)
   exact ⟨v, o, hk c o ho1, ho2⟩
 ·rcases clY x c e with ⟨rfl, rfl⟩ | ⟨_, q⟩
  ·exact hn1
  ·exact I.freeC x c (clX x c q)
 ·show (capt tg.length ix σ).length = (tg ++ cs).length
  have := congrArg List.length S.at_
  simp only [List.length_map] at this
  unfold capt
  simp [this]
end
end L2
end
section
namespace L2
open PySem PySem.Spec PyProof.Rows
noncomputable def iZ (scope osc : Scope) (N : List Str) (y : Str) (tg cs : List Str) (ix : List Nat) (k : Nat) : Prop :=
 scope.names[k]? = some (y, .cell) /\ (∀ z ∈ scope.names.take k, z.2 ≠ .cell) /\ (∀ z ∈ scope.names.drop (k + 1), z.2 ≠ .cell) /\ scope.names.lookup y = some .cell /\ (∀ z ∈ scope.names, z.2 = .local -> scope.names.lookup z.1 = some .local) /\ (tg ++ cs).Nodup /\ ix.map (fun i => N[i]?) = cs.map some /\
 (∀ x ∈ cs, (x, NameKind.free) ∈ scope.names /\ scope.names.lookup x = some .free) /\ (y, NameKind.free) ∉ scope.names /\ ∀ z ∈ scope.names, z.2 = .free -> osc.names.lookup z.1 = some .cell \/ osc.names.lookup z.1 = some .free
noncomputable instance (scope osc : Scope) (N : List Str) (y : Str) (tg cs : List Str) (ix : List Nat) (k : Nat) : Decidable (iZ scope osc N y tg cs ix k) := by unfold iZ; infer_instance
theorem jU {X : Cx} {scope : Scope} {y : Str} {tg cs : List Str} (osc : Scope) (N : List Str) (k : Nat) (h : iZ scope osc N y tg cs ix k) (hk : scope.kind = .function := by rfl) (ho : X.env.scope = osc := by rfl) (hN : X.N = N := by rfl) : dq X scope y tg cs ix := by
 obtain ⟨a1, a2, a3, h1, h2, h3, h4, h5, h6, h7⟩ := h
 have hlt := (List.getElem?_eq_some_iff.mp a1).1
 refine ⟨hk, ⟨scope.names.take k, scope.names.drop (k + 1), ?_, a2, a3⟩, h1, h2, h3, by rw [hN]; exact h4, h5, h6, fun x hx => by rw [ho]; exact h7 (x, .free) hx rfl⟩
 have e : scope.names[k] = (y, .cell) := (List.getElem?_eq_some_iff.mp a1).2
 rw [<- e, <- List.drop_eq_getElem_cons hlt, List.take_append_drop]
theorem i6 {X : Cx} {env : Env} {scope : Scope} {tg cs : List Str} (osc : Scope) (N : List Str) (h : iC scope osc N tg cs ix) (ho : X.env.scope = relabel osc env := by rfl) (hk : scope.kind = .function := by rfl) (hN : X.N = N := by rfl) : aL X scope tg cs ix := by
 obtain ⟨h1, h2, h3, h4, h5, h6⟩ := h
 refine ⟨hk, h1, h2, h3, by rw [hN]; exact h4, h5, fun x hx => ?_⟩
 rw [ho]
 rcases h6 (x, .free) hx rfl with e | e
 ·refine .inl ?_
  show (osc.names.map fun (n, k) => if (k == NameKind.free && env.scope.kind == .function && env.kindOf n == some .cell) then (n, NameKind.cell) else (n, k)).lookup x = _
  rw [cy]
  have e : osc.names.lookup x = some .cell := e
  rw [e]
  rfl
 ·exact bL e
end L2
end
section
namespace L2
open PySem PySem.Spec PyProof.Rows PySem.W
noncomputable abbrev p9 := (α : Type) -> Sem α -> Sem α
noncomputable abbrev i7 := St -> List V -> (List V -> Hp -> Prop) -> Hp -> Prop
noncomputable abbrev goIn (c : Expr) (lev : Nat) (i : Expr) (acc : Value) (env : Env) : p9 := fun _ r => do
 let x <- eval i env; standAt i.pos; let x <- foldedSetIterable i env x; let _ <- runOwn (.compStart c lev (<- holding [x] (pyIter x)) acc env) env; r
noncomputable abbrev vE (elt : Expr) (acc : Value) (env : Env) : p9 := fun _ r => do { (do { let _ <- call (.builtin "list.append") [acc, <- eval elt env] }); r }
noncomputable def i8 (c : Expr) (lev : Nat) (t i : Expr) (act : Value -> Env -> p9) : Prop := (∀ (it acc : Value) (env : Env), compTurn c lev it acc env = (do { standAt i.pos; match <- pyNext it with | none => pure (.done .next) | some v => (do { letOwnedTupleGo t it v; assign t env v; act acc env _ (again (.compLoop c lev it acc env)) }) })) /\ (∀ (P : Program) (w : World) (it acc : Value) (env : Env), (model P w).den (.compLoop c lev it acc env) = (compTurn c lev it acc env).onRaise (fun x => do noteFrame x env; theTreesLotGoes x)) /\ ∀ (A : Around) (it acc : Value) (env : Env), A.under (.compLoop c lev it acc env) = A
noncomputable def i9 (c : Expr) (lev : Nat) : Prop := ∀ {P : Program} {w : World} {A : Around} {R : Result -> Shared -> Prop} {s : Shared} {it acc : Value} {env : Env}, codeAny (model P w) A (.compLoop c lev it acc env) R s -> wpAny (model P w) A (pyIter it) (fun y s' => codeAny (model P w) A (.compLoop c lev y acc env) R s') (notedBy (model P w) A env fun x s' => R (.error x) s') s -> codeAny (model P w) A (.compStart c lev it acc env) R s
noncomputable def yV (Y : Cx) (D : Addr) (act : p9) (ta : i7) : Prop := ∀ {pins : List (Addr × Obj)} {σ : St} {H : Hp} {s : Shared} {ys : List V} {its : List Value} {k : Nat} {Nx : List V -> Hp -> Prop}, Inv Y pins σ H s -> (∀ p ∈ Y.pn ++ pins, p.1 ≠ D) -> H D = none -> s.heap.get? D = some (lso its k) -> Vals ys its -> ta σ ys Nx H ->
 ∀ {α : Type} {r : Sem α} {Q : α -> Shared -> Prop} {E : Value -> Shared -> Prop}, (∀ s' ys' its' k' σ' H', Inv Y pins σ' H' s' -> σ' = σ -> H' D = none -> s'.heap.get? D = some (lso its' k') -> Vals ys' its' -> Nx ys' H' -> wpAny (model Y.prog Y.w) Y.A r Q E s') -> wpAny (model Y.prog Y.w) Y.A (act α r) Q E s
noncomputable def gx (te : TE) : i7 := fun σ ys Nx H => ys.length < sizeLine /\ te σ H fun v H6 => Nx (ys ++ [v]) H6
theorem nk {Y : Cx} {elt : Expr} {te : TE} {D : Addr} (hxe : ∀ e s, ¬Y.xe e s) (he : PE Y elt te) (dL : D ≠ Y.env.locals) (dS : Y.s₀.heap.objs.size <= D) (dC : ∀ x c, Y.env.cells.lookup x = some c -> c ≠ D) (dF : D ∉ Y.fs) : yV Y D (vE elt (.ref D) Y.env) (gx te) := by
 rintro pins σ H s ys its k Nx I dP dn dg vy ⟨hz, h⟩ α r Q E fin
 have nc : ∀ v, (lso its k).data ≠ .cell v := fun v z => by have z' : Data.seq _ _ = Data.cell v := z; cases z'
 have pinD : Inv Y (pins ++ [(D, lso its k)]) σ H s := I.pins_of fun p hp => by
  rcases List.mem_append.mp hp with hp | hp
  ·exact I.pin p (List.mem_append_right _ hp)
  ·rw [List.mem_singleton.mp hp]; exact ⟨dg, dn, dL, dF, nc⟩
 refine wpAny_bind (wpAny_bind (wpAny_mono (he _ s σ H _ pinD h) (fun y s10 zr1 => ?_) fun e s z => (hxe e s z).elim))
 obtain ⟨v, H10, I10, rv, nx⟩ := zr1
 have d6 := I10.pin (D, lso its k) (List.mem_append_right _ (List.mem_append_right _ List.mem_cons_self))
 have hl5 := vy.length
 refine wpAny_bind (call_meets F.slot_list_append ⟨_, d6.1, rfl⟩ F.entry_list_append (F.args_list_append_2 _ _) (PySem.list_append D its.toArray k y (by rw [List.size_toArray]; lia)) ⟨d6.1, ?_⟩)
 have g10 := PySem.IsL.update d6.1 (·.push y)
 rw [show its.toArray.push y = (its ++ [y]).toArray by simp] at g10
 have I12 : Inv Y pins σ H10 { s10 with heap := s10.heap.update D (Obj.mapSeq (·.push y)) } :=
  I10.unpinned.turned (t' := s10.toks) (fun b o hb e => (Heap.get?_update_other s10.heap (Obj.mapSeq (·.push y)) (Ne.symm hb)).trans e) d6.2.1 dL (.inr dS) dC dP
 exact wpAny_pure (fin _ (ys ++ [v]) (its ++ [y]) _ σ H10 I12 rfl d6.2.1 g10 (vy.append (.cons rv .nil)) nx)
noncomputable def jV (wi : TI) (a : Nat) (ta : i7) : i7 := fun σ ys Nx H => (∀ v, σ[a]? ≠ some (some v)) /\ wi σ H fun J H1 => ∃ W : Nat -> Nat -> List V -> Hp -> Prop, (∃ m, W 0 m ys H1) /\ ∀ j m zs H2, W j m zs H2 ->
 (J.stop j H2 /\ Nx zs H2) \/ (J.go j H2 /\ ∃ N2 : List V -> Hp -> Prop, (∀ zs' H', N2 zs' H' -> ∃ m', m' < m /\ W (j + 1) m' zs' H') /\ ∀ x H3, J.yld j H2 x H3 -> ta (σ.set a (some x)) zs N2 H3)
theorem mf {Y : Cx} {c t i : Expr} {lev a : Nat} {act : Value -> Env -> p9} {wi : TI} {ta : i7} {D : Addr} (hturn : i8 c lev t i act) (hstart : i9 c lev) (hcalm : Y.calm = true) (hxe : ∀ e s, ¬Y.xe e s) (hi : PI Y t i wi) (hg : PG Y t (aZ a)) (ha : yV Y D (act (.ref D) Y.env) ta)
  (dL : D ≠ Y.env.locals) (dS : Y.s₀.heap.objs.size <= D) (dC : ∀ x c, Y.env.cells.lookup x = some c -> c ≠ D) (dF : D ∉ Y.fs) (hs : ∀ x, foldedSetIterable i Y.env x = pure x) : yV Y D (goIn c lev i (.ref D) Y.env) (jV wi a ta) := by
 rintro pins σ H s ys its k Nx I dP dn dg vy ⟨hu, h⟩ α r Q E fin
 have nc : ∀ (its : List Value) (k : Nat) v, (lso its k).data ≠ .cell v := fun its k v z => by have z' : Data.seq _ _ = Data.cell v := z; cases z'
 have pinD : ∀ {H' : Hp} {s' : Shared} {its' : List Value} {k' : Nat}, Inv Y pins σ H' s' -> H' D = none -> s'.heap.get? D = some (lso its' k') -> Inv Y (pins ++ [(D, lso its' k')]) σ H' s' := fun I' n' g' => I'.pins_of fun p hp => by
  rcases List.mem_append.mp hp with hp | hp
  ·exact I'.pin p (List.mem_append_right _ hp)
  ·rw [List.mem_singleton.mp hp]; exact ⟨g', n', dL, dF, nc _ _⟩
 refine wpAny_bind (wpAny_mono (hi _ s σ H _ (pinD I dn dg) h) (fun v s1 h1 => ?_) fun e s z => (hxe e s z).elim)
 refine wpAny_bind (wpAny_standAt ?_)
 rw [hs]
 refine wpAny_bind (wpAny_pure (wpAny_bind (wpAny_holding (wpAny_mono h1 (fun itv s2 h2 => ?_) fun e s z => (hxe e s z).elim))))
 obtain ⟨it, fp, tn, J, H2, rfl, I2, T, st2, f2', W, ⟨m0, w0⟩, turn⟩ := h2
 have Dfp : D ∉ fp := fun z => (f2' D z).2.2.2.2.2 (D, lso its k) (List.mem_append_right _ (List.mem_append_right _ List.mem_cons_self)) rfl
 have stat : ∀ {H' : Hp} {its' : List Value} {k' : Nat}, (∀ b ∈ fp, H' b = none) -> ∀ b ∈ fp, dw Y (pins ++ [(D, lso its' k')]) H' b := fun hn b hb => by
  obtain ⟨_, a1, a2, a3, a4, a5⟩ := f2' b hb
  refine ⟨hn b hb, a1, a2, a3, a4, fun p hp z => ?_⟩
  rcases List.mem_append.mp hp with hp | hp
  ·exact a5 p (List.mem_append_left _ hp) z
  ·rcases List.mem_append.mp hp with hp | hp
   ·exact a5 p (List.mem_append_right _ (List.mem_append_left _ hp)) z
   ·rw [List.mem_singleton.mp hp] at z; have z : D = b := z; exact Dfp (z ▸ hb)
 have d2 := I2.pin (D, lso its k) (List.mem_append_right _ (List.mem_append_right _ List.mem_cons_self))
 have loop : codeAny (model Y.prog Y.w) Y.A (.compLoop c lev (.ref it) (.ref D) Y.env) (fun res s' => match res with | .ok _ => wpAny (model Y.prog Y.w) Y.A r Q E s' | .error e => cameBackBy (model Y.prog Y.w) Y.A Y.env E e s') s2 := by
  refine codeAny_loop rfl (fun n s' => ∃ j zs its k H', Inv Y pins σ H' s' /\ tn j s'.heap /\ (∀ b ∈ fp, H' b = none) /\ H' D = none /\ s'.heap.get? D = some (lso its k) /\ Vals zs its /\ W j n zs H') ?_ m0 ⟨0, ys, its, k, H2, I2.unpinned, st2, fun b hb => (f2' b hb).1, d2.2.1, d2.1, vy, w0⟩
  rintro n s5 ⟨j, zs, its5, k5, H5, I5, st5, fr5, d5, o5, v5, w5⟩
  rw [hturn.2.1, hturn.2.2]
  refine wpAny_noted (m := compTurn c lev (.ref it) (.ref D) Y.env) ?_
  rw [hturn.1]
  have pin0 := pinD I5 d5 o5
  refine wpAny_bind (wpAny_standAt (wpAny_bind ?_))
  rcases turn j n zs H5 w5 with ⟨stop, qn⟩ | ⟨go, N2, hN, step⟩
  ·refine thn (T.done Y rfl rfl rfl hcalm j _ s5 _ H5 _ pin0 (stat fr5) st5 stop) fun r s6 zr1 => ?_
   obtain ⟨hr, I6⟩ := zr1
   subst hr
   have d6 := I6.pin (D, lso its5 k5) (List.mem_append_right _ (List.mem_append_right _ List.mem_cons_self))
   exact wpAny_pure (fin s6 zs its5 k5 σ H5 I6.unpinned rfl d5 d6.1 v5 qn)
  ·refine thn (T.item Y rfl rfl rfl hcalm j _ s5 _ H5 _ pin0 (stat fr5) st5 go) fun r s6 zr1 => ?_
   obtain ⟨u, hr, h6⟩ := zr1
   subst hr
   refine wpAny_bind (thn h6 fun _ s7 zr1 => ?_)
   obtain ⟨x, H7, I7, r7, y7, st7, fr7⟩ := zr1
   have I7' := I7.pinned (stat fr7) (T.obj _ _ st7)
   refine wpAny_bind (wpAny_mono (hg _ s7 _ H7 x u (fun σ8 H8 => σ8 = σ.set a (some x) /\ H8 = H7) I7' r7 ⟨rfl, rfl⟩) (fun _ s8 zr1 => ?_) fun e s z => (hxe e s z).elim)
   obtain ⟨σ8, H8, I8, e8, e8'⟩ := zr1
   subst e8; subst e8'
   have d8 := I8.pin (D, lso its5 k5) (List.mem_append_right _ (List.mem_append_left _ (List.mem_append_right _ List.mem_cons_self)))
   have I9 : Inv Y (pins ++ bP fp s7.heap) (σ.set a (some x)) H8 s8 := I8.pins_of fun p hp => by
    rcases List.mem_append.mp hp with hp | hp
    ·exact I8.pin p (List.mem_append_right _ (List.mem_append_left _ (List.mem_append_left _ hp)))
    ·exact I8.pin p (List.mem_append_right _ (List.mem_append_right _ hp))
   refine ha I9 (fun p hp => ?_) d8.2.1 d8.1 v5 (step x H8 y7) fun s10 zs' its' k' σ' H10 I10 e10 d10 g10 v10 nx => ?_
   ·rcases List.mem_append.mp hp with hp | hp
    ·exact dP p (List.mem_append_left _ hp)
    ·rcases List.mem_append.mp hp with hp | hp
     ·exact dP p (List.mem_append_right _ hp)
     ·exact fun z => Dfp (z ▸ (dW hp).1)
   ·subst e10
    have pn := fun (b : Addr) (hb : b ∈ fp) (o : Obj) (e : s7.heap.get? b = some o) => I10.pin (b, o) (List.mem_append_right _ (List.mem_append_right _ (aG hb e)))
    obtain ⟨m', hm, w8⟩ := hN zs' H10 nx
    refine wpAny_pure ⟨rfl, m', hm, j + 1, zs', its', k', H10, I10.unpinned.weak (by simp) (fun i v e => ?_), T.keep _ _ _ st7 fun b hb o e => (pn b hb o e).1, fun b hb => ?_, d10, g10, v10, w8⟩
    ·by_cases hia : a = i
     ·subst hia; exact (hu v e).elim
     ·rw [List.getElem?_set_ne hia]; exact e
    ·obtain ⟨o, e, _⟩ := T.obj _ _ st7 b hb
     exact (pn b hb o e).2.1
 exact wpAny_bind (wpAny_runOwn (hstart (A := Y.A) loop (T.self _ 0 _ _ _ st2 loop)))
end L2
end
section
namespace L2
open PySem PySem.Spec PyProof.Rows PySem.W
section
variable {elt t1 i1 t2 i2 t3 i3 : Expr} {scope : Scope} {pos : Pos}
noncomputable abbrev aU (elt t1 i1 t2 i2 t3 i3 : Expr) (scope : Scope) (pos : Pos) : Expr := .ListComp elt [⟨t1, i1, [], 0⟩, ⟨t2, i2, [], 0⟩, ⟨t3, i3, [], 0⟩] scope pos
theorem tI : i8 (aU elt t1 i1 t2 i2 t3 i3 scope pos) 0 t1 i1 (goIn (aU elt t1 i1 t2 i2 t3 i3 scope pos) 1 i2) := ⟨fun _ _ _ => by rfl, fun _ _ _ _ _ => by rfl, fun _ _ _ _ => by rfl⟩
theorem tJ : i8 (aU elt t1 i1 t2 i2 t3 i3 scope pos) 1 t2 i2 (goIn (aU elt t1 i1 t2 i2 t3 i3 scope pos) 2 i3) := ⟨fun _ _ _ => by rfl, fun _ _ _ _ _ => by rfl, fun _ _ _ _ => by rfl⟩
theorem tK : i8 (aU elt t1 i1 t2 i2 t3 i3 scope pos) 2 t3 i3 (vE elt) := ⟨fun _ _ _ => by rfl, fun _ _ _ _ _ => by rfl, fun _ _ _ _ => by rfl⟩
theorem qa : i9 (aU elt t1 i1 t2 i2 t3 i3 scope pos) 1 := fun {P w A R s it acc env} h0 h => by
 refine codeAny_of_tree (wpAny_notedAt (m := compStart (aU elt t1 i1 t2 i2 t3 i3 scope pos) 1 it acc env) ?_)
 unfold compStart
 refine (show wpAny _ _ (ask >>= _) _ _ s from wpAny_bind (wpAny_askSetting (wpAny_ite ?_)))
 split
 ·exact wpAny_pure ⟨rfl, h0⟩
 ·exact wpAny_bind (wpAny_rule (wpAny_bind (m := standAt i2.pos) (wpAny_standAt (wpAny_bind (wpAny_mono h (fun y s' q => wpAny_pure ⟨rfl, q⟩) fun _ _ x => x)))))
theorem qb : i9 (aU elt t1 i1 t2 i2 t3 i3 scope pos) 2 := fun {P w A R s it acc env} h0 h => by
 refine codeAny_of_tree (wpAny_notedAt (m := compStart (aU elt t1 i1 t2 i2 t3 i3 scope pos) 2 it acc env) ?_)
 unfold compStart
 refine (show wpAny _ _ (ask >>= _) _ _ s from wpAny_bind (wpAny_askSetting (wpAny_ite ?_)))
 split
 ·exact wpAny_pure ⟨rfl, h0⟩
 ·exact wpAny_bind (wpAny_rule (wpAny_bind (m := standAt i3.pos) (wpAny_standAt (wpAny_bind (wpAny_mono h (fun y s' q => wpAny_pure ⟨rfl, q⟩) fun _ _ x => x)))))
end
section
variable {X : Cx}
noncomputable def ja (wi : TI) (n : Nat) (ix : List Nat) (ta : i7) : TE := fun σ H Q => wi σ H fun J H1 => ∃ W : Nat -> Nat -> List V -> Hp -> Prop, (∃ m, W 0 m [] H1) /\ ∀ i m ys H2, W i m ys H2 ->
 (J.stop i H2 /\ ys.length <= sizeLine /\ ∀ D, H2 D = none -> Q (.ref D) (upd H2 D (.lst ys))) \/
 (J.go i H2 /\ ∃ Nx : List V -> Hp -> Prop, (∀ ys' H', Nx ys' H' -> ∃ m', m' < m /\ W (i + 1) m' ys' H') /\ ∀ x H3, J.yld i H2 x H3 -> ta ((capt n ix σ).set 0 (some x)) ys Nx H3)
theorem nq {elt t1 i1 t2 i2 t3 i3 : Expr} {scope : Scope} {pos spos py : Pos} {yy : Str} {ii : Nat} {tg cs : List Str} {wi wi2 wi3 : TI} {te : TE} (hN0 : X.N.Nodup) (hi0 : X.N[ii]? = some yy) (hx0 : Loc X.env.scope yy)
    (S : aL X scope tg cs ix) (hcalm : X.calm = true) (hn : 2 < tg.length)
    (hi : PI X t1 i1 wi) (hg : ∀ C fp s H, PG (ak X scope (tg ++ cs) C fp s H) t1 (aZ 0)) (hi2 : ∀ C fp s H, PI (ak X scope (tg ++ cs) C fp s H) t2 i2 wi2) (hg2 : ∀ C fp s H, PG (ak X scope (tg ++ cs) C fp s H) t2 (aZ 1)) (hi3 : ∀ C fp s H, PI (ak X scope (tg ++ cs) C fp s H) t3 i3 wi3) (hg3 : ∀ C fp s H, PG (ak X scope (tg ++ cs) C fp s H) t3 (aZ 2)) (he : ∀ C fp s H, PE (ak X scope (tg ++ cs) C fp s H) elt te)
    (hf0 : X.fn yy = true \/ X.env.scope.names.lookup yy = some .local)
    (hsw : swapsWith (aU elt t1 i1 t2 i2 t3 i3 scope pos) (some (.Name yy py)) spos.line X.env = pure true)
    (hs : ∀ x, foldedSetIterable i1 X.env x = pure x := by intro _; rfl) (hs2 : ∀ (e : Env) x, foldedSetIterable i2 e x = pure x := by intro _ _; rfl) (hs3 : ∀ (e : Env) x, foldedSetIterable i3 e x = pure x := by intro _ _; rfl) : PS X (.Assign [.Name yy py] (aU elt t1 i1 t2 i2 t3 i3 scope pos) spos) (cU (ja wi tg.length ix (jV wi2 1 (jV wi3 2 (gx te)))) (aZ ii)) := by
  intro pins s σ H Dn I h
  rw [exec_Assign_Name_used _ _ _ _ hsw]
  refine wpAny_bind (wpAny_standAt (wpAny_bind ?_))
  show wpAny _ X.A (do let _ <- comprehension (aU elt t1 i1 t2 i2 t3 i3 scope pos) scope X.env _ (newList []) false (eval i1 X.env) (some (assign (.Name yy py) X.env))) _ _ s
  refine wpAny_bind (wpAny_mono (wpAny_comprehension_free (use := some (assign (.Name yy py) X.env)) (Q := fun _ s' => SP X pins Dn .next s') (cl := aV X.env scope.names []) rfl hs (cC fun n hn => I.ok.has n (S.out n hn)) S.kind S.names ?_) (fun _ s' hq => wpAny_pure (wpAny_pure hq)) fun _ _ e => e)
  refine wpAny_mono (hi pins s σ H _ I h) (fun v s1 h1 => wpAny_mono h1 (fun itv s2 h2 => ?_) fun _ _ e => e) fun _ _ e => e
  obtain ⟨it, fp, tn, J, H2, rfl, I2, T, st2, fpk, W, ⟨m0, w0⟩, turn⟩ := h2
  refine wpAny_newObj_type (wpAny_newFunctionEnv S.nocell (by intro y hy; simp at hy) (fun h1 hns1 hsb1 => ?_) S.kind)
  dsimp only at hns1 hsb1 ⊢
  generalize hP : s2.heap.push { cls := .type "list", dict := none, data := .seq ([] : List Value).toArray } = P2 at hns1 hsb1 ⊢
  have hCs : P2.objs.size = s2.heap.objs.size + 1 := by rw [<- hP, Heap.size_push]
  have hDC : s2.heap.objs.size ≠ P2.objs.size := by rw [hCs]; exact Nat.ne_of_lt (Nat.lt_succ_self _)
  have hCle : s2.heap.objs.size <= P2.objs.size := by rw [hCs]; exact Nat.le_succ _
  generalize hCg : P2.objs.size = C at *
  have old : ∀ b o, s2.heap.get? b = some o -> h1.get? b = some o := fun b o e => hsb1.extBut b o (Nat.ne_of_lt (Nat.lt_of_lt_of_le (Heap.lt_size e) hCle)) (Heap.get?_push_of_some _ (hP ▸ Heap.get?_push_of_some _ e))
  generalize hDg : s2.heap.objs.size = D at *
  have hD0 : h1.get? D = some { cls := .type "list", data := .seq ([] : List Value).toArray 0 } := hsb1.extBut _ _ hDC (Heap.get?_push_of_some _ (hP ▸ hDg ▸ Heap.get?_push_size _ rfl))
  have nC : H2 C = none := I2.hok.fresh (by rw [hDg]; exact hCle)
  have nD : H2 D = none := I2.hok.fresh (by rw [hDg]; exact Nat.le_refl _)
  have fo : ∀ b ∈ fp, ∃ o, s2.heap.get? b = some o := fun b hb => let ⟨o, e, _⟩ := T.obj _ _ st2 b hb; ⟨o, e⟩
  have Dfp : D ∉ fp := fun z => by
    obtain ⟨o, e⟩ := fo D z
    have := Heap.lt_size e
    rw [hDg] at this
    exact absurd this (Nat.lt_irrefl _)
  have Dfs : D ∉ frs X.stack := fun z => by
    rcases List.mem_cons.mp (I2.stkSub D z) with e | e
    · have := I2.lt
      rw [<- e, hDg] at this
      exact absurd this (Nat.lt_irrefl _)
    · exact I2.nofs (by rw [hDg]; exact Nat.le_refl _) e
  have DcY : ∀ x c, (aV X.env scope.names []).lookup x = some c -> c ≠ D := fun x c e => by
    rcases cj (PySem.mem_of_lookup e) with h | h
    · cases h
    · exact (I2.fpOk (H' := H2) (b := D) (by rw [hDg]; exact Nat.le_refl _) nD).2.2.2.2.1 x c h
  -- the block's context
  have Yok : ∀ s4 : Shared, s4 = { s2 with heap := h1, toks := s2.toks + ([] : List (Str × Value)).length } -> Inv (ak X scope (tg ++ cs) C fp s2 H2) [] (capt tg.length ix σ) H2 s4 := by
    rintro s4 rfl
    exact eD S I2 fpk fo (by rw [hDg]; exact hCle) old (by simpa using hns1) rfl I2.bare nC
  -- the loop
  have loop : ∀ s4 : Shared, s4 = { s2 with heap := h1, toks := s2.toks + ([] : List (Str × Value)).length } ->
      codeAny (model X.prog X.w) X.A (.compLoop (aU elt t1 i1 t2 i2 t3 i3 scope pos) 0 (.ref it) (.ref D) (compEnvC scope (aV X.env scope.names []) C X.env)) (compPost (model X.prog X.w) X.A X.xe (some (assign (.Name yy py) X.env)) (fun _ s' => SP X pins Dn .next s') (.ref D) C) s4 := by
    intro s4 e4
    refine codeAny_loop rfl (fun n s' => ∃ i ys its k H', Inv (ak X scope (tg ++ cs) C fp s2 H2) [] (capt tg.length ix σ) H' s' /\ tn i s'.heap /\ (∀ b ∈ fp, H' b = none) /\ H' D = none /\ s'.heap.get? D = some (lso its k) /\ Vals ys its /\ W i n ys H')
      ?_ m0 ⟨0, [], [], 0, H2, Yok s4 e4, ?_, fun b hb => (fpk b hb).1, nD, by rw [e4]; exact hD0, .nil, w0⟩
    · rintro n s5 ⟨i, ys, its, k, H5, I5, st5, fr5, d5, o5, v5, w5⟩
      show wpAny _ X.A ((compTurn (aU elt t1 i1 t2 i2 t3 i3 scope pos) 0 (.ref it) (.ref D) (compEnvC scope (aV X.env scope.names []) C X.env)).onRaise (fun x => do noteFrame x (compEnvC scope (aV X.env scope.names []) C X.env); theTreesLotGoes x)) _ _ s5
      refine wpAny_noted ?_
      rw [(tI (elt := elt) (t1 := t1) (i1 := i1) (t2 := t2) (i2 := i2) (t3 := t3) (i3 := i3) (scope := scope) (pos := pos)).1]
      have pin0 : Inv (ak X scope (tg ++ cs) C fp s2 H2) [(D, (lso its k))] (capt tg.length ix σ) H5 s5 := I5.pins_of fun p hp => by
        have e : p = (D, (lso its k)) := by simpa using hp
        subst e
        exact ⟨o5, d5, hDC, Dfs, fun v z => by have z' : Data.seq _ _ = Data.cell v := z; cases z'⟩
      have fpY : ∀ {H' : Hp}, (∀ b ∈ fp, H' b = none) -> ∀ b ∈ fp, dw (ak X scope (tg ++ cs) C fp s2 H2) [(D, (lso its k))] H' b := fun hn b hb =>
        ⟨hn b hb, (I5.ok.exf b hb).1, fun z => I5.ok.exfs b hb z, .inl hb, (I5.ok.exf b hb).2, fun p hp z => by
          have hp : p ∈ ([] : List (Addr × Obj)) ++ [(D, (lso its k))] := hp
          have e : p = (D, (lso its k)) := by simpa using hp
          subst e
          have z : D = b := z
          exact Dfp (z ▸ hb)⟩
      refine wpAny_bind (wpAny_standAt (wpAny_bind ?_))
      rcases turn i n ys H5 w5 with ⟨stop, hz, qn⟩ | ⟨go, Nx, hN, step⟩
      · refine thn (T.done (ak X scope (tg ++ cs) C fp s2 H2) rfl rfl rfl hcalm i _ s5 _ H5 _ pin0 (fpY fr5) st5 stop) fun r s6 zr1 => ?_
        obtain ⟨hr, I6⟩ := zr1
        subst hr
        refine wpAny_pure ?_
        obtain ⟨mC, hnsC, _⟩ := id I6.loc
        have IX : Inv X pins σ H5 s6 := I2.call' (ch := fp) I6.os I6.base I6.hok I6.bare fun b hb => let ⟨_, a1, _, a3, a4, a5⟩ := fpk b hb; ⟨a3, a1, a4, a5⟩
        obtain ⟨_, b1, _, b3, b4, b5⟩ := I2.fpOk (H' := H5) (b := D) (by rw [hDg]; exact Nat.le_refl _) d5
        obtain ⟨_, c1, _, c3, c4, c5⟩ := I2.fpOk (H' := H5) (b := C) (by rw [hDg]; exact hCle) I6.free
        have gD : s6.heap.get? D = some (lso its k) := (I6.pin (D, (lso its k)) (List.mem_append_right _ List.mem_cons_self)).1
        have IXD : Inv X pins σ (upd H5 D (.lst ys)) s6 := IX.track d5 (by rw [<- hDg]; exact I2.sz) b1 b4 b5 ⟨hz, its, k, v5, gD⟩
        show wpAny _ X.A (assign (.Name yy py) X.env (.ref D)) _ _ s6
        refine wpAny_assign_Name (eM (v := .ref D) IXD hN0 hi0 hx0 rfl (fun s'' I'' zr1 => ?_) hf0)
        obtain ⟨a, sb, ha⟩ := zr1
        have hCa : C ≠ a := by
          rcases ha with rfl | ha
          · exact c1
          · exact (c4 _ _ ha).symm
        refine ⟨mC, hnsC.sameBut sb hCa, fun h' sb' => ⟨_, _, I''.turned (t' := s''.toks) (it := C) (fun b o hb e => (sb'.2 b hb).trans e) (by rw [au (Ne.symm hDC)]; exact I6.free) c1 c3 c4 c5, qn D d5⟩⟩
      · refine thn (T.item (ak X scope (tg ++ cs) C fp s2 H2) rfl rfl rfl hcalm i _ s5 _ H5 _ pin0 (fpY fr5) st5 go) fun r s6 zr1 => ?_
        obtain ⟨u, hr, h6⟩ := zr1
        subst hr
        refine wpAny_bind (thn h6 fun _ s7 zr1 => ?_)
        obtain ⟨x, H7, I7, r7, y7, st7, fr7⟩ := zr1
        have I7' := I7.pinned (fpY fr7) (T.obj _ _ st7)
        -- the next turn
        have again : ∀ {σ2 : St} {H8 : Hp} {s8 : Shared} {ys' : List V} {its' : List Value} {k' : Nat} , Inv (ak X scope (tg ++ cs) C fp s2 H2) [] σ2 H8 s8 -> (σ2.length = (capt tg.length ix σ).length /\ ∀ (i : Nat) (v : V), (capt tg.length ix σ)[i]? = some (some v) -> σ2[i]? = some (some v)) ->
            (∀ b ∈ fp, ∀ o, s7.heap.get? b = some o -> s8.heap.get? b = some o) -> (∀ b ∈ fp, H8 b = none) -> H8 D = none -> s8.heap.get? D = some (lso its' k') -> Vals ys' its' -> Nx ys' H8 ->
            ∃ m, m < n /\ ∃ i ys its k H', Inv (ak X scope (tg ++ cs) C fp s2 H2) [] (capt tg.length ix σ) H' s8 /\ tn i s8.heap /\ (∀ b ∈ fp, H' b = none) /\ H' D = none /\ s8.heap.get? D = some (lso its k) /\ Vals ys its /\ W i m ys H' := by
          intro σ2 H8 s8 ys' its' k' I8 kp fk fn dn dg vv nx
          obtain ⟨m', hm, w8⟩ := hN ys' H8 nx
          exact ⟨m', hm, i + 1, ys', its', k', H8, I8.weak kp.1.symm kp.2, T.keep _ _ _ st7 fk, fn, dn, dg, vv, w8⟩
        refine wpAny_bind (wpAny_mono (hg C fp s2 H2 _ s7 _ H7 x u (fun σ8 H8 => σ8 = (capt tg.length ix σ).set 0 (some x) /\ H8 = H7) I7' r7 ⟨rfl, rfl⟩) (fun _ s8 zr1 => ?_) fun _ _ z => z.elim)
        obtain ⟨σ8, H8, I8, e8, e8'⟩ := zr1
        subst e8; subst e8'
        have d8 := I8.pin (D, (lso its k)) (List.mem_append_right _ (List.mem_append_left _ List.mem_cons_self))
        have I9' : Inv (ak X scope (tg ++ cs) C fp s2 H2) (bP fp s7.heap) ((capt tg.length ix σ).set 0 (some x)) H8 s8 := I8.pins_of fun p hp => I8.pin p (List.mem_append_right _ (List.mem_append_right _ hp))
        have hS : (ak X scope (tg ++ cs) C fp s2 H2).s₀.heap.objs.size <= D := by show s2.heap.objs.size <= D; rw [hDg]; exact Nat.le_refl _
        refine mf (Y := ak X scope (tg ++ cs) C fp s2 H2) tJ qa hcalm (fun _ _ z => z) (hi2 C fp s2 H2) (hg2 C fp s2 H2) (mf (Y := ak X scope (tg ++ cs) C fp s2 H2) tK qb hcalm (fun _ _ z => z) (hi3 C fp s2 H2) (hg3 C fp s2 H2) (nk (Y := ak X scope (tg ++ cs) C fp s2 H2) (fun _ _ z => z) (he C fp s2 H2) hDC hS DcY Dfs) hDC hS DcY Dfs (hs3 _)) hDC hS DcY Dfs (hs2 _) I9' (fun p hp z => ?_) d8.2.1 d8.1 v5 (step x H8 y7) fun s12 zs its' k' σ' H12 I12 e12 d12 g12 v12 n12 => ?_
        · have hp : p ∈ bP fp s7.heap := hp
          exact Dfp (z ▸ (dW hp).1)
        · subst e12
          have pn := fun (b : Addr) (hb : b ∈ fp) (o : Obj) (e : s7.heap.get? b = some o) => I12.pin (b, o) (List.mem_append_right _ (aG hb e))
          refine wpAny_pure ⟨rfl, again (its' := its') (I12.pins_of fun p hp => nomatch hp) ⟨by simp, fun i v e => ?_⟩ (fun b hb o e => (pn b hb o e).1) (fun b hb => ?_) d12 g12 v12 n12⟩
          · by_cases h0 : 0 = i
            · subst h0; exact (bO (by lia) e).elim
            · rw [List.getElem?_set_ne h0]; exact e
          · obtain ⟨o, e, _⟩ := T.obj _ _ st7 b hb
            exact (pn b hb o e).2.1
    · rw [e4]; exact T.keep _ _ _ st2 fun b _ o e => old b o e
  exact codeAny_compStart_list (loop _ rfl) (T.self _ 0 _ _ _ (T.keep _ _ _ st2 fun b _ o e => old b o e) (loop _ rfl))
end
end L2
end
section
namespace VL
open PySem L2
noncomputable abbrev eW := List Sl -> List D -> (List D -> List Sl -> Prop) -> Prop
noncomputable def tL (K : PySem.W.Frag) (U : St -> Prop) (ta : i7) (va : eW) : Prop := ∀ H0 Z σ H S ys zs A Nx, OK K H0 Z σ H S -> U σ -> Reps K (NM Z σ S) (Fr H0) H ys zs -> va S zs A -> (∀ H' S' ys' zs', OK K H0 Z σ H' S' -> Step Z σ S H σ S' H' -> Reps K (NM Z σ S') (Fr H0) H' ys' zs' -> A zs' S' -> Nx ys' H') -> ta σ ys Nx H
noncomputable def jb (ve : VT) : eW := fun S zs A => zs.length < 1000000 /\ ve S fun r S1 => ∃ x, r = .d x /\ A (zs ++ [x]) S1
noncomputable def nu (vi : VTN) (a : Nat) (va : eW) : eW := fun S ys A => vi S fun es S5 => ∃ Jv : Nat -> List D -> List Sl -> Prop, Jv 0 ys S5 /\
 (∀ j e zs S6, es[j]? = some e -> Jv j zs S6 -> a < S6.length /\ va (S6.set a (.val e)) zs fun ws S9 => Jv (j + 1) ws (msk S6 S9)) /\ ∀ zs S6, Jv es.length zs S6 -> A zs S6
noncomputable def Uns (a : Nat) (σ : St) : Prop := ∀ v, σ[a]? ≠ some (some v)
section
variable {K : PySem.W.Frag} {X : Cx}
theorem qc {te : TE} {ve : VT} (se : SndE K true te ve) : tL K (fun _ => True) (gx te) (jb ve) := fun H0 Z σ H S ys zs A Nx k _ rz ⟨hl, h⟩ fin => by
 refine ⟨by rw [rz.length, sizeLine_eq]; exact Nat.lt_of_lt_of_le hl (by decide), se H0 _ σ H S _ _ k h fun v H1 r S1 k1 st1 rr ⟨x, er, q⟩ => ?_⟩
 subst er
 exact fin H1 S1 _ _ k1 st1 (Reps.append (rz.step st1) (.cons (Rep.mono (fun a n _ => ⟨n, rfl⟩) (fun _ x => x rfl) rr) .nil)) q
theorem qf {wi : TI} {vi : VTN} {a : Nat} {U : St -> Prop} {ta : i7} {va : eW} (si : SndI K wi vi) (sa : tL K U ta va) (hU : ∀ σ x, U σ -> U (σ.set a (some x))) : tL K (fun σ => Uns a σ /\ U σ) (jV wi a ta) (nu vi a va) := fun H0 Z σ H S ys zs A Nx k ⟨hu, hu2⟩ rz h fin => by
 refine ⟨hu, si H0 _ σ H S _ _ k h fun J es H6 S6 k6 st6 gd zr1 => ?_⟩
 obtain ⟨Jv, j0, hj, hd⟩ := zr1
 refine ⟨fun j m us H => m = es.length - j /\ j <= es.length /\ ∃ S7 ws, OK K H0 Z σ H S7 /\ Step Z σ S6 H6 σ S7 H /\ Reps K (NM Z σ S7) (Fr H0) H us ws /\ Jv j ws S7, ⟨es.length, by simp, Nat.zero_le _, S6, zs, k6, .refl, rz.step st6, j0⟩, ?_⟩
 rintro j m us H7 ⟨rfl, hjl, S7, ws, k7, st7, rw7, p7⟩
 obtain ⟨a1, a2, a3⟩ := gd σ S7 H7 (fun _ => k7.nm) st7.1 j
 by_cases hlt : j < es.length
 ·refine .inr ⟨a1 hlt, fun us' H' => ∃ S' ws', OK K H0 Z σ H' S' /\ Step Z σ S6 H6 σ S' H' /\ Reps K (NM Z σ S') (Fr H0) H' us' ws' /\ Jv (j + 1) ws' S', fun us' H' p => ⟨es.length - (j + 1), by lia, rfl, hlt, p⟩, fun x H8 y => ?_⟩
  obtain ⟨hgr, e, he, re⟩ := a2 x H8 y hlt
  replace k7 := k7.grow hgr
  replace st7 := st7.trans (.grow hgr)
  replace rw7 := rw7.step (.grow hgr)
  obtain ⟨hal, q⟩ := hj j e ws S7 he p7
  obtain ⟨k8, st8⟩ := k7.setVal hal re
  refine sa H0 Z _ H8 _ us ws _ _ k8 (hU _ _ hu2) (rw7.step st8) q fun H9 S9 us' ws' k9 st9 rw9 q9 => ?_
  obtain ⟨kf, sf, nf⟩ := k7.forget k9 (st8.trans st9) (by simp) fun i v ei => by
   by_cases hia : a = i
   ·subst hia; exact (hu v ei).elim
   ·rw [List.getElem?_set_ne hia]; exact ei
  exact ⟨_, ws', kf, st7.trans sf, rw9.mono (fun a n _ => ⟨nf a n, rfl⟩) fun _ x => x, q9⟩
 ·have e : j = es.length := by lia
  exact .inl ⟨a3 e, fin H7 S7 us ws k7 (st6.trans st7) rw7 (hd ws S7 (by rw [<- e]; exact p7))⟩
noncomputable def jc (vi : VTN) (n : Nat) (ix : List Nat) (va : eW) : VTN := fun S Q => vi S fun ds S1 => ∃ Iv : Nat -> List D -> List Sl -> Prop, Iv 0 [] S1 /\
 (∀ i d ys S2, ds[i]? = some d -> Iv i ys S2 -> va ((aO n ix S2).set 0 (.val d)) ys fun zs S6 => Iv (i + 1) zs (backS n ix S2 S6)) /\ ∀ ys S2, Iv ds.length ys S2 -> ys.length <= 1000000 /\ Q ys S2
theorem nv {wi : TI} {vi : VTN} {n : Nat} {ta : i7} {va : eW} {U : St -> Prop} (hn : 0 < n) (hnd : ix.Nodup) (si : SndI K wi vi) (sa : tL K U ta va) (hU : ∀ σ x, U ((L2.capt n ix σ).set 0 (some x))) : SndN K (ja wi n ix ta) (jc vi n ix va) := fun H0 Z σ H S Q C k t hq => by
 refine si H0 Z σ H S _ _ k t fun J ds H1 S1 k1 st1 gd zr1 => ?_
 obtain ⟨Iv, i0, hs, hd⟩ := zr1
 refine ⟨fun i m ys H => m = ds.length - i /\ i <= ds.length /\ ∃ S2 zs, OK K H0 Z σ H S2 /\ Step Z σ S1 H1 σ S2 H /\ Reps K (NM Z σ S2) (Fr H0) H ys zs /\ Iv i zs S2, ⟨ds.length, by simp, Nat.zero_le _, S1, [], k1, .refl, .nil, i0⟩, ?_⟩
 rintro i m ys H2 ⟨rfl, hi, S2, zs, k2, st2, rz, p⟩
 obtain ⟨g1, g2', g3⟩ := gd σ S2 H2 (fun _ => k2.nm) st2.1 i
 by_cases hlt : i < ds.length
 ·refine .inr ⟨g1 hlt, fun ys' H' => ∃ S' zs', OK K H0 Z σ H' S' /\ Step Z σ S1 H1 σ S' H' /\ Reps K (NM Z σ S') (Fr H0) H' ys' zs' /\ Iv (i + 1) zs' S', fun ys' H' p => ⟨ds.length - (i + 1), by lia, rfl, hlt, p⟩, fun x H3 y => ?_⟩
  obtain ⟨hgr, d, hd', rd⟩ := g2' x H3 y hlt
  replace k2 := k2.grow hgr
  replace st2 := st2.trans (.grow hgr)
  replace rz := rz.step (.grow hgr)
  have kc := k2.capt (n := n) hnd
  have rd' : Rep K (NM (Zin Z ix σ S2) (L2.capt n ix σ) (aO n ix S2)) AnyF H3 x d := rd.mono (fun a n _ => ⟨fun z => n (di.mp z), rfl⟩) fun _ x => x
  have rzc : Reps K (NM (Zin Z ix σ S2) (L2.capt n ix σ) (aO n ix S2)) (Fr H0) H3 ys zs := rz.mono (fun a n _ => ⟨fun z => n (di.mp z), rfl⟩) fun _ x => x
  have hl0 : 0 < (aO n ix S2).length := by simp [aO]; lia
  obtain ⟨k4, st4⟩ := kc.setVal hl0 rd'
  refine sa H0 _ _ H3 _ ys zs _ _ k4 (hU _ _) (rzc.step st4) (hs i d zs S2 hd' p) fun H5 S5 ys' zs' k5 st5 r5 q5 => ?_
  obtain ⟨kb, sb, nb⟩ := k2.back k5 (st4.trans st5) fun i v ei => by
   by_cases hia : 0 = i
   ·subst hia; exact (bO hn ei).elim
   ·rw [List.getElem?_set_ne hia]; exact ei
  exact ⟨_, zs', kb, st2.trans sb, r5.mono (fun a n _ => ⟨nb a n, rfl⟩) fun _ x => x, q5⟩
 ·have e : i = ds.length := by lia
  obtain ⟨hz, q⟩ := hd zs S2 (by rw [<- e]; exact p)
  refine .inl ⟨g3 e, by rw [rz.length, sizeLine_eq]; exact Nat.le_trans hz (by decide), fun l hp => ?_⟩
  exact hq l ys zs H2 _ S2 k2 (st1.trans st2) hp (aC hp) aw (bA hp (rz.mono (fun _ n _ => ⟨n, rfl⟩) fun _ x _ => x)) q
theorem tM {m : Bool} {te : TE} {t : VTN} (h : SndN K te t) : SndE K m te (mR t) := fun H0 Z σ H S Q C k t hc => h H0 Z σ H S _ _ k t fun a vs ds H1 H' S1 k1 st1 ha hg hl rr q =>
 hc _ H' (.d (.lst ds)) S1 (k1.grow hg) (st1.trans (.grow hg)) (Rep.lst (k1.nm ha) (fun _ => ⟨a, rfl, k1.dom a ha⟩) hl (rr.mono (fun b n e => ⟨n.1, rfl⟩) fun _ x _ => x)) q
theorem ny {elt t1 i1 t2 i2 t3 i3 : Expr} {scope : Scope} {pos : Pos} {spos py : Pos} {yy : Str} {ii : Nat} {tg cs : List Str} {wi wi2 wi3 : TI} {vi vi2 vi3 : VTN} {te : TE} {ve : VT} (hN0 : X.N.Nodup) (hi0 : X.N[ii]? = some yy) (hx0 : Loc X.env.scope yy) (hf0 : X.fn yy = true \/ X.env.scope.names.lookup yy = some .local) (Sc : aL X scope tg cs ix) (hcalm : X.calm = true) (hn : 2 < tg.length) (hnd : ix.Nodup)
  (hi : VI K X t1 i1 wi vi) (hg : ∀ C fp s H, PG (ak X scope (tg ++ cs) C fp s H) t1 (aZ 0)) (hi2 : ∀ C fp s H, VI K (ak X scope (tg ++ cs) C fp s H) t2 i2 wi2 vi2) (hg2 : ∀ C fp s H, PG (ak X scope (tg ++ cs) C fp s H) t2 (aZ 1)) (hi3 : ∀ C fp s H, VI K (ak X scope (tg ++ cs) C fp s H) t3 i3 wi3 vi3) (hg3 : ∀ C fp s H, PG (ak X scope (tg ++ cs) C fp s H) t3 (aZ 2)) (he : ∀ C fp s H, VE K (ak X scope (tg ++ cs) C fp s H) true elt te ve)
  (hsw : swapsWith (aU elt t1 i1 t2 i2 t3 i3 scope pos) (some (.Name yy py)) spos.line X.env = pure true := by rfl) (hs : ∀ x, foldedSetIterable i1 X.env x = pure x := by intro _; rfl) (hs2 : ∀ (e : Env) x, foldedSetIterable i2 e x = pure x := by intro _ _; rfl) (hs3 : ∀ (e : Env) x, foldedSetIterable i3 e x = pure x := by intro _ _; rfl) :
  VS K X (.Assign [.Name yy py] (aU elt t1 i1 t2 i2 t3 i3 scope pos) spos) (cU (ja wi tg.length ix (jV wi2 1 (jV wi3 2 (gx te)))) (aZ ii)) (kz (mR (jc vi tg.length ix (nu vi2 1 (nu vi3 2 (jb ve))))) (vgN ii)) := by
 have si2 : SndI K wi2 vi2 := (hi2 0 [] X.s₀ (fun _ => none)).snd
 have si3 : SndI K wi3 vi3 := (hi3 0 [] X.s₀ (fun _ => none)).snd
 have se : SndE K true te ve := (he 0 [] X.s₀ (fun _ => none)).snd
 have un : ∀ {a b : Nat} {σ : St} {x : V}, a ≠ b -> Uns b σ -> Uns b (σ.set a (some x)) := fun {a b σ x} h q v e => by rw [List.getElem?_set_ne h] at e; exact q v e
 have h : SndN K (ja wi tg.length ix (jV wi2 1 (jV wi3 2 (gx te)))) (jc vi tg.length ix (nu vi2 1 (nu vi3 2 (jb ve)))) :=
  nv (by lia) hnd hi.snd (qf si2 (qf si3 (qc se) fun _ _ _ => trivial) fun σ x q => ⟨un (by decide) q.1, trivial⟩) fun σ x => ⟨un (by decide) fun v e => bO (by lia) e, un (by decide) fun v e => bO hn e, trivial⟩
 exact ⟨nq hN0 hi0 hx0 Sc hcalm hn hi.pi hg (fun C fp s H => (hi2 C fp s H).pi) hg2 (fun C fp s H => (hi3 C fp s H).pi) hg3 (fun C fp s H => (he C fp s H).pe) hf0 hsw hs hs2 hs3, iD (tM (m := false) h) fun H0 Z σ H S v d Q C k r zt1 hc => by obtain ⟨hi, q⟩ := zt1; exact hc _ _ _ (k.setVal hi r).1 (k.setVal hi r).2 q⟩
variable {S : List Sl} {β : Type}
noncomputable def kIn (a : Nat) (va : eW) (ys : List D) (A : List D -> List Sl -> Prop) : List D -> List Sl -> Prop := fun es S5 => ∃ Jv : Nat -> List D -> List Sl -> Prop, Jv 0 ys S5 /\
 (∀ j e zs S6, es[j]? = some e -> Jv j zs S6 -> a < S6.length /\ va (S6.set a (.val e)) zs fun ws S9 => Jv (j + 1) ws (msk S6 S9)) /\ ∀ zs S6, Jv es.length zs S6 -> A zs S6
theorem yW {vi : VTN} {a : Nat} {va : eW} {ys : List D} {A : List D -> List Sl -> Prop} (h : vi S (kIn a va ys A)) : nu vi a va S ys A := h
noncomputable def vF (zs : List D) (A : List D -> List Sl -> Prop) : VR -> List Sl -> Prop := fun r S1 => ∃ x, r = .d x /\ A (zs ++ [x]) S1
theorem yX {ve : VT} {zs : List D} {A : List D -> List Sl -> Prop} (hl : zs.length < 1000000) (h : ve S (vF zs A)) : jb ve S zs A := ⟨hl, h⟩
theorem tN {zs : List D} {A : List D -> List Sl -> Prop} {x : D} (h : A (zs ++ [x]) S) : vF zs A (.d x) S := ⟨x, rfl, h⟩
theorem mh {xs : List β} {en : β -> D} {r : β -> List D} {a : Nat} {va : eW} {ys : List D} {A : List D -> List Sl -> Prop} (hi : a < S.length) (n : Nat) (hr : ∀ x ∈ xs, (r x).length <= n)
  (h : ∀ x ∈ xs, ∀ (zs : List D) (A : List D -> List Sl -> Prop), zs.length <= ys.length + xs.length * n -> (∀ S5, msk S S5 = S -> A (zs ++ r x) S5) -> va (S.set a (.val (en x))) zs A) (h2 : A (ys ++ xs.flatMap r) S) : kIn a va ys A (xs.map en) S := by
 refine ⟨fun j zs S' => S' = S /\ zs = ys ++ (xs.take j).flatMap r, ⟨rfl, by simp⟩, ?_, ?_⟩
 ·rintro i d zs S2 e ⟨rfl, rfl⟩
  obtain ⟨x, h1, rfl, hm, ht⟩ := aP e
  refine ⟨hi, h x hm _ _ ?_ fun S5 e5 => ⟨e5, ?_⟩⟩
  ·rw [List.length_append, List.length_flatMap]
   have : ∀ l : List β, (∀ x ∈ l, (r x).length <= n) -> (l.map fun a => (r a).length).sum <= l.length * n := fun l => by
    induction l with
    | nil => intro _; simp
    | cons y l ih =>
     intro hl
     have h1 := ih fun x hx => hl x (List.mem_cons_of_mem _ hx)
     have h2 := hl y List.mem_cons_self
     rw [List.map_cons, List.sum_cons, List.length_cons, Nat.succ_mul]
     lia
   have h3 := this (xs.take i) fun x hx => hr x (List.mem_of_mem_take hx)
   have h4 : (xs.take i).length * n <= xs.length * n := Nat.mul_le_mul_right _ (by rw [List.length_take]; exact Nat.min_le_right _ _)
   lia
  ·rw [ht, List.flatMap_append, <- List.append_assoc]
   simp
 ·rintro zs S2 ⟨rfl, rfl⟩
  rw [List.length_map, List.take_length]
  exact h2
noncomputable def qg (n : Nat) (ix : List Nat) (va : eW) (Q : List D -> List Sl -> Prop) : List D -> List Sl -> Prop := fun ds S1 => ∃ Iv : Nat -> List D -> List Sl -> Prop, Iv 0 [] S1 /\
 (∀ i d ys S2, ds[i]? = some d -> Iv i ys S2 -> va ((aO n ix S2).set 0 (.val d)) ys fun zs S6 => Iv (i + 1) zs (backS n ix S2 S6)) /\ ∀ ys S2, Iv ds.length ys S2 -> ys.length <= 1000000 /\ Q ys S2
theorem tO {vi : VTN} {n : Nat} {va : eW} {Q : List D -> List Sl -> Prop} (h : vi S (qg n ix va Q)) : jc vi n ix va S Q := h
theorem nA {xs : List β} {en : β -> D} {r : β -> List D} {n : Nat} {va : eW} {Q : List D -> List Sl -> Prop} (m : Nat) (hr : ∀ x ∈ xs, (r x).length <= m) (hm : xs.length * m <= 1000000)
  (h : ∀ x ∈ xs, ∀ (zs : List D) (A : List D -> List Sl -> Prop), zs.length <= xs.length * m -> (∀ S5, backS n ix S S5 = S -> A (zs ++ r x) S5) -> va ((aO n ix S).set 0 (.val (en x))) zs A) (h2 : Q (xs.flatMap r) S) : qg n ix va Q (xs.map en) S := by
 have this : ∀ l : List β, (∀ x ∈ l, (r x).length <= m) -> (l.flatMap r).length <= l.length * m := fun l => by
  induction l with
  | nil => intro _; simp
  | cons y l ih =>
   intro hl
   have h1 := ih fun x hx => hl x (List.mem_cons_of_mem _ hx)
   have h2 := hl y List.mem_cons_self
   rw [List.flatMap_cons, List.length_append, List.length_cons, Nat.succ_mul]
   lia
 refine ⟨fun j zs S' => S' = S /\ zs = (xs.take j).flatMap r, ⟨rfl, by simp⟩, ?_, ?_⟩
 ·rintro i d zs S2 e ⟨rfl, rfl⟩
  obtain ⟨x, h1, rfl, hx, ht⟩ := aP e
  refine h x hx _ _ ?_ fun S5 e5 => ⟨e5, ?_⟩
  ·have h3 := this (xs.take i) fun x hx => hr x (List.mem_of_mem_take hx)
   have h4 : (xs.take i).length * m <= xs.length * m := Nat.mul_le_mul_right _ (by rw [List.length_take]; exact Nat.min_le_right _ _)
   lia
  ·rw [ht, List.flatMap_append]
   simp
 ·rintro zs S2 ⟨rfl, rfl⟩
  rw [List.length_map, List.take_length]
  have h3 := this xs hr
  exact ⟨by lia, h2⟩
end
end VL
end
section
namespace L2
open PySem PySem.Spec PyProof.Rows
section
variable {X : Cx}
theorem nB {yy : Str} {kx vx target iter : Expr} {ifs : List Expr} {scope : Scope} {pos : Pos} {tg cs : List Str} {wi : TI} {g : TG} {tc : TT} {tk tv : TE} (hu : X.A.units + 64 < cLine) (S : dq X scope yy tg cs ix) (hcalm : X.calm = true) (kg : cr tg.length ix g)
    (hi : PI X target iter wi) (hg : ∀ C fp s H, PG (aQ X scope (tg ++ cs) yy C fp s H) target g) (hc : ∀ C fp s H, PTs (aQ X scope (tg ++ cs) yy C fp s H) ifs tc) (hk : ∀ C fp s H, PE (aQ X scope (tg ++ cs) yy C fp s H) kx tk) (hv : ∀ C fp s H, PE (aQ X scope (tg ++ cs) yy C fp s H) vx tv)
    (hs : ∀ x, foldedSetIterable iter X.env x = pure x := by intro _; rfl) : PE X (.DictComp kx vx [⟨target, iter, ifs, 0⟩] scope pos) (iT X.K wi tg.length ix g tc tk tv) := by
  intro pins s σ H Q I h
  rw [arm_eval_DictComp]
  refine wpAny_comprehension_free (use := none) (cl := aV X.env scope.names []) rfl hs (cC fun n hn => I.ok.has n (S.out n hn)) S.kind S.names ?_
  refine wpAny_mono (hi pins s σ H _ I h) (fun v s1 h1 => wpAny_mono h1 (fun itv s2 h2 => ?_) fun _ _ e => e) fun _ _ e => e
  obtain ⟨it, fp, tn, J, H2, rfl, I2, T, st2, f2, W, ⟨m0, w0⟩, turn⟩ := h2
  refine wpAny_newObj_type (gK S.one ?_)
  dsimp only
  generalize hP : s2.heap.push { cls := .type "dict", dict := none, data := .dict #[] } = P2
  have hCs : P2.objs.size = s2.heap.objs.size + 1 := by rw [<- hP, Heap.size_push]
  have hsz1 : (P2.push { cls := .type "dict", data := .dict #[] }).objs.size = P2.objs.size + 1 := Heap.size_push ..
  have hns1 : ((P2.push { cls := .type "dict", data := .dict #[] }).push { cls := .type "cell", data := .cell none }).Ns P2.objs.size fun _ => none := (Heap.Ns.new P2 (.type "dict")).keeps fun b o e => Heap.get?_push_of_some _ e
  have hcl1 : ((P2.push { cls := .type "dict", data := .dict #[] }).push { cls := .type "cell", data := .cell none }).IsCell (P2.objs.size + 1) none := ⟨_, hsz1 ▸ Heap.get?_push_size _ rfl, rfl⟩
  have old1 : ∀ b o, P2.get? b = some o -> ((P2.push { cls := .type "dict", data := .dict #[] }).push { cls := .type "cell", data := .cell none }).get? b = some o := fun b o e => Heap.get?_push_of_some _ (Heap.get?_push_of_some _ e)
  generalize hh1 : (P2.push { cls := .type "dict", data := .dict #[] }).push { cls := .type "cell", data := .cell none } = h1 at hns1 hcl1 old1 ⊢
  have hDC : s2.heap.objs.size ≠ P2.objs.size := by rw [hCs]; exact Nat.ne_of_lt (Nat.lt_succ_self _)
  have hCle : s2.heap.objs.size <= P2.objs.size := by rw [hCs]; exact Nat.le_succ _
  have hD0 : h1.get? s2.heap.objs.size = some { cls := .type "dict", data := .dict #[] } := old1 _ _ (hP ▸ Heap.get?_push_size _ rfl)
  have old : ∀ b o, s2.heap.get? b = some o -> h1.get? b = some o := fun b o e => old1 b o (hP ▸ Heap.get?_push_of_some _ e)
  generalize hCg : P2.objs.size = C at *
  generalize hDg : s2.heap.objs.size = D at *
  have nC : H2 C = none := I2.hok.fresh (by rw [hDg]; exact hCle)
  have nC1 : H2 (C + 1) = none := I2.hok.fresh (by rw [hDg]; exact Nat.le_succ_of_le hCle)
  have nD : H2 D = none := I2.hok.fresh (by rw [hDg]; exact Nat.le_refl _)
  have fo : ∀ b ∈ fp, ∃ o, s2.heap.get? b = some o := fun b hb => let ⟨o, e, _⟩ := T.obj _ _ st2 b hb; ⟨o, e⟩
  have Dfp : D ∉ fp := fun z => by
    obtain ⟨o, e⟩ := fo D z
    have := Heap.lt_size e
    rw [hDg] at this
    exact absurd this (Nat.lt_irrefl _)
  have Dfs : D ∉ frs X.stack := fun z => by
    rcases List.mem_cons.mp (I2.stkSub D z) with e | e
    · have := I2.lt
      rw [<- e, hDg] at this
      exact absurd this (Nat.lt_irrefl _)
    · exact I2.nofs (by rw [hDg]; exact Nat.le_refl _) e
  have DcY : ∀ x c, ((yy, C + 1) :: aV X.env scope.names []).lookup x = some c -> c ≠ D := fun x c e => by
    rw [List.lookup_cons] at e
    cases q : x == yy with
    | true =>
      rw [q] at e
      cases e
      lia
    | false =>
      rw [q] at e
      rcases cj (PySem.mem_of_lookup e) with h | h
      · cases h
      · exact (I2.fpOk (H' := H2) (b := D) (by rw [hDg]; exact Nat.le_refl _) nD).2.2.2.2.1 x c h
  -- the block's context
  have Yok : ∀ s4 : Shared, s4 = { s2 with heap := h1 } -> Inv (aQ X scope (tg ++ cs) yy C fp s2 H2) [] (capt tg.length ix σ) H2 s4 := by
    rintro s4 rfl
    exact nj S I2 f2 fo (by rw [hDg]; exact hCle) old hns1 hcl1 rfl I2.bare nC nC1
  -- the loop
  have loop : ∀ s4 : Shared, s4 = { s2 with heap := h1 } ->
      codeAny (model X.prog X.w) X.A (.compLoop (.DictComp kx vx [⟨target, iter, ifs, 0⟩] scope pos) 0 (.ref it) (.ref D) (compEnvC scope ((yy, C + 1) :: aV X.env scope.names []) C X.env)) (compPost (model X.prog X.w) X.A X.xe none (EP X pins σ Q) (.ref D) C) s4 := by
    intro s4 e4
    refine codeAny_loop rfl (fun n s' => ∃ i es o H', Inv (aQ X scope (tg ++ cs) yy C fp s2 H2) [] (capt tg.length ix σ) H' s' /\ tn i s'.heap /\ (∀ b ∈ fp, H' b = none) /\ H' D = none /\ s'.heap.get? D = some o /\ DctP D es s'.heap /\ W i n es H')
      ?_ m0 ⟨0, [], _, H2, Yok s4 e4, ?_, fun b hb => (f2 b hb).1, nD, by rw [e4]; exact hD0, lU (by rw [e4]; exact hD0) (by rw [<- hDg]; exact kC I2), w0⟩
    · rintro n s5 ⟨i, es, o, H5, I5, st5, fr5, d5, o5, v5, w5⟩
      show wpAny _ X.A ((compTurn (.DictComp kx vx [⟨target, iter, ifs, 0⟩] scope pos) 0 (.ref it) (.ref D) (compEnvC scope ((yy, C + 1) :: aV X.env scope.names []) C X.env)).onRaise (fun x => do noteFrame x (compEnvC scope ((yy, C + 1) :: aV X.env scope.names []) C X.env); theTreesLotGoes x)) _ _ s5
      refine wpAny_noted ?_
      rw [compTurn_dict]
      have pin0 : Inv (aQ X scope (tg ++ cs) yy C fp s2 H2) [(D, o)] (capt tg.length ix σ) H5 s5 := I5.pins_of fun p hp => by
        have e : p = (D, o) := by simpa using hp
        subst e
        exact ⟨o5, d5, hDC, Dfs, v5.nocell o5⟩
      have fpY : ∀ {H' : Hp}, (∀ b ∈ fp, H' b = none) -> ∀ b ∈ fp, dw (aQ X scope (tg ++ cs) yy C fp s2 H2) [(D, o)] H' b := fun hn b hb =>
        ⟨hn b hb, (I5.ok.exf b hb).1, fun z => I5.ok.exfs b hb z, .inl hb, (I5.ok.exf b hb).2, fun p hp z => by
          have hp : p ∈ ([] : List (Addr × Obj)) ++ [(D, o)] := hp
          have e : p = (D, o) := by simpa using hp
          subst e
          have z : D = b := z
          exact Dfp (z ▸ hb)⟩
      refine wpAny_bind (wpAny_standAt (wpAny_bind ?_))
      rcases turn i n es H5 w5 with ⟨stop, qn⟩ | ⟨go, hz, Nx, hN, step⟩
      · refine thn (T.done (aQ X scope (tg ++ cs) yy C fp s2 H2) rfl rfl rfl hcalm i _ s5 _ H5 _ pin0 (fpY fr5) st5 stop) fun r s6 zr1 => ?_
        obtain ⟨hr, I6⟩ := zr1
        subst hr
        refine wpAny_pure ?_
        obtain ⟨mC, hnsC, _⟩ := id I6.loc
        refine ⟨mC, hnsC, fun h' sb => ?_⟩
        have IX : Inv X pins σ H5 s6 := I2.call' (ch := fp) I6.os I6.base I6.hok I6.bare fun b hb => let ⟨_, a1, _, a3, a4, a5⟩ := f2 b hb; ⟨a3, a1, a4, a5⟩
        obtain ⟨_, c1, _, c3, c4, c5⟩ := I2.fpOk (H' := H5) (b := C) (by rw [hDg]; exact hCle) I6.free
        have IX2 : Inv X pins σ H5 { s6 with heap := h' } := IX.turned (t' := s6.toks) (fun b o hb e => (sb.2 b hb).trans e) I6.free c1 c3 c4 c5
        obtain ⟨_, b1, _, b3, b4, b5⟩ := I2.fpOk (H' := H5) (b := D) (by rw [hDg]; exact Nat.le_refl _) d5
        have gD : h'.get? D = some o := (sb.2 D hDC).trans (I6.pin (D, o) (List.mem_append_right _ List.mem_cons_self)).1
        exact ⟨.ref D, upd H5 D (bR D o es), IX2.track d5 (by rw [<- hDg]; exact I2.sz) b1 b4 b5 ((v5.at (gD.trans o5.symm)).ok gD), rfl, qn D o d5⟩
      · refine thn (T.item (aQ X scope (tg ++ cs) yy C fp s2 H2) rfl rfl rfl hcalm i _ s5 _ H5 _ pin0 (fpY fr5) st5 go) fun r s6 zr1 => ?_
        obtain ⟨u, hr, h6⟩ := zr1
        subst hr
        refine wpAny_bind (thn h6 fun _ s7 zr1 => ?_)
        obtain ⟨x, H7, I7, r7, y7, st7, fr7⟩ := zr1
        have I7' := I7.pinned (fpY fr7) (T.obj _ _ st7)
        -- the next turn
        have again : ∀ {σ2 : St} {H8 : Hp} {s8 : Shared} {es' : List (List Int × Addr × V)} {o' : Obj}, Inv (aQ X scope (tg ++ cs) yy C fp s2 H2) [] σ2 H8 s8 -> (σ2.length = (capt tg.length ix σ).length /\ ∀ (i : Nat) (v : V), (capt tg.length ix σ)[i]? = some (some v) -> σ2[i]? = some (some v)) ->
            (∀ b ∈ fp, ∀ o, s7.heap.get? b = some o -> s8.heap.get? b = some o) -> (∀ b ∈ fp, H8 b = none) -> H8 D = none -> s8.heap.get? D = some o' -> DctP D es' s8.heap -> Nx es' H8 ->
            ∃ m, m < n /\ ∃ i es o H', Inv (aQ X scope (tg ++ cs) yy C fp s2 H2) [] (capt tg.length ix σ) H' s8 /\ tn i s8.heap /\ (∀ b ∈ fp, H' b = none) /\ H' D = none /\ s8.heap.get? D = some o /\ DctP D es s8.heap /\ W i m es H' := by
          intro σ2 H8 s8 es' o' I8 kp fk fn dn dg vv nx
          obtain ⟨m', hm, w8⟩ := hN es' H8 nx
          exact ⟨m', hm, i + 1, es', o', H8, I8.weak kp.1.symm kp.2, T.keep _ _ _ st7 fk, fn, dn, dg, vv, w8⟩
        refine wpAny_bind (wpAny_mono (hg C fp s2 H2 _ s7 _ H7 x u _ I7' r7 (kg x σ H7 _ (step x H7 y7))) (fun _ s8 zr1 => ?_) fun _ _ z => z.elim)
        obtain ⟨σ8, H8, I8, kp8, q8⟩ := zr1
        refine wpAny_bind (wpAny_mono (hc C fp s2 H2 _ s8 σ8 H8 _ I8 q8) (fun ok s9 zr1 => ?_) fun _ _ z => z.elim)
        obtain ⟨H9, I9, q9⟩ := zr1
        have pinsOf : ∀ {σ' : St} {H' : Hp} {s' : Shared}, Inv (aQ X scope (tg ++ cs) yy C fp s2 H2) ([(D, o)] ++ bP fp s7.heap) σ' H' s' ->
            (∀ b ∈ fp, ∀ o, s7.heap.get? b = some o -> s'.heap.get? b = some o) /\ (∀ b ∈ fp, H' b = none) /\ H' D = none /\ s'.heap.get? D = some o := by
          intro σ' H' s' I'
          refine ⟨fun b hb o e => (I'.pin (b, o) (List.mem_append_right _ (List.mem_append_right _ (aG hb e)))).1, fun b hb => ?_, (I'.pin (D, o) (List.mem_append_right _ (List.mem_append_left _ List.mem_cons_self))).2.1, (I'.pin (D, o) (List.mem_append_right _ (List.mem_append_left _ List.mem_cons_self))).1⟩
          obtain ⟨o, e, d⟩ := T.obj _ _ st7 b hb
          exact (I'.pin (b, o) (List.mem_append_right _ (List.mem_append_right _ (aG hb e)))).2.1
        cases ok with
        | false =>
          obtain ⟨p1, p2, p3, p4⟩ := pinsOf I9
          exact wpAny_pure ⟨rfl, again (I9.pins_of fun p hp => nomatch hp) kp8 p1 p2 p3 p4 (v5.at (p4.trans o5.symm)) q9⟩
        | true =>
          have q9 : tk σ8 H9 fun y H6 => tv σ8 H6 fun v H7 => ∃ b ms, y = .ref b /\ SqN X.K H7 b ms /\ bX X.K H7 es /\ Nx (d7 es ms b v) H7 := q9
          refine wpAny_bind (wpAny_bind (wpAny_mono (hk C fp s2 H2 _ s9 σ8 H9 _ I9 q9) (fun kv s10 zr1 => ?_) fun _ _ z => z.elim))
          obtain ⟨y, H10, I10, ry, q10⟩ := zr1
          refine wpAny_bind (wpAny_holding (wpAny_mono (hv C fp s2 H2 _ s10 σ8 H10 _ I10 q10) (fun vv s11 zr1 => ?_) fun _ _ z => z.elim))
          obtain ⟨v, H11, I11, rv, b, ms, ey, sq, ka, nx⟩ := zr1
          subst ey
          cases ry
          obtain ⟨p1, p2, p3, p4⟩ := pinsOf I11
          have P11 : DctP D es s11.heap := v5.at (p4.trans o5.symm)
          obtain ⟨z, m, nd, xs, ev, dd⟩ := lV I11 P11 ka
          refine wpAny_bind (wpAny_standAt (wpAny_holding (wpAny_dictSet_heap (hsz := by rw [<- Paired.length ev]; exact z) (show (tupleKind (KT.numKind X.prog X.w)).room X.A from by show X.A.units < cLine; lia) (cK (X := aQ X scope (tg ++ cs) yy C fp s2 H2) I11 sq) dd fun h' dd' hs' => ?_)))
          have I12 : Inv (aQ X scope (tg ++ cs) yy C fp s2 H2) [] σ8 H11 s11 := I11.pins_of fun p hp => nomatch hp
          have I13 : Inv (aQ X scope (tg ++ cs) yy C fp s2 H2) [] σ8 H11 { s11 with heap := h', toks := s11.toks + (tupleKind (KT.numKind X.prog X.w)).draws ms } :=
            I12.turned (fun b o hb e => (hs'.2 b hb).trans e) p3 hDC (.inr (by show s2.heap.objs.size <= D; rw [hDg]; exact Nat.le_refl _)) DcY (fun p hp => nomatch hp)
          obtain ⟨qo, qd, qe, h1q, h2q, h3q, h4q, _, h5q⟩ := dd'
          refine wpAny_pure ⟨rfl, again I13 kp8 (fun b hb o e => (hs'.2 b (fun z : b = D => Dfp (z ▸ hb))).trans (p1 b hb o e)) p2 p3 h1q ⟨?_, m, ?_, _, ev.put ms rv, qo, qd, qe, h1q, h2q, h3q, h4q⟩ nx⟩
          · have := dM es ms b v; lia
          · rw [(ev.put ms rv).keys]; exact h5q
    · rw [e4]; exact T.keep _ _ _ st2 fun b _ o e => old b o e
  exact codeAny_compStart_dict (loop _ rfl) (T.self _ 0 _ _ _ (T.keep _ _ _ st2 fun b _ o e => old b o e) (loop _ rfl))
end
end L2
namespace VL
open PySem L2 PySem.W
section
variable {K : PySem.W.Frag} {X : Cx} {kx vx iter : Expr} {pos : Pos}
theorem qh {yc : Str} {ifs : List Expr} {scope : Scope} {tg cs : List Str} {target : Expr} {wi : TI} {vi : VTN} {g : TG} {vg : VG} {tc : TT} {vt : VTT} {tk tv : TE} {vk vv : VT} (hK : X.K = K) (hu : X.A.units + 64 < cLine) (Sc : dq X scope yc tg cs ix) (hcalm : X.calm = true) (kg : cr tg.length ix g) (hnd : ix.Nodup)
    (hi : VI K X target iter wi vi) (hg : ∀ C fp s H, VGe K (aQ X scope (tg ++ cs) yc C fp s H) target g vg) (hc : ∀ C fp s H, VTs K (aQ X scope (tg ++ cs) yc C fp s H) ifs tc vt) (hk : ∀ C fp s H, VE K (aQ X scope (tg ++ cs) yc C fp s H) false kx tk vk) (hv : ∀ C fp s H, VE K (aQ X scope (tg ++ cs) yc C fp s H) true vx tv vv)
    (hs : ∀ x, foldedSetIterable iter X.env x = pure x := by intro _; rfl) : VDe K X (.DictComp kx vx [⟨target, iter, ifs, 0⟩] scope pos) (iT K wi tg.length ix g tc tk tv) (kJ vi tg.length ix vg vt vk vv) := by
  have sg : SndG K g vg := (hg 0 [] X.s₀ (fun _ => none)).snd
  have sc : SndT K tc vt := (hc 0 [] X.s₀ (fun _ => none)).snd
  have sk : SndE K false tk vk := (hk 0 [] X.s₀ (fun _ => none)).snd
  have sv : SndE K true tv vv := (hv 0 [] X.s₀ (fun _ => none)).snd
  refine ⟨by subst hK; exact nB hu Sc hcalm kg hi.pi (fun C fp s H => (hg C fp s H).pg) (fun C fp s H => (hc C fp s H).pe) (fun C fp s H => (hk C fp s H).pe) (fun C fp s H => (hv C fp s H).pe) hs, fun H0 Z σ H S Q C k t hq => ?_⟩
  refine hi.snd H0 Z σ H S _ _ k t fun J ds H1 S1 k1 st1 gd zr1 => ?_
  obtain ⟨hl, Iv, i0, hs, hd⟩ := zr1
  refine ⟨fun i m es H => m = ds.length - i /\ i <= ds.length /\ es.length <= i /\ ∃ S2 kvs, OK K H0 Z σ H S2 /\ Step Z σ S1 H1 σ S2 H /\ es.map (·.1) = kvs.map (·.1) /\ Reps K (NM Z σ S2) AnyF H (es.map fun x => V.ref x.2.1) ((kvs.map (·.1)).map kT) /\ Reps K (NM Z σ S2) (Fr H0) H (es.map (·.2.2)) (kvs.map (·.2)) /\ Iv i kvs S2,
    ⟨ds.length, by simp, Nat.zero_le _, Nat.le_refl _, S1, [], k1, .refl, rfl, .nil, .nil, i0⟩, ?_⟩
  rintro i m es H2 ⟨rfl, hi, hy, S2, kvs, k2, st2, ek, rk, rz, p⟩
  obtain ⟨g1, g2, g3⟩ := gd σ S2 H2 (fun _ => k2.nm) st2.1 i
  have hsz : (1000000 : Nat) < sizeLine := by rw [sizeLine_eq]; lia
  by_cases hlt : i < ds.length
  · refine .inr ⟨g1 hlt, by lia, fun es' H' => es'.length <= i + 1 /\ ∃ S' kvs', OK K H0 Z σ H' S' /\ Step Z σ S1 H1 σ S' H' /\ es'.map (·.1) = kvs'.map (·.1) /\ Reps K (NM Z σ S') AnyF H' (es'.map fun x => V.ref x.2.1) ((kvs'.map (·.1)).map kT) /\ Reps K (NM Z σ S') (Fr H0) H' (es'.map (·.2.2)) (kvs'.map (·.2)) /\ Iv (i + 1) kvs' S',
      fun es' H' zt1 => by obtain ⟨p1, p2⟩ := zt1; exact ⟨ds.length - (i + 1), by lia, rfl, hlt, p1, p2⟩, fun x H3 y => ?_⟩
    obtain ⟨hgr, d, hd', rd⟩ := g2 x H3 y hlt
    replace k2 := k2.grow hgr
    replace st2 := st2.trans (.grow hgr)
    replace rk := rk.step (.grow hgr)
    replace rz := rz.step (.grow hgr)
    have kc := k2.capt (n := tg.length) hnd
    have rd' : Rep K (NM (Zin Z ix σ S2) (L2.capt tg.length ix σ) (aO tg.length ix S2)) AnyF H3 x d := rd.mono (fun a n _ => ⟨fun z => n (di.mp z), rfl⟩) fun _ x => x
    have h1 := sg H0 _ _ H3 _ x d _ (fun σ4 H4 => ∃ S4, OK K H0 (Zin Z ix σ S2) σ4 H4 S4 /\ Step (Zin Z ix σ S2) (L2.capt tg.length ix σ) (aO tg.length ix S2) H3 σ4 S4 H4 /\ vt S4 fun b S5 => if b = true then vk S5 fun rk S6 => vv S6 fun rv S7 => ∃ ms x, get S7 rk = some (kT ms) /\ rv = .d x /\ Iv (i + 1) (putA kvs ms x) (backS tg.length ix S2 S7) else Iv (i + 1) kvs (backS tg.length ix S2 S5)) kc rd' (hs i d kvs S2 hd' p) (fun σ4 H4 S4 k4 st4 q4 => ⟨S4, k4, st4, q4⟩)
    have h2 := kg x σ H3 _ h1
    refine (hg 0 [] X.s₀ (fun _ => none)).mono _ _ _ _ _ ?_ h2
    rintro σ4 H4 ⟨⟨hl4, hσ4⟩, S4, k4, st4, q4⟩
    refine sc H0 _ σ4 H4 S4 _ _ k4 q4 fun bb H5 S5 k5 st5 q5 => ?_
    cases bb with
    | false =>
      rw [if_neg Bool.false_ne_true] at q5 ⊢
      obtain ⟨kb, sb, nb⟩ := k2.back k5 (st4.trans st5) hσ4
      exact ⟨by lia, _, kvs, kb, st2.trans sb, ek, rk.step sb, rz.step sb, q5⟩
    | true =>
      rw [if_pos rfl] at q5 ⊢
      refine sk H0 _ σ4 H5 S5 _ _ k5 q5 fun yy H6 ry S6 k6 st6 rry q6 => ?_
      refine sv H0 _ σ4 H6 S6 _ _ k6 q6 fun vv' H7 rv S7 k7 st7 rrv zr1 => ?_
      obtain ⟨ms, xx, e1, er, q7⟩ := zr1
      subst er
      obtain ⟨b, rfl, sq, rb⟩ := pN (rry.step st7) e1
      obtain ⟨kb, sb, nb⟩ := k2.back k7 (((st4.trans st5).trans st6).trans st7) hσ4
      have rk' := rk.step sb
      have rz' := rz.step sb
      obtain ⟨z1, z2, z3⟩ := iJ (k := ms) (b := b) (v := vv') (d := xx) (F := Fr H0) (F' := AnyF) (Rep.mono (fun a n _ => ⟨nb a n, rfl⟩) (fun _ x => x rfl) rrv) (Rep.mono (fun a n _ => ⟨nb a n, rfl⟩) (fun _ x => x) rb) ek rk' rz'
      refine ⟨b, ms, rfl, SqN.of sq, cB (by rw [ek]; exact rk'), ?_, _, putA kvs ms xx, kb, st2.trans sb, z1, z2, z3, q7⟩
      have := dM es ms b vv'
      lia
  · have e : i = ds.length := by lia
    refine .inl ⟨g3 e, fun l ob hp => ?_⟩
    exact hq l es kvs H2 _ S2 k2 (st1.trans st2) hp (aC hp) ⟨ob, aw⟩ ek (rk.mono (fun a n e => ⟨⟨n, fun z => e (z ▸ hp)⟩, au fun z => e (z ▸ hp)⟩) fun _ x => x) (bA hp (rz.mono (fun _ n _ => ⟨n, rfl⟩) fun _ x _ => x)) (hd kvs S2 (by rw [<- e]; exact p))
end
section
variable {K : PySem.W.Frag} {X : Cx} {o ie : Expr} {to ti : TE} {vo vi : VT} {pos : Pos} {S : List Sl} {Q : VR -> List Sl -> Prop}
theorem dA.delems {H0 H : Hp} {S : List Sl} (h : dA K F Z σ S H v r) (k : OK K H0 Z σ H S) (e : VL.get S r = some (dc kvs)) : ∃ a es, v = .ref a /\ (∃ ob, H a = some (bR a ob es)) /\ es.map (·.1) = kvs.map (·.1) /\ bX K H es /\ Reps K (NM Z σ S) AnyF H (es.map (·.2.2)) (kvs.map (·.2)) := by
 cases r with
 | d y =>
  cases e
  obtain ⟨a, es, rfl, _, _, h1, h2, h3, _, h4⟩ := Rep.dct (show Rep K _ _ H v (.dic _ _) from h)
  exact ⟨a, es, rfl, h1, h2, h3, h4.mono (fun _ n _ => ⟨n, rfl⟩) fun _ _ => trivial⟩
 | own i =>
  have h : σ[i]? = some (some v) := h
  have e : getO S[i]? = some (dc kvs) := e
  cases es : S[i]? with
  | none => rw [es] at e; cases e
  | some s =>
   rw [es] at e
   cases s <;> first | (cases e; done) | skip
   case odi ks ds =>
    cases e
    obtain ⟨o, h1, a, es', rfl, h2, _, h3, h4⟩ := k.ownAt es
    rw [h] at h1
    cases h1
    exact ⟨a, es', rfl, h2, h3.1, cB (by rw [h3.1]; exact h3.2), h4.mono (fun _ n _ => ⟨n, rfl⟩) fun _ _ => trivial⟩
noncomputable def vG (vo vi : VT) : VT := fun S Q => vo S fun r S1 => vi S1 fun rk S2 => ∃ kvs ms d, get S2 r = some (dc kvs) /\ get S2 rk = some (kT ms) /\ getA kvs ms = some d /\ Q (.d d) S2
theorem fH (hK : X.K = K) (hu : X.A.units + 64 < cLine) (ho : VE K X false o to vo) (hi : VE K X false ie ti vi) (hs : dY ie) : VE K X false (.Subscript o ie pos) (tOp (lY K) to ti) (vG vo vi) :=
 ⟨by subst hK; exact jt (jS hu) ho.pe hi.pe hs, fun H0 Z σ H S Q C k t hc => by
  refine ho.snd H0 Z σ H S _ _ k t fun x H1 ra S1 k1 st1 r1 t1 => ?_
  refine hi.snd H0 Z σ H1 S1 _ _ k1 t1 fun y H2 rb S2 k2 st2 r2 zr1 => ?_
  obtain ⟨kvs, ms, d, e1, e2, ei, q⟩ := zr1
  obtain ⟨b, vs, rfl, hq, rr⟩ := Rep.sqT (show Rep K _ _ H2 y (.tup (ms.map D.int)) from r2.get k2 e2)
  cases Reps.toInts rr
  obtain ⟨a, es, rfl, ha, ek, hk, rv⟩ := (r1.step st2).delems k2 e1
  rcases iU (k := ms) ek rv with ⟨z1, z2⟩ | ⟨v, d', z1, z2, r⟩
  ·rw [z2] at ei; cases ei
  ·rw [z2] at ei
   cases ei
   exact ⟨b, a, ms, es, v, rfl, rfl, SqN.of hq, ha, hk, z1, hc _ H2 (.d d) S2 k2 (st1.trans st2) (show Rep K _ _ _ v d from r.mono (fun _ n _ => ⟨n, rfl⟩) fun _ _ => FM.any) q⟩⟩
noncomputable def vH (vi : VT) (Q : VR -> List Sl -> Prop) : VR -> List Sl -> Prop := fun r S1 => vi S1 fun rk S2 => ∃ kvs ms d, get S2 r = some (dc kvs) /\ get S2 rk = some (kT ms) /\ getA kvs ms = some d /\ Q (.d d) S2
noncomputable def vI (r : VR) (Q : VR -> List Sl -> Prop) : VR -> List Sl -> Prop := fun rk S2 => ∃ kvs ms d, get S2 r = some (dc kvs) /\ get S2 rk = some (kT ms) /\ getA kvs ms = some d /\ Q (.d d) S2
theorem yY (h : vo S (vH vi Q)) : vG vo vi S Q := h
theorem tP (h : vi S (vI r Q)) : vH vi Q r S := h
theorem fI {r rk : VR} (e1 : get S r = some (dc kvs)) (e2 : get S rk = some (kT ms)) (e3 : getA kvs ms = some d) (h : Q (.d d) S) : vI r Q rk S := ⟨kvs, ms, d, e1, e2, e3, h⟩
end
end VL
end
local macro_rules | `(tactic| walk_at "s") => `(tactic| exact ⟨rfl, rfl, rfl, by decide +kernel, rfl, by decide +kernel, by decide +kernel⟩)
theorem My.len1 {α:Type} {l:List α} (h:l.length=1):∃ a0,l=[a0]:=match l,h with|[a0],_=>⟨a0,rfl⟩
local macro_rules | `(tactic| walk_at "1") => `(tactic| exact (fun _ _ _ _ _ _ us hl => by obtain ⟨_,e⟩ := My.len1 hl; subst e; exact rfl))
theorem My.len2 {α:Type} {l:List α} (h:l.length=2):∃ a0 a1,l=[a0,a1]:=match l,h with|[a0,a1],_=>⟨a0,a1,rfl⟩
local macro_rules | `(tactic| walk_at "2") => `(tactic| exact (fun _ _ _ _ _ _ us hl => by obtain ⟨_,_,e⟩ := My.len2 hl; subst e; exact rfl))
theorem My.len3 {α:Type} {l:List α} (h:l.length=3):∃ a0 a1 a2,l=[a0,a1,a2]:=match l,h with|[a0,a1,a2],_=>⟨a0,a1,a2,rfl⟩
local macro_rules | `(tactic| walk_at "3") => `(tactic| exact (fun _ _ _ _ _ _ us hl => by obtain ⟨_,_,_,e⟩ := My.len3 hl; subst e; exact rfl))
local macro_rules | `(tactic| walk_at "l0") => `(tactic| first
 | with_reducible refine VL.xV ?_
 | with_reducible refine VL.rX ?_
 | with_reducible refine VL.j_c ?_
 | ((with_reducible refine' VL.Aw ?h ?_); (case h => exact rfl))
 | with_reducible refine VL.AH ?_
 | ((with_reducible refine' VL.Cj ?h1 ?h2 ?_); (case h1 => exact rfl); (case h2 => exact rfl))
 | with_reducible refine VL.Ci ?_
 | with_reducible refine VL.j_2 ?_
 | with_reducible refine VL.xE ?_
 | with_reducible refine VL.Ap ?_
 | with_reducible refine VL.AI ?_
 | ((with_reducible refine' VL.xW ?h1 ?h2 ?_); (case h1 => exact rfl); (case h2 => exact rfl))
 | ((with_reducible refine' VL.Cf ?h ?_); (case h => exact rfl); (try dsimp only [List.set_cons_zero, List.set_cons_succ]))
 | ((with_reducible refine' VL.AN ?h ?_); (case h => exact rfl))
 | ((with_reducible refine' VL.xK ?h ?_); (case h => exact rfl))
 | with_reducible refine VL.Au ?_
 | with_reducible refine VL.Ax ?_
 | ((with_reducible refine' VL.Ay ?h ?_); (case h => first | exact (by decide) | exact .inl ⟨by decide, by decide⟩ | exact .inr ⟨by decide, by decide⟩ | (show (0 : Int) < _; lia) | (show (0 : Int) <= _; lia) | exact ⟨by decide, by decide, by decide⟩ | exact ⟨by lia, by lia, by lia⟩ | exact ⟨by lia, by lia⟩ | exact .inl ⟨by lia, by lia⟩ | exact .inr ⟨by lia, by lia⟩))
 | with_reducible refine VL.Ck ?_
 | with_reducible refine VL.AA ?_
 | with_reducible refine VL.AK ?_
 | ((with_reducible refine' VL.xX ?h1 ?h2 ?_); (case h1 => exact rfl); (case h2 => exact rfl))
 | with_reducible refine VL.rT ?_
 | with_reducible refine VL.Ar ?_
 | with_reducible refine VL.xF ?_
 | with_reducible refine VL.xQ ?_)
local macro_rules | `(tactic| walk_at "l1") => `(tactic| first
 | with_reducible refine VL.Cp ?_
 | with_reducible refine VL.AM ?_
 | with_reducible refine VL.xY ?_
 | ((with_reducible refine' VL.AB ?h1 ?h2 ?h3 ?_); (case h1 => exact rfl); (case h2 => exact rfl); (case h3 => first | exact rfl | exact VL.at_0))
 | with_reducible refine VL.Cr ?_
 | with_reducible refine VL.xO ?_
 | with_reducible refine VL.xT ?_
 | with_reducible refine VL.Av ?_
 | ((with_reducible refine' VL.A8 ?h1 ?h2 ?_); (case h1 => (intro n z; cases z)); (case h2 => first | exact L2.iA | exact L2.gI | exact L2.isiB_list_list | exact L2.isiB_tuple_tuple | exact L2.isiB_bool_bool | exact L2.isiB_f1 | exact L2.isiB_f2 | exact L2.isiB_f3 | exact L2.isiB_f4 | exact L2.isiB_f5 | exact L2.isiB_f6 | exact L2.isiB_g1 | exact L2.isiB_g2 | exact L2.isiB_g3 | exact L2.isiB_g4 | exact L2.isiB_g5 | exact L2.isiB_g6 | exact L2.isiB_h1 | exact L2.isiB_h2 | exact L2.isiB_h3 | exact L2.isiB_h4 | exact L2.isiB_h5 | exact L2.isiB_h6 | exact L2.isiB_h7))
 | with_reducible refine VL.xN ?_
 | ((with_reducible refine' VL.du ?h1 ?h2 ?h3 ?_); (case h1 => exact rfl); (case h2 => exact rfl); (case h3 => exact rfl))
 | ((with_reducible refine' VL.rS ?h ?_); (case h => first | exact rfl | simp only [VL.flat, VL.flats, VL.de, VL.eT, VL.gc, Bool.and_self]))
 | with_reducible refine VL.Cm ?_
 | ((with_reducible refine' VL.AC ?h ?_); (case h => exact rfl))
 | with_reducible refine VL.rP ?_
 | with_reducible refine VL.xH ?_
 | ((with_reducible refine' VL.rQ ?h ?_); (case h => exact rfl); (try dsimp only [List.set_cons_zero, List.set_cons_succ]))
 | with_reducible refine VL.AS ?_
 | ((with_reducible refine' VL.x5 ?h1 ?h2 ?h3 ?_); (case h1 => exact rfl); (case h2 => exact rfl); (case h3 => exact rfl))
 | with_reducible refine VL.jI ?_
 | with_reducible refine VL.AY ?_
 | with_reducible refine VL.x6 ?_
 | with_reducible refine VL.A3 ?_
 | ((with_reducible refine' VL.oV ?h ?_); (case h => exact ⟨by lia, by lia⟩))
 | with_reducible refine VL.ya ?_
 | with_reducible refine VL.yb ?_
 | with_reducible refine VL.A5 ?_
 | with_reducible refine VL.xM ?_
 | with_reducible refine VL.rR ?_
 | with_reducible refine VL.AV ?_
 | with_reducible refine VL.oO ?_
 | with_reducible refine VL.xZ ?_
 | with_reducible refine VL.mX ?_
 | with_reducible refine VL.xG ?_
 | ((with_reducible refine' VL.Cg ?h ?_); (case h => exact rfl); (try simp only [List.map_cons, List.map_nil]))
 | ((with_reducible refine' VL.yI ?h ?_); (case h => exact rfl))
 | with_reducible refine VL.AE ?_
 | with_reducible refine VL.xR ?_
 | with_reducible refine VL.yY ?_
 | with_reducible refine VL.tP ?_
 | with_reducible refine VL.x3 ?_
 | ((with_reducible refine' VL.Bl ?h ?_); (case h => exact rfl))
 | with_reducible refine VL.yq ?_
 | ((with_reducible refine' VL.sI ?h ?_); (case h => exact rfl))
 | with_reducible refine VL.sS ?_
 | with_reducible refine VL.yG ?_
 | with_reducible refine VL.yH ?_
 | with_reducible refine VL.BF ?_
 | with_reducible refine VL.tx ?_
 | with_reducible refine VL.oJ ?_)
local macro_rules | `(tactic| walk_at "l2") => `(tactic| first
 | with_reducible refine VL.oK ?_
 | with_reducible refine VL.AQ ?_
 | ((with_reducible refine' VL.x4 ?h ?_); (case h => exact rfl))
 | ((with_reducible refine' VL.AU ?h ?_); (case h => exact rfl))
 | ((with_reducible refine' VL.oT ?h1 ?h2 ?_); (case h1 => exact rfl); (case h2 => first | lia | (simp only [List.length_append, List.length_cons, List.length_nil, List.length_map]; lia) | exact Nat.le_of_ble_eq_true rfl); (try dsimp only [List.set_cons_zero, List.set_cons_succ]))
 | with_reducible refine VL.xU ?_
 | with_reducible refine VL.rV ?_
 | with_reducible refine VL.AG ?_
 | with_reducible refine VL.yN ?_
 | with_reducible refine VL.sY ?_
 | with_reducible refine VL.yn ?_
 | with_reducible refine VL.yo ?_
 | with_reducible refine VL.sG ?_
 | with_reducible refine VL.yp ?_
 | ((with_reducible refine' VL.sH ?h ?_); (case h => exact rfl); (try dsimp only [List.set_cons_zero, List.set_cons_succ]))
 | with_reducible refine VL.yB ?_
 | with_reducible refine VL.yW ?_
 | ((with_reducible refine' VL.BD ?h ?_); (case h => exact rfl))
 | with_reducible refine VL.xJ ?_
 | ((with_reducible refine' VL.iF ?h ?_); (case h => exact rfl); (try dsimp only [List.set_cons_zero, List.set_cons_succ]))
 | with_reducible refine VL.rZ ?_
 | ((with_reducible refine' VL.oU ?h1 ?h2 ?_); (case h1 => exact rfl); (case h2 => exact rfl))
 | ((with_reducible refine' VL.mW ?h1 ?h2 ?h3 ?_); (case h1 => exact rfl); (case h2 => exact rfl); (case h3 => exact rfl); (try dsimp only [List.set_cons_zero, List.set_cons_succ]))
 | with_reducible refine VL.rY ?_
 | with_reducible refine VL.yD ?_
 | with_reducible refine VL.BA ?_
 | with_reducible refine VL.BH ?_
 | with_reducible refine VL.tF ?_
 | with_reducible refine VL.tO ?_
 | with_reducible refine VL.sU ?_
 | with_reducible refine VL.yK ?_
 | with_reducible refine VL.yQ ?_
 | with_reducible refine VL.tw ?_
 | with_reducible refine VL.yR ?_
 | with_reducible refine VL.p6 ?_
 | ((with_reducible refine' VL.yC ?h ?_); (case h => exact Or.inl rfl))
 | with_reducible refine VL.A6 ?_
 | with_reducible refine VL.Cq ?_
 | with_reducible refine VL.AZ ?_
 | with_reducible refine VL.x8 ?_
 | with_reducible refine VL.A4 ?_
 | ((with_reducible refine' VL.x9 ?h ?_); (case h => exact ⟨by lia, by lia, by lia, by lia⟩))
 | with_reducible refine VL.m4 ?_
 | with_reducible refine VL.Co ?_
 | with_reducible refine VL.oQ ?_
 | ((with_reducible refine' VL.yO ?h ?_); (case h => exact rfl); (try dsimp only [List.set_cons_zero, List.set_cons_succ]))
 | with_reducible refine VL.Bk ?_
 | with_reducible refine VL.Bm ?_
 | with_reducible refine VL.Bn ?_
 | ((with_reducible refine' VL.yi ?h1 ?h2 ?_); (case h1 => exact Nat.le_of_ble_eq_true rfl); (case h2 => exact Nat.le_of_ble_eq_true rfl); (try dsimp only [List.set_cons_zero, List.set_cons_succ]))
 | with_reducible refine VL.Bp ?_
 | ((with_reducible refine' VL.Bw ?h ?_); (case h => exact rfl))
 | with_reducible refine VL.Cv ?_
 | ((with_reducible refine' VL.Bu ?h ?_); (case h => exact ⟨by lia, by lia⟩)))
local macro_rules | `(tactic| walk_at "rd1") => `(tactic| first
 | walk_at "l0"
 | walk_at "l1"
 | walk_at "l2")
local macro_rules | `(tactic| walk_at "rc1") => `(tactic| first
 | walk_at "rd1"
 | ((with_reducible refine' VL.Ba ?h ?_); (case h => exact rfl))
 | ((with_reducible refine' VL.Bb ?h ?_); (case h => exact rfl))
 | ((with_reducible refine' VL.A9 ?h ?_); (case h => exact rfl))
 | ((with_reducible refine' VL.Cs ?h ?_); (case h => exact rfl))
 | ((with_reducible refine' VL.Ct ?h ?_); (case h => exact rfl))
 | ((with_reducible refine' VL.Bc ?h ?_); (case h => exact rfl))
 | ((with_reducible refine' VL.Bd ?h ?_); (case h => exact rfl)))
local macro_rules | `(tactic| walk_at "rc") => `(tactic| repeat walk_at "rc1")
local macro_rules | `(tactic| walk_at "rd") => `(tactic| repeat walk_at "rd1")
local macro_rules | `(tactic| walk_at "sl") => `(tactic| simp only [VL.slots, VL.dj, VL.eT, List.map_cons, List.map_nil, List.length_cons, List.length_nil, List.cons_append, List.nil_append, Nat.reduceAdd, Nat.reduceSub, Nat.zero_add, List.replicate_succ, List.replicate_zero])
namespace My
open PySem L2 VL
noncomputable def top (i : Nat) : Stmt := PySem.Challenge.pw_cellships_k43_how_many_rest.main.body.getD i (.Pass ⟨0, 0, 0, 0⟩)
noncomputable abbrev gz : Stmt := top 1
theorem nE : aA ["thing"] ["thing"] (aj gz) := by walk_at "s"
noncomputable abbrev jd : Stmt := top 2
theorem qj : aA ["thing"] ["thing"] (aj jd) := by walk_at "s"
noncomputable abbrev gA : Stmt := top 19
theorem nF : aA ["kind"] ["kind"] (aj gA) := by walk_at "s"
noncomputable abbrev gB : Stmt := top 21
theorem nG : aA ["rule"] ["rule"] (aj gB) := by walk_at "s"
noncomputable abbrev cq : Stmt := top 22
theorem eJ : aA ["rule"] ["rule"] (aj cq) := by walk_at "s"
noncomputable abbrev kM : Stmt := top 23
theorem fJ : aA ["rule", "alive", "count", "kind", "born", "stay"] ["rule", "alive", "count"] (aj kM) := by walk_at "s"
noncomputable abbrev dr : Stmt := top 25
theorem fh : aA ["rule", "lines", "x", "count"] ["rule", "lines", "x"] (aj dr) := by walk_at "s"
noncomputable abbrev dO : Stmt := top 26
theorem hW : aA ["rule", "nines"] ["rule"] (aj dO) := by walk_at "s"
noncomputable abbrev cF : Stmt := top 27
theorem aW : aA ["amid", "above", "row", "wanted", "free", "found", "column", "may_live", "x", "one", "two", "lives"] ["amid", "above", "row", "wanted", "free"] (aj cF) := by walk_at "s"
noncomputable abbrev dQ : Stmt := top 31
theorem je : aA ["thing"] ["thing"] (aj dQ) := by walk_at "s"
noncomputable abbrev bH : Stmt := top 32
theorem dv : aA ["rule", "size"] ["rule", "size"] (aj bH) := by walk_at "s"
noncomputable abbrev bT : Stmt := top 33
theorem br : aA ["rule", "wide", "amid", "free", "followers", "waiting", "pair", "above", "row"] ["rule", "wide"] (aj bT) := by walk_at "s"
noncomputable abbrev jf : Stmt := top 34
theorem qk : aA ["followers", "pair"] ["followers", "pair"] (aj jf) := by walk_at "s"
noncomputable abbrev bY : Stmt := top 35
theorem cO : aA ["followers", "high", "ways", "left", "fewer"] ["followers", "high"] (aj bY) := by walk_at "s"
noncomputable abbrev bU : Stmt := top 36
theorem ef : aA ["rule", "size"] ["rule", "size"] (aj bU) := by walk_at "s"
noncomputable abbrev ql : Stmt := top 38
theorem jg : aA ["_law_script", "_law_k", "_law_cell"] ["_law_script", "_law_k"] (aj ql) := by walk_at "s"
noncomputable abbrev kO : Stmt := top 39
theorem eK : aA ["_law_pen_here", "_law_many_here", "_law_drawn", "_law_number"] ["_law_pen_here", "_law_many_here"] (aj kO) := by walk_at "s"
noncomputable abbrev gC : Stmt := top 40
theorem dZ : aA ["_law_pen_here", "_law_least", "_law_kind", "_law_born", "_law_stay"] ["_law_pen_here", "_law_least"] (aj gC) := by walk_at "s"
noncomputable abbrev kP : Stmt := top 41
theorem fK : aA ["_law_kind", "_law_steps"] ["_law_kind"] (aj kP) := by walk_at "s"
noncomputable abbrev fL : Stmt := top 42
theorem jW : aA ["_law_code", "_law_near_here", "_law_live", "_law_x", "_law_y", "_law_count"] ["_law_code", "_law_near_here", "_law_live", "_law_x", "_law_y"] (aj fL) := by walk_at "s"
noncomputable abbrev jh : Stmt := top 43
theorem qm : aA ["_law_found"] ["_law_found"] (aj jh) := by walk_at "s"
noncomputable abbrev ji : Stmt := top 44
theorem bV : aA ["_law_code", "_law_near_here", "_law_live", "_law_alive", "_law_looked", "_law_x", "_law_y", "_law_dx", "_law_dy"] ["_law_code", "_law_near_here", "_law_live"] (aj ji) := by walk_at "s"
noncomputable abbrev gE : Stmt := top 45
theorem cP : aA ["_law_code", "_law_size_here", "_law_cells", "_law_y", "_law_near_here", "_law_found", "_law_number", "_law_live"] ["_law_code", "_law_size_here"] (aj gE) := by walk_at "s"
noncomputable abbrev kQ : Stmt := top 46
theorem jk : aA ["_law_pen_here", "_law_wide", "_law_most"] ["_law_pen_here"] (aj kQ) := by walk_at "s"
noncomputable abbrev eX : Stmt := top 47
theorem et : aA ["_law_pen_here", "_law_some"] ["_law_pen_here"] (aj eX) := by walk_at "s"
noncomputable abbrev eY : Stmt := top 48
theorem dt : aA ["_law_code", "_law_size_here", "_law_found", "e"] ["_law_code", "_law_size_here"] (aj eY) := by walk_at "s"
noncomputable abbrev yZ : Stmt := top 49
theorem eg : aA ["_law_script", "_law_pen_here", "_law_code", "_law_k", "_law_size_here", "_law_found", "_law_other", "_law_bad", "_law_loud", "_law_good"] ["_law_script"] (aj yZ) := by walk_at "s"
structure Txt (mg : Str -> Option Value) : Prop where
 len_ : mg "len" = none
 range : mg "range" = none
 abs_ : mg "abs" = none
 isinstance_ : mg "isinstance" = none
 int_ : mg "int" = none
 bool_ : mg "bool" = none
 list_ : mg "list" = none
 tuple_ : mg "tuple" = none
 sorted_ : mg "sorted" = none
 max_ : mg "max" = none
 min_ : mg "min" = none
 all_ : mg "all" = none
 any_ : mg "any" = none
 set_ : mg "set" = none
 sum_ : mg "sum" = none
 str_ : mg "str" = none
 dict_ : mg "dict" = none
 zip_ : mg "zip" = none
 enumerate_ : mg "enumerate" = none
noncomputable def Pn (b : Nat) (pn : List Int) : Prop := ∃ x y c : Int, pn = [x, y, c] /\ 0 <= c /\ c <= b
noncomputable def BI : List D -> (D -> Prop) -> Prop := fun ds R => ∃ (ns : List Int) (k : Nat), ds = [.lst (ns.map .int), .int k] /\ k <= 1000 /\ ∀ x y : Int, R (.lst ([x, y, 0].map .int))
noncomputable def tQ : List D -> (D -> Prop) -> Prop := fun ds R => ∃ ns : List Int, ds = [.lst (ns.map .int)] /\ ns.length <= 63 /\ R (.bl true)
noncomputable def hZ : List Int -> List D -> (D -> List Int -> Prop) -> Prop := fun pn ds R => ∃ (b : Nat) (m : Int), ds = [.int m] /\ Pn b pn /\ b <= 1000000 /\ 0 < m /\ m < 1073741824 /\ ∀ (pn' : List Int) (r : Int), Pn (b + 1) pn' -> 0 <= r -> r < m -> R (.int r) pn'
theorem jX {j : Nat} (h : j < ns.length) : atI (ns.map D.int) (j : Int) = some (.int (ns[j])) := by
 exact fx (by simp [h])
section
variable {P : Program} {w : World} {K : PySem.W.Frag} {mg : Str -> Option Value} {base : Heap}
theorem za (S : Src K mg "_law_pen" ql) (T : Txt mg) : Has P w K mg base 1 "_law_pen" ["_law_script", "_law_k"] (spP K BI) := by
 refine bF S jg (by walk_at "2") (fun ds R zq1 => by obtain ⟨_, _, e, _⟩ := zq1; rw [e]; rfl) fun f cdv A outer s H E hr => ⟨_, _, (ai (aD (i := 2) jg.nd rfl (Or.inl rfl) (ay bj aH (ay eO bI af (ae 1 (pv 1))) af))
  (ai (ck (bE zK aH (ae 1 (pv 1)) (aS (ff (K := K) rfl) fc (by rfl) T.len_ dG (aa (ae 0 (pv 0)) ah)) (bD _)) (ao (aD (i := 2) jg.nd rfl (Or.inl rfl) (aE rfl (ae 0 (pv 0)) (ae 1 (pv 1)) (fun _ _ => rfl)))) (ao (ck (bE lp aH (aS (ff (K := K) rfl) fc (by rfl) T.len_ dG (aa (ae 0 (pv 0)) ah)) af (bD _)) (ao (aD (i := 2) jg.nd rfl (Or.inl rfl) (ay bj aH (ay cZ bI (aE rfl (ae 0 (pv 0)) (ay cZ bI (ae 1 (pv 1)) (aS (ff (K := K) rfl) fc (by rfl) T.len_ dG (aa (ae 0 (pv 0)) ah))) (fun _ _ => rfl)) af) (ay eO bI af (ae 1 (pv 1)))))) bw)))
  (ai (ck (bE uv aH (ae 2 (pv 2)) (ay kh bI af af) (bD _)) (ao (aF (bf (aR (aa (ay ke aH (ae 2 (pv 2)) (ay kh bI af af)) (aa (ay cZ bI (ae 2 (pv 2)) af) (aa af ah))))))) bw)
  (ao (aF (bf (aR (aa af (aa (ay cZ bI (ae 2 (pv 2)) af) (aa af ah)))))))))), ?_⟩
 rintro ds R ⟨ns, k, rfl, hk, q⟩
 have fin : ∀ (x y : Int), R (.lst [.int x, .int y, .int 0]) := fun x y => q x y
 walk_at "sl"
 walk_at "rd"
 rw [List.length_map]
 refine dJ (fun h1 => ?_) (fun h1 => ?_)
 ·have h1' : k < ns.length := by lia
  walk_at "rd"
  refine du rfl rfl (jX h1') ?_
  walk_at "rd"
  refine dJ (fun h1 => ?_) (fun h1 => ?_)
  all_goals (walk_at "rd"; exact fin _ _)
 ·walk_at "rd"
  rw [List.length_map]
  refine dJ (fun h2 => ?_) (fun h2 => ?_)
  ·walk_at "rd"
   rw [List.length_map]
   have h2' : 0 < ns.length := by lia
   have e : ((k : Int) % (ns.length : Int)) = ((k % ns.length : Nat) : Int) := by lia
   refine Ay (by show (0 : Int) < _; lia) ?_
   dsimp only [ofV]
   rw [e]
   refine du rfl rfl (jX (Nat.mod_lt _ h2')) ?_
   walk_at "rd"
   refine dJ (fun h1 => ?_) (fun h1 => ?_)
   all_goals (walk_at "rd"; exact fin _ _)
  ·walk_at "rd"
   refine dJ (fun h1 => ?_) (fun h1 => ?_)
   all_goals (walk_at "rd"; exact fin _ _)
theorem tR (S : Src K mg "_law_draw" kO) (T : Txt mg) : Has P w K mg base 1 "_law_draw" ["_law_pen_here", "_law_many_here"] (spI K 0 hZ) := by
 refine lG 0 S eK (by walk_at "2") (fun ns ds R zq1 => by obtain ⟨_, _, e, _⟩ := zq1; rw [e]; rfl) fun f cdv A outer s H E hr => ⟨_, _, (ai (jz 0 (pv 0) (ay bj aH (aE rfl (ae 0 (pv 0)) af (fun _ _ => rfl)) af) af)
  (ai (ck (bE lp aH (aE rfl (ae 0 (pv 0)) af (fun _ _ => rfl)) af (bD _)) (ai (aD (i := 2) eK.nd rfl (Or.inl rfl) (ay cZ bI (aE rfl (ae 0 (pv 0)) af (fun _ _ => rfl)) (ae 1 (pv 1))))
  (ai (jz 0 (pv 0) (ay fw bI (aE rfl (ae 0 (pv 0)) af (fun _ _ => rfl)) (ae 1 (pv 1))) af)
  (ao (aF (aK (ae 2 (pv 2))))))) bw)
  (ai (aD (i := 3) eK.nd rfl (Or.inl rfl) (ay cZ bI (ay bj aH (ay bj aH (aE rfl (ae 0 (pv 0)) af (fun _ _ => rfl)) (ay eO bI af (aE rfl (ae 0 (pv 0)) af (fun _ _ => rfl)))) af) af))
  (ai (aD (i := 3) eK.nd rfl (Or.inl rfl) (ay bj aH (ay cZ bI (ay eO bI (ae 3 (pv 3)) (ae 3 (pv 3))) af) (ay eO bI af (aE rfl (ae 0 (pv 0)) af (fun _ _ => rfl)))))
  (ai (aD (i := 3) eK.nd rfl (Or.inl rfl) (ay cZ bI (ay eO bI (ae 3 (pv 3)) (ae 3 (pv 3))) af))
  (ao (aF (ay cZ bI (ay fw bI (ae 3 (pv 3)) af) (ae 1 (pv 1)))))))))), ?_⟩
 rintro a pn ds es R hl ⟨b, m, e, ⟨x, y, c, rfl, hc0, hc1⟩, hb, hm0, hm1, q⟩
 obtain rfl : ds = [] := List.eq_nil_of_length_eq_zero hl
 obtain rfl : es = [.int m] := e
 walk_at "sl"
 walk_at "rd"
 refine dJ (fun h1 => ?_) (fun h1 => ?_)
 ·walk_at "rd"
  exact ⟨_, rfl, q _ _ ⟨_, _, _, rfl, by lia, by lia⟩ (Int.emod_nonneg _ (by lia)) (Int.emod_lt_of_pos _ hm0)⟩
 ·walk_at "rd"
  exact ⟨_, rfl, q _ _ ⟨_, _, _, rfl, by lia, by lia⟩ (Int.emod_nonneg _ (by lia)) (Int.emod_lt_of_pos _ hm0)⟩
end
end My
namespace My
open PySem L2 VL
noncomputable def nr (k : Int) : List (List Int) := if k = 4 then [[-1, 0], [0, -1], [0, 1], [1, 0]] else if k = 6 then [[-1, -1], [-1, 0], [0, -1], [0, 1], [1, 0], [1, 1]] else [[-1, -1], [-1, 0], [-1, 1], [0, -1], [0, 1], [1, -1], [1, 0], [1, 1]]
noncomputable def rows : List (Int × List (List Int)) := [(4, nr 4), (6, nr 6), (8, nr 8)]
noncomputable def Kd (k : Int) : Prop := k = 4 \/ k = 6 \/ k = 8
theorem qp {k : Int} (hk : Kd k) : (k, nr k) ∈ rows := by rcases hk with rfl | rfl | rfl <;> simp [rows]
noncomputable def Sp1 (m : List Int) : Prop := ∃ a b, m = [a, b] /\ (-1 <= a /\ a <= 1) /\ (-1 <= b /\ b <= 1)
theorem qq {k : Int} (hk : Kd k) {m : List Int} (h : m ∈ nr k) : Sp1 m := by
 have : (nr k).all (fun m => match m with | [a, b] => decide ((-1 <= a /\ a <= 1) /\ (-1 <= b /\ b <= 1)) | _ => false) = true := by rcases hk with rfl | rfl | rfl <;> decide +kernel
 have := List.all_eq_true.mp this m h
 split at this
 ·rename_i a b
  exact ⟨a, b, rfl, of_decide_eq_true this⟩
 ·cases this
noncomputable def rl (k : Int) (b s : List Int) : D := .tup [.int k, .tup (b.map .int), .tup (s.map .int)]
noncomputable def bt (n : Int) (j : Int) : Int := n / 2 ^ j.toNat % 2
noncomputable def ln3 (a b c : Int) (dy : Int) : Int := if dy = -1 then a else if dy = 0 then b else c
noncomputable def bq (a b c x : Int) (m : List Int) : Int := match m with
 | [dx, dy] => bt (ln3 a b c dy) (x + dx)
 | _ => 0
noncomputable def zb (k a b c x : Int) : Int := ((nr k).map (bq a b c x)).sum
noncomputable def qr (k : Int) (bo st : List Int) (a b c x : Int) : Bool := decide (zb k a b c x ∈ (if bt b x = 1 then st else bo))
theorem fM {i : Int} (h : 0 <= i) : Builtin.bitAnd i 1 = i % 2 := by
 unfold Builtin.bitAnd
 rw [decide_eq_true h]
 show ((i.toNat &&& (1 : Int).toNat : Nat) : Int) = _
 rw [show (1 : Int).toNat = 1 from rfl, Nat.and_one_is_mod]
 lia
theorem kR {n : Int} (h : 0 <= n) (j : Int) : 0 <= n / 2 ^ j.toNat := Int.ediv_nonneg h (Int.pow_nonneg (by decide))
noncomputable def BJ : List D -> (D -> Prop) -> Prop := fun ds R => ∃ k, ds = [.int k] /\ Kd k /\ R (eL (nr k))
noncomputable def qt : List D -> (D -> Prop) -> Prop := fun ds R => ∃ k bo st al c, ds = [rl k bo st, .bl al, .int c] /\ R (.bl (decide (c ∈ if al = true then st else bo)))
noncomputable def vJ : List D -> (D -> Prop) -> Prop := fun ds R => ∃ k bo st a b c x, ds = [rl k bo st, .tup [.int a, .int b, .int c], .int x] /\ Kd k /\ 0 <= a /\ 0 <= b /\ 0 <= c /\ 1 <= x /\ R (.bl (qr k bo st a b c x))
noncomputable def Th : D -> Prop
 | .int _ => True
 | .bl _ => True
 | .non => True
 | .str _ => True
 | .lst _ => True
 | .tup _ => True
 | _ => False
noncomputable def isI : D -> Bool
 | .int _ => true
 | _ => false
noncomputable def prOk : D -> Bool
 | .tup [a, b] => isI a && isI b
 | _ => false
theorem tS (h : prOk d = true) : ∃ a b, d = .tup [.int a, .int b] := by
 unfold prOk at h
 split at h
 ·rename_i a b
  cases a <;> cases b <;> first | exact ⟨_, _, rfl⟩ | cases h
 ·cases h
noncomputable def Th2 (d : D) : Prop := Th d /\ ∀ es, d = .tup es -> ∀ e ∈ es, Th e
noncomputable def pWh : List D -> (D -> Prop) -> Prop := fun ds R => ∃ d, ds = [d] /\ Th d /\ R (.bl (isI d))
noncomputable def pPair : List D -> (D -> Prop) -> Prop := fun ds R => ∃ d, ds = [d] /\ Th2 d /\ R (.bl (prOk d))
theorem qu {f g : Int -> Int -> Bool} {va vb vc : VT} {a b c : Int} {Q : VR -> List Sl -> Prop} (ha : ∀ Q', Q' (.d (.int a)) S -> va S Q') (hb : ∀ Q', Q' (.d (.int b)) S -> vb S Q') (hc : ∀ Q', Q' (.d (.int c)) S -> vc S Q') (h : Q (.d (.bl (f a b && g b c))) S) :
  iI (wI0 fun i j => V.bl (f i j)) (wI0 fun i j => V.bl (g i j)) va vb vc S Q := by
 unfold iI
 refine ha _ (hb _ ⟨.int a, .int b, rfl, rfl, a, b, rfl, rfl, _, rfl, ?_⟩)
 cases h1 : f a b with
 | true =>
  rw [if_pos rfl]
  refine hc _ ⟨.int b, .int c, rfl, rfl, b, c, rfl, rfl, ?_⟩
  rw [h1, Bool.true_and] at h
  exact h
 | false =>
  rw [if_neg Bool.false_ne_true]
  rw [h1, Bool.false_and] at h
  exact h
noncomputable def kS : List D -> (D -> Prop) -> Prop := fun ds R => ∃ k bo st, ds = [rl k bo st] /\ R (.bl (decide (0 ∉ bo)))
noncomputable def qv : List D -> (D -> Prop) -> Prop := fun ds R => ∃ k bo st, ds = [rl k bo st] /\ 0 ∉ bo /\ R .non
noncomputable def BK (c : Addr) (ds : List D) (C : Addr) : Prop := C = c /\ ∃ k bo st, ds = [rl k bo st] /\ 0 ∈ bo
theorem jY {neg : Bool} : gJ neg d (.lst ds) q -> gJ neg d (.tup ds) q := by
 rintro ⟨ds', h, r⟩
 rcases h with h | h
 ·cases h; exact ⟨_, .inr rfl, r⟩
 ·cases h
noncomputable def rsOk : D -> Bool
 | .tup [.int w, .int h] => decide (1 <= w) && decide (w <= 4) && (decide (1 <= h) && decide (h <= 60))
 | _ => false
theorem zc {w h : Int} : Th2 (eT [w, h]) := ⟨trivial, fun es e x hx => by
 cases e
 obtain ⟨n, _, rfl⟩ := List.mem_map.mp (show x ∈ [w, h].map D.int from hx)
 trivial⟩
noncomputable def pRs : List D -> (D -> Prop) -> Prop := fun ds R => ∃ d, ds = [d] /\ Th2 d /\ R (.bl (rsOk d))
noncomputable def BL : List D -> (D -> Prop) -> Prop := fun ds R => ∃ k bo st d, ds = [rl k bo st, d] /\ 0 ∉ bo /\ Th2 d /\ rsOk d = true /\ R .non
noncomputable def nH (cL cN : Addr) (ds : List D) (C : Addr) : Prop := ∃ k bo st d, ds = [rl k bo st, d] /\ ((C = cL /\ 0 ∈ bo) \/ (C = cN /\ 0 ∉ bo /\ Th2 d /\ rsOk d = false))
section
variable {P : Program} {w : World} {K : PySem.W.Frag} {mg : Str -> Option Value} {base : Heap}
theorem zd {a_OFFSETS : Addr} (S : Src K mg "offsets" gA) (T : Txt mg) (hD : mg "OFFSETS" = some (.ref a_OFFSETS)) (kD : okD K a_OFFSETS rows = true) : Has P w K mg base 1 "offsets" ["kind"] (spP K BJ) := by
 refine bF S nF (by walk_at "1") (fun ds R zq1 => by obtain ⟨_, e, _⟩ := zq1; rw [e]; rfl) fun f cdv A outer s H E hr => ⟨_, _, (ao (aF (bf (rK rfl (by rfl) T.list_ (aa (yj (rows := rows) rfl kD (dR (v := .ref a_OFFSETS) (by rfl) hD rfl) (ae 0 (pv 0)) (fun _ _ => rfl)) ah))))), ?_⟩
 rintro ds R ⟨k, rfl, hk, q⟩
 walk_at "sl"
 walk_at "rd"
 refine yk rfl (qp hk) ?_
 walk_at "rd"
 exact oR rfl (gc _) (by walk_at "rd"; exact q)
theorem qw (S : Src K mg "comes" kM) (T : Txt mg) : Has P w K mg base 1 "comes" ["rule", "alive", "count"] (spP K qt) := by
 refine bF S fJ (by walk_at "3") (fun ds R zq1 => by obtain ⟨_, _, _, _, _, e, _⟩ := zq1; rw [e]; rfl) fun f cdv A outer s H E hr => ⟨_, _, (ai (oz (ae 0 (pv 0)) (eh (n := 3) rfl rfl (aT (aB (az (i := 3) fJ.nd rfl (Or.inl rfl) (Or.inl rfl))) (aT (aB (az (i := 4) fJ.nd rfl (Or.inl rfl) (Or.inl rfl))) (aT (aB (az (i := 5) fJ.nd rfl (Or.inl rfl) (Or.inl rfl))) dh)))))
  (ao (aF (cR (gm (K := K) rfl hr.units) gZ (ae 2 (pv 2)) (f7 (cS (ae 1 (pv 1))) (ae 5 (pv 5)) (ae 4 (pv 4))) (by with_unfolding_all rfl))))), ?_⟩
 rintro ds R ⟨k, bo, st, al, c, rfl, q⟩
 walk_at "sl"
 unfold rl
 walk_at "rd"
 cases al with
 | true =>
  walk_at "rc"
  refine iO (f := D.int) b9 ?_
  walk_at "rd"
  exact q
 | false =>
  walk_at "rc"
  refine iO (f := D.int) b9 ?_
  walk_at "rd"
  exact q
theorem tT (S : Src K mg "comes_amid" dr) (T : Txt mg) (e10_ : Has P w K mg base 1 "offsets" ["kind"] (spP K BJ)) (e1_ : Has P w K mg base 1 "comes" ["rule", "alive", "count"] (spP K qt)) : Has P w K mg base 2 "comes_amid" ["rule", "lines", "x"] (spP K vJ) := by
 refine bF S fh (by walk_at "3") (fun ds R zq1 => by obtain ⟨_, _, _, _, _, _, _, e, _⟩ := zq1; rw [e]; rfl) fun f cdv A outer s H E hr => ⟨_, _, (ai (aD (i := 3) fh.nd rfl (Or.inl rfl) (aS (uW (K := K) rfl rfl) uX (by rfl) T.sum_ pz (aa (bf (cI (tg := ["dx", "dy"]) (cs := ["lines", "x"]) (ix := [1, 2]) (aN (aj dr) ["rule", "lines", "x", "count"] (by decide +kernel)) rfl (mP (by decide) (by decide)) (by decide) (b7 rfl (bz e10_ hr (aa (aE rfl (ae 0 (pv 0)) af (fun _ _ => rfl)) ah))) (fun _ _ _ _ => (eh (n := 2) rfl rfl (aT (aB (az (i := 0) (show (["dx", "dy", "lines", "x"] : List Str).Nodup by decide +kernel) rfl (Or.inl rfl) (by first | exact Or.inl rfl | exact Or.inr rfl))) (aT (aB (az (i := 1) (show (["dx", "dy", "lines", "x"] : List Str).Nodup by decide +kernel) rfl (Or.inl rfl) (by first | exact Or.inl rfl | exact Or.inr rfl))) dh)))) (fun _ _ _ _ => b8) (fun _ _ _ _ => (ay eP aH (ay dB bI (aE rfl (ae 2 (pv 2)) (ay bj aH af (ae 1 (pv 1))) (fun _ _ => rfl)) (ay bj aH (ae 3 (pv 3)) (ae 0 (pv 0)))) af)))) ah)))
  (ao (aF (bz e1_ hr (aa (ae 0 (pv 0)) (aa (cR fP ku (ay eP aH (ay dB bI (aE rfl (ae 1 (pv 1)) af (fun _ _ => rfl)) (ae 2 (pv 2))) af) af (bD _)) (aa (ae 3 (pv 3)) ah))))))), ?_⟩
 rintro ds R ⟨k, bo, st, a, b, c, x, rfl, hk, ha, hb, hc, hx, q⟩
 walk_at "sl"
 unfold rl
 walk_at "rd"
 refine ⟨k, rfl, hk, ?_⟩
 walk_at "rd"
 have hl : (nr k).length <= 8 := by rcases hk with rfl | rfl | rfl <;> decide
 refine comp_map (f := fun m => .int (bq a b c x m)) (by lia) (fun m hm A B hA => ?_) ?_
 ·obtain ⟨dx, dy, rfl, hx1, hy1⟩ := qq hk hm
  dsimp only [aO, List.replicate, List.map_cons, List.map_nil, List.cons_append, List.nil_append]
  walk_at "rd"
  have hy2 : dy = -1 \/ dy = 0 \/ dy = 1 := by lia
  rcases hy2 with rfl | rfl | rfl
  all_goals
   walk_at "rd"
   rw [fM (kR (by assumption) _)]
   exact hA _ rfl
 ·walk_at "rd"
  rw [show (nr k).map (fun m => D.int (bq a b c x m)) = ((nr k).map (bq a b c x)).map D.int by rw [List.map_map]; rfl]
  refine uY ?_
  walk_at "rd"
  rw [fM (kR hb _)]
  walk_at "rd"
  refine ⟨k, bo, st, _, _, rfl, ?_⟩
  walk_at "rd"
  unfold qr at q
  by_cases h1 : bt b x = 1
  ·rw [show decide (b / 2 ^ x.toNat % 2 = 1) = true from decide_eq_true h1]
   rw [if_pos h1] at q
   exact q
  ·rw [show decide (b / 2 ^ x.toNat % 2 = 1) = false from decide_eq_false h1]
   rw [if_neg h1] at q
   exact q
theorem BM (S : Src K mg "is_whole" gz) (T : Txt mg) : Has P w K mg base 1 "is_whole" ["thing"] (spP K pWh) := by
 refine bF S nE (by walk_at "1") (fun ds R zq1 => by obtain ⟨_, e, _⟩ := zq1; rw [e]; rfl) fun f cdv A outer s H E hr => ⟨_, _, (ao (aF (dH (aS (jH (K := K) rfl) jx (by rfl) T.isinstance_ bp (aa (ae 0 (pv 0)) (aa (fY (dU (v := .ty "int") (by rfl) T.int_ oa rfl) (fun _ _ => .ty _)) ah))) (f6 (ot (aS (jH (K := K) rfl) jx (by rfl) T.isinstance_ bp (aa (ae 0 (pv 0)) (aa (fY (dU (v := .ty "bool") (by rfl) T.bool_ lw rfl) (fun _ _ => .ty _)) ah)))))))), ?_⟩
 rintro ds R ⟨d, rfl, hd, q⟩
 walk_at "sl"
 cases d with
 | int n => walk_at "rc"; exact q
 | bl b => walk_at "rc"; exact q
 | non => walk_at "rc"; exact q
 | str x => walk_at "rc"; exact q
 | lst x => walk_at "rc"; exact q
 | tup x => walk_at "rc"; exact q
 | _ => cases hd
theorem tU (S : Src K mg "is_pair" jd) (T : Txt mg) (e6_ : Has P w K mg base 1 "is_whole" ["thing"] (spP K pWh)) : Has P w K mg base 2 "is_pair" ["thing"] (spP K pPair) := by
 refine bF S qj (by walk_at "1") (fun ds R zq1 => by obtain ⟨_, e, _⟩ := zq1; rw [e]; rfl) fun f cdv A outer s H E hr => ⟨_, _, (ao (aF (dH (aS (jH (K := K) rfl) jx (by rfl) T.isinstance_ bp (aa (ae 0 (pv 0)) (aa (fY (dU (v := .ty "tuple") (by rfl) T.tuple_ fU rfl) (fun _ _ => .ty _)) ah))) (dH (cR fP ku (aS (ff (K := K) rfl) fc (by rfl) T.len_ dG (aa (ae 0 (pv 0)) ah)) af (bD _)) (dH (bz e6_ hr (aa (aE rfl (ae 0 (pv 0)) af (fun _ _ => rfl)) ah)) (f6 (bz e6_ hr (aa (aE rfl (ae 0 (pv 0)) af (fun _ _ => rfl)) ah)))))))), ?_⟩
 rintro ds R ⟨d, rfl, ⟨hd, ht⟩, q⟩
 walk_at "sl"
 cases d with
 | int n => walk_at "rc"; exact q
 | bl b => walk_at "rc"; exact q
 | non => walk_at "rc"; exact q
 | str x => walk_at "rc"; exact q
 | lst x => walk_at "rc"; exact q
 | tup x =>
  match x, ht with
  | [], _ => walk_at "rc"; exact q
  | [a], _ => walk_at "rc"; exact q
  | [a, b], ht =>
   walk_at "rc"
   refine ⟨a, rfl, ht _ rfl a (by simp), ?_⟩
   cases ha : isI a with
   | false => walk_at "rc"; simp only [prOk, ha, Bool.false_and] at q; exact q
   | true =>
    walk_at "rc"
    refine ⟨b, rfl, ht _ rfl b (by simp), ?_⟩
    walk_at "rc"
    simp only [prOk, ha, Bool.true_and] at q
    exact q
  | a :: b :: c :: r, _ =>
   walk_at "rc"
   exact q
 | _ => cases hd
theorem qx (S : Src K mg "is_quiet" gB) (T : Txt mg) : Has P w K mg base 1 "is_quiet" ["rule"] (spP K kS) := by
 refine bF S nG (by walk_at "1") (fun ds R zq1 => by obtain ⟨_, _, _, e, _⟩ := zq1; rw [e]; rfl) fun f cdv A outer s H E hr => ⟨_, _, (ao (aF (cR (mV (K := K) rfl hr.units) gZ af (aE rfl (ae 0 (pv 0)) af (fun _ _ => rfl)) (by with_unfolding_all rfl)))), ?_⟩
 rintro ds R ⟨k, bo, sy, rfl, q⟩
 unfold rl
 walk_at "sl"
 walk_at "rc"
 by_cases h : 0 ∈ bo
 ·refine jY (Bf (f := D.int) (l := bo) b9 h ?_)
  walk_at "rc"
  rw [decide_eq_false (by simpa using h)] at q
  exact q
 ·refine jY (Be (f := D.int) (l := bo) b9 h ?_)
  walk_at "rc"
  rw [decide_eq_true h] at q
  exact q
theorem tV (S : Src K mg "refuse_loud" cq) (T : Txt mg) (e4_ : Has P w K mg base 1 "is_quiet" ["rule"] (spP K kS)) : Has P w K mg base 2 "refuse_loud" ["rule"] (spP K qv) := by
 refine bF S eJ (by walk_at "1") (fun ds R zq1 => by obtain ⟨_, _, _, e, _⟩ := zq1; rw [e]; rfl) fun f cdv A outer s H E hr => ⟨_, _, (ao (ck (fZ (cS (bz e4_ hr (aa (ae 0 (pv 0)) ah)))) (ao jy) bw)), ?_⟩
 rintro ds R ⟨k, bo, st, rfl, h0, q⟩
 walk_at "sl"
 walk_at "rd"
 refine ⟨k, bo, st, rfl, ?_⟩
 rw [decide_eq_true h0]
 walk_at "rc"
 exact q
theorem qy {c_Loud : Addr} (S : Src K mg "refuse_loud" cq) (T : Txt mg) (e4_ : Has P w K mg base 1 "is_quiet" ["rule"] (spP K kS)) (g_Loud : mg "Loud" = some (.ref c_Loud))
  (x_Loud : PySem.W.excIn K c_Loud [.type "ValueError", .type "Exception", .type "BaseException", .type "object"] "ValueError.__new__" = true) : iQ P w K mg base 2 "refuse_loud" ["rule"] (BK c_Loud) := by
 refine pI S eJ (by walk_at "1") (fun ds C h => by obtain ⟨_, _, _, _, e, _⟩ := h; rw [e]; rfl) fun f cdv A outer s H E hr TH => ⟨_, _, (u3 (fZ (cS (bz e4_ hr (aa (ae 0 (pv 0)) ah)))) (jQ TH PySem.F.excBase_ValueError x_Loud g_Loud rfl)
  jP), ?_⟩
 rintro ds C ⟨rfl, k, bo, st, rfl, h0⟩
 walk_at "sl"
 walk_at "rd"
 refine ⟨k, bo, st, rfl, ?_⟩
 rw [decide_eq_false (by simpa using h0)]
 walk_at "rc"
 exact if_pos rfl ▸ trivial
theorem BN (S : Src K mg "is_rest_size" dQ) (T : Txt mg) (e19_ : Has P w K mg base 2 "is_pair" ["thing"] (spP K pPair)) {t1 t2 : Tok} (g_MOST_COLUMNS : mg "MOST_COLUMNS" = some (.int 4 t1)) (g_MOST_ROWS : mg "MOST_ROWS" = some (.int 60 t2)) : Has P w K mg base 3 "is_rest_size" ["thing"] (spP K pRs) := by
 refine bF S je (by walk_at "1") (fun ds R zq1 => by obtain ⟨_, e, _⟩ := zq1; rw [e]; rfl) fun f cdv A outer s H E hr => ⟨_, _, (ao (aF (dH (bz e19_ hr (aa (ae 0 (pv 0)) ah)) (dH (jJ lj aH lj aH af (aE rfl (ae 0 (pv 0)) af (fun _ _ => rfl)) (fY (dR (v := .int 4) (by rfl) g_MOST_COLUMNS ⟨_, rfl⟩) (fun _ _ => .int _))) (f6 (jJ lj aH lj aH af (aE rfl (ae 0 (pv 0)) af (fun _ _ => rfl)) (fY (dR (v := .int 60) (by rfl) g_MOST_ROWS ⟨_, rfl⟩) (fun _ _ => .int _)))))))), ?_⟩
 rintro ds R ⟨d, rfl, hd, q⟩
 walk_at "sl"
 walk_at "rd"
 refine ⟨d, rfl, hd, ?_⟩
 cases hp : prOk d with
 | false =>
  walk_at "rc"
  have e : rsOk d = false := by
   unfold rsOk
   split
   ·cases hp
   ·rfl
  rw [e] at q
  exact q
 | true =>
  obtain ⟨a, b, rfl⟩ := tS hp
  walk_at "rc"
  refine qu (fun _ q => j_c q) (fun _ q => by walk_at "rc"; exact q) (fun _ q => j_c q) ?_
  simp only [rsOk] at q
  cases h1 : (decide (1 <= a) && decide (a <= 4)) with
  | false => walk_at "rc"; rw [h1, Bool.false_and] at q; exact q
  | true =>
   rw [h1, Bool.true_and] at q
   walk_at "rc"
   refine qu (fun _ q => j_c q) (fun _ q => by walk_at "rc"; exact q) (fun _ q => j_c q) ?_
   walk_at "rc"
   exact q
theorem ze (S : Src K mg "refuse_no_rests" bH) (T : Txt mg) (e2_ : Has P w K mg base 2 "refuse_loud" ["rule"] (spP K qv)) (e3_ : Has P w K mg base 3 "is_rest_size" ["thing"] (spP K pRs)) : Has P w K mg base 4 "refuse_no_rests" ["rule", "size"] (spP K BL) := by
 refine bF S dv (by walk_at "2") (fun ds R zq1 => by obtain ⟨_, _, _, _, e, _⟩ := zq1; rw [e]; rfl) fun f cdv A outer s H E hr => ⟨_, _, (ai (df (bz e2_ hr (aa (ae 0 (pv 0)) ah)))
  (ao (ck (fZ (cS (bz e3_ hr (aa (ae 1 (pv 1)) ah)))) (ao jy) bw))), ?_⟩
 rintro ds R ⟨k, bo, st, d, rfl, h0, hd, hs, q⟩
 walk_at "sl"
 walk_at "rd"
 refine ⟨k, bo, st, rfl, h0, ?_⟩
 walk_at "rd"
 refine ⟨d, rfl, hd, ?_⟩
 rw [hs]
 walk_at "rc"
 exact q
theorem tW {c_Loud c_NoSize : Addr} (S : Src K mg "refuse_no_rests" bH) (T : Txt mg) (e2_ : Has P w K mg base 2 "refuse_loud" ["rule"] (spP K qv)) (EX_refuse_loud : iQ P w K mg base 2 "refuse_loud" ["rule"] (BK c_Loud)) (e3_ : Has P w K mg base 3 "is_rest_size" ["thing"] (spP K pRs)) (g_NoSize : mg "NoSize" = some (.ref c_NoSize))
  (x_NoSize : PySem.W.excIn K c_NoSize [.type "ValueError", .type "Exception", .type "BaseException", .type "object"] "ValueError.__new__" = true) : iQ P w K mg base 4 "refuse_no_rests" ["rule", "size"] (nH c_Loud c_NoSize) := by
 refine pI S dv (by walk_at "2") (fun ds C h => by obtain ⟨_, _, _, _, e, _⟩ := h; rw [e]; rfl) fun f cdv A outer s H E hr TH => ⟨_, _, (yS (lS TH EX_refuse_loud rfl hr (aa (ae 0 (pv 0)) ah)) (yw (df (bz e2_ hr (aa (ae 0 (pv 0)) ah))) (u3 (fZ (cS (bz e3_ hr (aa (ae 1 (pv 1)) ah)))) (jQ TH PySem.F.excBase_ValueError x_NoSize g_NoSize rfl)
  jP))), ?_⟩
 rintro ds C ⟨k, bo, st, d, rfl, h | h⟩
 ·obtain ⟨rfl, h0⟩ := h
  walk_at "sl"
  refine .inl ?_
  walk_at "rd"
  exact ⟨_, _, rfl, ⟨rfl, k, bo, st, rfl, h0⟩, rfl⟩
 ·obtain ⟨rfl, h0, hd, hs⟩ := h
  walk_at "sl"
  refine .inr ?_
  walk_at "rd"
  refine ⟨k, bo, st, rfl, h0, ?_⟩
  walk_at "rd"
  refine ⟨d, rfl, hd, ?_⟩
  rw [hs]
  walk_at "rc"
  exact if_pos rfl ▸ trivial
end
end My
namespace My
open PySem L2 VL
theorem cY {p : List Int × D} {ps : List (List Int × D)} {c : List Int} : getA (p :: ps) c = if p.1 = c then some p.2 else getA ps c := by
 unfold getA
 by_cases h : p.1 = c <;> simp [List.find?_cons, h]
theorem ia {c m : List Int} : ∀ {kvs : List (List Int × D)}, m ∉ kvs.map (·.1) -> getA (kvs ++ [(m, d)]) c = if c = m then some d else getA kvs c
 | [], _ => by
  rw [List.nil_append, cY]
  by_cases h : c = m
  ·subst h; simp
  ·have : ¬ m = c := fun z => h z.symm
   simp [h, this, getA]
 | p :: ps, h => by
  have h1 : m ≠ p.1 := fun z => h (by simp [z])
  rw [List.cons_append, cY, cY, ia (kvs := ps) fun z => h (by simp at z ⊢; exact .inr z)]
  by_cases e : c = m
  ·subst e; simp [Ne.symm h1]
  ·simp [e]
theorem ib {c m : List Int} : ∀ {kvs : List (List Int × D)}, getA (kvs.map fun x => if x.1 = m then (x.1, d) else x) c = if c = m /\ m ∈ kvs.map (·.1) then some d else getA kvs c
 | [] => by simp [getA]
 | p :: ps => by
  rw [List.map_cons, cY, cY, ib (kvs := ps)]
  by_cases e : p.1 = m
  ·rw [if_pos e]
   by_cases h : c = m
   ·subst h; simp [e]
   ·have : ¬ p.1 = c := fun z => h (z.symm.trans e)
    simp [h, this]
  ·rw [if_neg e]
   by_cases h : p.1 = c
   ·have : ¬ c = m := fun z => e (h.trans z)
    simp [h, this]
   ·have e' : ¬ m = p.1 := fun z => e z.symm
    rw [if_neg h, if_neg h]
    simp only [List.map_cons, List.mem_cons, e', false_or]
theorem gF {m c : List Int} : getA (putA kvs m d) c = if c = m then some d else getA kvs c := by
 unfold putA
 split
 ·next h =>
  rw [ib]
  by_cases e : c = m <;> simp [e, h]
 ·next h => exact ia h
theorem eZ {α : Type} {ky : α -> List Int} {f : α -> D} {c : List Int} : ∀ (xs : List α) (kvs : List (List Int × D)), (∀ x ∈ xs, ky x = c -> f x = d) -> (c ∈ xs.map ky \/ getA kvs c = some d) -> getA (xs.foldl (fun kvs x => putA kvs (ky x) (f x)) kvs) c = some d
 | [], kvs, _, h => by rcases h with h | h; exact (nomatch h); exact h
 | x :: xs, kvs, hf, h => by
  rw [List.foldl_cons]
  refine eZ xs _ (fun y hy => hf y (List.mem_cons_of_mem _ hy)) ?_
  rw [gF]
  by_cases e : c = ky x
  ·rw [if_pos e]
   exact .inr (congrArg some (hf x List.mem_cons_self e.symm))
  ·rw [if_neg e]
   rcases h with h | h
   ·rcases List.mem_cons.mp h with h | h
    ·exact (e h).elim
    ·exact .inl h
   ·exact .inr h
theorem jl {m : List Int} : (putA kvs m d).length <= kvs.length + 1 := by
 unfold putA
 split <;> simp
noncomputable def am (k : Int) (bo st : List Int) (a b c : Int) : Int := if qr k bo st a b c 1 = true then 1 else 0
noncomputable def tri : List (List Int) := (List.range 8).flatMap fun (a : Nat) => (List.range 8).flatMap fun (b : Nat) => (List.range 8).map fun (c : Nat) => [0 + (a : Int), 0 + (b : Int), 0 + (c : Int)]
noncomputable def am3 (k : Int) (bo st : List Int) (m : List Int) : Int := am k bo st (m.getD 0 0) (m.getD 1 0) (m.getD 2 0)
noncomputable def Am (f : Int -> Int -> Int -> Int) (kvs : List (List Int × D)) : Prop := ∀ a b c : Int, 0 <= a -> a < 8 -> 0 <= b -> b < 8 -> 0 <= c -> c < 8 -> getA kvs [a, b, c] = some (.int (f a b c))
theorem tX {a b c : Int} (h1 : 0 <= a) (h2 : a < 8) (h3 : 0 <= b) (h4 : b < 8) (h5 : 0 <= c) (h6 : c < 8) : [a, b, c] ∈ tri :=
 List.mem_flatMap.mpr ⟨a.toNat, List.mem_range.mpr (by lia), List.mem_flatMap.mpr ⟨b.toNat, List.mem_range.mpr (by lia), List.mem_map.mpr ⟨c.toNat, List.mem_range.mpr (by lia), by
  rw [show (0 : Int) + (a.toNat : Int) = a by lia, show (0 : Int) + (b.toNat : Int) = b by lia, show (0 : Int) + (c.toNat : Int) = c by lia]⟩⟩⟩
theorem zf {m : List Int} (h : m ∈ tri) : ∃ a b c : Int, m = [a, b, c] /\ 0 <= a /\ a < 8 /\ 0 <= b /\ b < 8 /\ 0 <= c /\ c < 8 := by
 obtain ⟨a, ha, h⟩ := List.mem_flatMap.mp h
 obtain ⟨b, hb, h⟩ := List.mem_flatMap.mp h
 obtain ⟨c, hc, rfl⟩ := List.mem_map.mp h
 have := List.mem_range.mp ha
 have := List.mem_range.mp hb
 have := List.mem_range.mp hc
 exact ⟨_, _, _, rfl, by lia, by lia, by lia, by lia, by lia, by lia⟩
noncomputable def vK : List D -> (D -> Prop) -> Prop := fun ds R => ∃ k bo st, ds = [rl k bo st] /\ Kd k /\ ∀ kvs, Am (am k bo st) kvs -> R (dc kvs)
noncomputable def w3 (n : Int) (x : Nat) : Int := n / 2 ^ x % 8
noncomputable def fa (c : Nat) (b : Bool) (xs : List Int) : List Int := if b = true then [0, 2 ^ c].flatMap fun m => xs.map fun l => l + m else xs
noncomputable def fb (f : Int -> Int -> Int -> Int) (ab ro wa : Int) (c : Nat) (xs : List Int) : List Int := if 2 <= c then xs.filter fun l => decide (f (w3 ab (c - 2)) (w3 ro (c - 2)) (l / 2 ^ (c - 2)) = wa / 2 ^ (c - 1) % 2) else xs
noncomputable def below (f : Int -> Int -> Int -> Int) (ab ro wa : Int) (fr : List Bool) : Nat -> List Int
 | 0 => [0]
 | c + 1 => fb f ab ro wa c (fa c (fr.getD c false) (below f ab ro wa fr c))
theorem two_pos (c : Nat) : (0 : Int) < 2 ^ c := Int.pow_pos (by decide)
theorem BO {c : Nat} {b : Bool} {xs : List Int} (h : ∀ l ∈ xs, 0 <= l /\ l < 2 ^ c) : ∀ l ∈ fa c b xs, 0 <= l /\ l < 2 ^ (c + 1) := fun l hl => by
 have := two_pos c
 unfold fa at hl
 split at hl
 ·obtain ⟨m, hm, hl⟩ := List.mem_flatMap.mp hl
  obtain ⟨z, hz, rfl⟩ := List.mem_map.mp hl
  have := h z hz
  have : m = 0 \/ m = 2 ^ c := by simpa using hm
  rw [Int.pow_succ]
  rcases this with rfl | rfl <;> lia
 ·have := h l hl
  rw [Int.pow_succ]
  lia
theorem qz {c : Nat} {b : Bool} {xs : List Int} : (fa c b xs).length <= 2 * xs.length := by
 unfold fa
 split
 ·simp only [List.flatMap_cons, List.flatMap_nil, List.length_append, List.length_map, List.length_nil]; lia
 ·lia
theorem jm {f : Int -> Int -> Int -> Int} {ab ro wa : Int} {fr : List Bool} : ∀ c, (∀ l ∈ below f ab ro wa fr c, 0 <= l /\ l < 2 ^ c) /\ (below f ab ro wa fr c).length <= 2 ^ c
 | 0 => ⟨fun l hl => by rw [List.mem_singleton.mp hl]; decide, Nat.le_refl 1⟩
 | c + 1 => by
  obtain ⟨h1, h2⟩ := jm (f := f) (ab := ab) (ro := ro) (wa := wa) (fr := fr) c
  have h3 := qz (c := c) (b := fr.getD c false) (xs := below f ab ro wa fr c)
  have h4 := BO (b := fr.getD c false) h1
  unfold below fb
  split
  ·refine ⟨fun l hl => h4 l (List.mem_filter.mp hl).1, Nat.le_trans (List.length_filter_le _ _) (Nat.le_trans h3 ?_)⟩
   rw [Nat.pow_succ]; lia
  ·exact ⟨h4, Nat.le_trans h3 (by rw [Nat.pow_succ]; lia)⟩
noncomputable def BP : List D -> (D -> Prop) -> Prop := fun ds R => ∃ (f : Int -> Int -> Int -> Int) (kvs : List (List Int × D)) (ab ro wa : Int) (fr : List Bool), ds = [dc kvs, .int ab, .int ro, .int wa, .lst (fr.map D.bl)] /\ Am f kvs /\ 0 <= ab /\ 0 <= ro /\ 0 <= wa /\ fr.length <= 8 /\ R (.lst ((below f ab ro wa fr fr.length).map .int))
theorem tY (i : Nat) (xs : List Int) : ([0, 1 * 2 ^ ((i : Int)).toNat].flatMap fun m => xs.map fun l => D.int (l + m)) = (fa i true xs).map D.int := by
 unfold fa
 rw [if_pos rfl, List.map_flatMap, Int.one_mul, Int.toNat_natCast]
 simp only [List.map_map]
 rfl
theorem zg (fr : List Bool) : enD (fr.map D.bl) = (List.range fr.length).map fun (i : Nat) => D.tup [.int i, .bl (fr.getD i false)] := by
 unfold enD
 rw [List.length_map]
 refine List.map_congr_left fun i hi => ?_
 have := List.mem_range.mp hi
 rw [List.getD_eq_getElem?_getD, List.getD_eq_getElem?_getD, List.getElem?_map, List.getElem?_eq_getElem this]
 rfl
theorem tZ {fr : List Bool} {i : Nat} (e : ((List.range fr.length).map fun (i : Nat) => D.tup [.int i, .bl (fr.getD i false)])[i]? = some d) : ∃ x, (i < fr.length /\ fr.getD i false = x) /\ d = .tup [.int i, .bl x] := by
 rw [List.getElem?_map] at e
 cases h : (List.range fr.length)[i]? with
 | none => rw [h] at e; cases e
 | some j =>
  rw [h] at e
  cases e
  obtain ⟨hi, h⟩ := List.getElem?_eq_some_iff.mp h
  rw [List.getElem_range] at h
  subst h
  rw [List.length_range] at hi
  exact ⟨_, ⟨hi, rfl⟩, rfl⟩
theorem qA {b : Bool} {t u : VTS} {W : ba} (P : List Sl -> Prop) (fin : ∀ S', P S' -> W.nx S') (h1 : ∀ nx, (∀ S', P S' -> nx S') -> b = true -> t ⟨nx, W.rt, W.bk, W.ct⟩ S) (h2 : ∀ nx, (∀ S', P S' -> nx S') -> b = false -> u ⟨nx, W.rt, W.bk, W.ct⟩ S) : kIf t u W b S :=
 oI (fun h => h1 W.nx fin h) fun h => h2 W.nx fin h
theorem ig {i : Int} (h : 0 <= i) : Builtin.bitAnd i 7 = i % 8 := by
 unfold Builtin.bitAnd
 rw [decide_eq_true h]
 show ((i.toNat &&& (7 : Int).toNat : Nat) : Int) = _
 rw [show (7 : Int).toNat = 2 ^ 3 - 1 from rfl, Nat.and_two_pow_sub_one_eq_mod]
 lia
section
variable {P : Program} {w : World} {K : PySem.W.Frag} {mg : Str -> Option Value} {base : Heap}
theorem t4 (S : Src K mg "centres" dO) (T : Txt mg) (e15_ : Has P w K mg base 2 "comes_amid" ["rule", "lines", "x"] (spP K vJ)) : Has P w K mg base 3 "centres" ["rule"] (spP K vK) := by
 refine bF S hW (by walk_at "1") (fun ds R zq1 => by obtain ⟨_, _, _, e, _⟩ := zq1; rw [e]; rfl) fun f cdv A outer s H E hr => ⟨_, _, (ai (ny (ii := 1) (tg := ["above", "row", "below"]) (cs := []) (ix := []) hW.nd rfl (Or.inl rfl) (Or.inl rfl) (aN (aj dO) ["rule", "nines"] (by decide +kernel)) rfl (by decide) (by decide) (bC rfl T.range (aa af ah)) (fun _ _ _ _ => (az (i := 0) (show (["above", "row", "below"] : List Str).Nodup by decide +kernel) rfl (Or.inl rfl) (by first | exact Or.inl rfl | exact Or.inr rfl))) (fun _ _ _ _ => (bC rfl T.range (aa af ah))) (fun _ _ _ _ => (az (i := 1) (show (["above", "row", "below"] : List Str).Nodup by decide +kernel) rfl (Or.inl rfl) (by first | exact Or.inl rfl | exact Or.inr rfl))) (fun _ _ _ _ => (bC rfl T.range (aa af ah))) (fun _ _ _ _ => (az (i := 2) (show (["above", "row", "below"] : List Str).Nodup by decide +kernel) rfl (Or.inl rfl) (by first | exact Or.inl rfl | exact Or.inr rfl))) (fun _ _ _ _ => (aq (aa (aK (ae 0 (pv 0))) (aa (aK (ae 1 (pv 1))) (aa (aK (ae 2 (pv 2))) ah))))))
  (ao (aF (iK (lW (tg := ["nine"]) (cs := ["rule"]) (ix := [0]) rfl hr.units (aN (aj dO) ["rule", "nines"] (by decide +kernel)) rfl (aM (by decide)) (by decide) (b7 rfl (ae 1 (pv 1))) (fun _ _ _ _ => (aB (az (i := 0) (show (["nine", "rule"] : List Str).Nodup by decide +kernel) rfl (Or.inl rfl) (by first | exact Or.inl rfl | exact Or.inr rfl)))) (fun _ _ _ _ => b8) (fun _ _ _ _ => (ae 0 (pv 0))) (fun _ _ _ _ => (f7 (cS (bz e15_ hr (aa (ae 1 (pv 1)) (aa (ae 0 (pv 0)) (aa af ah))))) af af))))))), ?_⟩
 rintro ds R ⟨k, bo, st, rfl, hk, q⟩
 walk_at "sl"
 walk_at "rd"
 refine nA (xs := List.range 8) (en := fun (i : Nat) => .int (0 + (i : Int))) (r := fun (a : Nat) => (List.range 8).flatMap fun (b : Nat) => (List.range 8).map fun (c : Nat) => eT [0 + (a : Int), 0 + (b : Int), 0 + (c : Int)]) 64 (fun a _ => by rw [List.length_flatMap]; simp; decide) (by simp) (fun a ha zs B hz hB => ?_) ?_
 ·dsimp only [aO, List.replicate, List.map_cons, List.map_nil, List.cons_append, List.nil_append, List.set_cons_zero]
  rw [List.length_range] at hz
  refine yW ?_
  walk_at "rd"
  refine mh (xs := List.range 8) (en := fun (i : Nat) => .int (0 + (i : Int))) (r := fun (b : Nat) => (List.range 8).map fun (c : Nat) => eT [0 + (a : Int), 0 + (b : Int), 0 + (c : Int)]) (by simp) 8 (fun b _ => by simp) (fun b hb zs2 B2 hz2 hB2 => ?_) (hB _ rfl)
  rw [List.length_range] at hz2
  refine yW ?_
  walk_at "rd"
  refine mh (xs := List.range 8) (en := fun (i : Nat) => .int (0 + (i : Int))) (r := fun (c : Nat) => [eT [0 + (a : Int), 0 + (b : Int), 0 + (c : Int)]]) (by simp) 1 (fun b _ => by simp) (fun c hc zs3 B3 hz3 hB3 => ?_) ?_
  ·rw [List.length_range] at hz3
   refine yX (by lia) ?_
   walk_at "rd"
   exact tN (hB3 _ rfl)
  ·rw [<- List.map_eq_flatMap]
   exact hB2 _ rfl
 ·rw [show (List.flatMap (fun (a : Nat) => List.flatMap (fun (b : Nat) => List.map (fun (c : Nat) => eT [0 + (a : Int), 0 + (b : Int), 0 + (c : Int)]) (List.range 8)) (List.range 8)) (List.range 8)) = tri.map eT by unfold tri; simp only [List.map_flatMap, List.map_map]; rfl]
  walk_at "rd"
  refine eV (xs := tri) (ky := id) (f := fun m => .int (am3 k bo st m)) (by rw [show tri.length = 512 by decide +kernel]; decide) (fun m hm A B hA => ?_) ?_
  ·obtain ⟨a, b, c, rfl, h1, h2, h3, h4, h5, h6⟩ := zf hm
   dsimp only [aO, List.replicate, List.map_cons, List.map_nil, List.cons_append, List.nil_append]
   walk_at "rd"
   refine ⟨k, bo, st, a, b, c, 1, rfl, hk, h1, h3, h5, by decide, ?_⟩
   walk_at "rd"
   have hA' : ∀ z, am3 k bo st [a, b, c] = z -> ∀ S5, backS 1 [0] _ S5 = _ -> A [a, b, c] (.int z) S5 := fun z e S5 h => e ▸ hA S5 h
   refine iG (fun e => ?_) (fun e => ?_)
   ·walk_at "rd"
    exact hA' _ (if_pos e) _ rfl
   ·walk_at "rd"
    exact hA' _ (if_neg fun z => by rw [show qr k bo st a b c 1 = true from z] at e; cases e) _ rfl
  ·walk_at "rd"
   refine q _ fun a b c h1 h2 h3 h4 h5 h6 => eZ (d := .int (am k bo st a b c)) tri [] (fun x hx e => by rw [show x = [a, b, c] from e]; rfl) (.inl ?_)
   rw [List.map_id]
   exact tX h1 h2 h3 h4 h5 h6
theorem zh (S : Src K mg "rows_below" cF) (T : Txt mg) : Has P w K mg base 1 "rows_below" ["amid", "above", "row", "wanted", "free"] (spP K BP) := by
 refine bF S aW (fun _ _ _ _ _ _ us hl => match us, hl with | [_, _, _, _, _], _ => rfl) (fun ds R zq1 => by obtain ⟨_, _, _, _, _, _, e, _⟩ := zq1; rw [e]; rfl) fun f cdv A outer s H E hr => ⟨_, _, (ai (iS (i := 5) aW.nd rfl (Or.inr rfl) (bf (aR (aa af ah))))
  (ai (dI PassesOwn.never rfl (tu rfl (by rfl) T.enumerate_ (aa (ae 4 (pv 4)) ah)) (eh (n := 2) rfl rfl (aT (aB (az (i := 6) aW.nd rfl (Or.inl rfl) (Or.inl rfl))) (aT (aB (az (i := 7) aW.nd rfl (Or.inl rfl) (Or.inl rfl))) dh))) (ai (ck (cS (ae 7 (pv 7))) (ao (iS (i := 5) aW.nd rfl (Or.inr rfl) (bf (pU (tg := ["more", "line"]) (cs := ["found"]) (ix := [5]) (aN (aj cF) ["amid", "above", "row", "wanted", "free", "found", "column", "may_live", "x", "one", "two", "lives"] (by decide +kernel)) rfl (iV (by decide) (by decide) (by decide)) (by decide) (xu rfl (aq (aa af (aa (ay ir bI af (ae 6 (pv 6))) ah)))) (fun _ _ _ _ => (aB (az (i := 0) (show (["more", "line", "found"] : List Str).Nodup by decide +kernel) rfl (Or.inl rfl) (by first | exact Or.inl rfl | exact Or.inr rfl)))) (fun _ _ _ _ => b8) (fun _ _ _ _ => (b7 rfl (ae 2 (pv 2)))) (fun _ _ _ _ => (aB (az (i := 1) (show (["more", "line", "found"] : List Str).Nodup by decide +kernel) rfl (Or.inl rfl) (by first | exact Or.inl rfl | exact Or.inr rfl)))) (fun _ _ _ _ => b8) (fun _ _ _ _ => (ay bj aH (ae 1 (pv 1)) (ae 0 (pv 0)))))))) bw)
  (ao (ck (bE uv aH (ae 6 (pv 6)) af (bD _)) (ai (aD (i := 8) aW.nd rfl (Or.inr rfl) (ay ke aH (ae 6 (pv 6)) af))
  (ai (oz (aq (aa (ay eP aH (ay dB bI (ae 1 (pv 1)) (ae 8 (pv 8))) af) (aa (ay eP aH (ay dB bI (ae 2 (pv 2)) (ae 8 (pv 8))) af) (aa (ay eP aH (ay dB bI (ae 3 (pv 3)) (ay bj aH (ae 8 (pv 8)) af)) af) ah)))) (eh (n := 3) rfl rfl (aT (aB (az (i := 9) aW.nd rfl (Or.inr rfl) (Or.inl rfl))) (aT (aB (az (i := 10) aW.nd rfl (Or.inr rfl) (Or.inl rfl))) (aT (aB (az (i := 11) aW.nd rfl (Or.inr rfl) (Or.inl rfl))) dh)))))
  (ao (iS (i := 5) aW.nd rfl (Or.inr rfl) (bf (cI (tg := ["line"]) (cs := ["lives", "amid", "one", "two", "x"]) (ix := [11, 0, 9, 10, 8]) (aN (aj cF) ["amid", "above", "row", "wanted", "free", "found", "column", "may_live", "x", "one", "two", "lives"] (by decide +kernel)) rfl (aM (by decide)) (by decide) (b7 rfl (ae 5 (pv 5))) (fun _ _ _ _ => (aB (az (i := 0) (show (["line", "lives", "amid", "one", "two", "x"] : List Str).Nodup by decide +kernel) rfl (Or.inl rfl) (by first | exact Or.inl rfl | exact Or.inr rfl)))) (fun _ _ _ _ => (eG (bE fP ku (kL rfl hr.units (ae 2 (pv 2)) (aq (aa (ae 3 (pv 3)) (aa (ae 4 (pv 4)) (aa (ay dB bI (ae 0 (pv 0)) (ae 5 (pv 5))) ah)))) (fun _ _ => rfl)) (ae 1 (pv 1)) (bD _)))) (fun _ _ _ _ => (aK (ae 0 (pv 0)))))))))) bw))))
  (ao (aF (sO 5 (pv 5)))))), ?_⟩
 rintro ds R ⟨g, kvs, ab, ro, wa, fr, rfl, ham, ha, hr', hw, hl, q⟩
 walk_at "sl"
 walk_at "rd"
 refine iR (Nat.le_of_ble_eq_true rfl) ?_
 walk_at "rd"
 rw [zg]
 refine iH (fun i S2 => ∃ s6 s7 s8 s9 s10 s11, S2 = [.val (dc kvs), .val (.int ab), .val (.int ro), .val (.int wa), .val (.lst (fr.map D.bl)), .fre (.lst ((below g ab ro wa fr i).map .int)), s6, s7, s8, s9, s10, s11]) ⟨_, _, _, _, _, _, rfl⟩ ?_ ?_
 ·rintro i d S2 e ⟨s6, s7, s8, s9, s10, s11, rfl⟩
  obtain ⟨x, h1, rfl⟩ := tZ e
  obtain ⟨hb, hbl⟩ := jm (f := g) (ab := ab) (ro := ro) (wa := wa) (fr := fr) i
  have hi8 : i < 8 := by lia
  have hle : (below g ab ro wa fr i).length <= 128 := Nat.le_trans hbl (show 2 ^ i <= 2 ^ 7 from Nat.pow_le_pow_right (by decide) (by lia))
  walk_at "rd"
  refine qA (fun S' => S' = [.val (dc kvs), .val (.int ab), .val (.int ro), .val (.int wa), .val (.lst (fr.map D.bl)), .fre (.lst ((fa i x (below g ab ro wa fr i)).map .int)), .val (.int i), .val (.bl x), s8, s9, s10, s11]) ?_ ?_ ?_
  ·rintro S' rfl
   walk_at "rd"
   have hfb := BO (b := x) hb
   have hfl := qz (c := i) (b := x) (xs := below g ab ro wa fr i)
   refine dJ (fun h2 => ?_) (fun h2 => ?_)
   ·have h2' : 2 <= i := by lia
    have e1 : ((i : Int) - 2).toNat = i - 2 := by lia
    have e2 : ((i : Int) - 2 + 1).toNat = i - 1 := by lia
    have p1 : ∀ n : Nat, (0 : Int) <= 2 ^ n := fun n => Int.le_of_lt (two_pos n)
    walk_at "rd"
    refine cJ (xs := fa i x (below g ab ro wa fr i)) (en := D.int) (f := D.int) (p := fun l => decide (g (w3 ab (i - 2)) (w3 ro (i - 2)) (l / 2 ^ (i - 2)) = wa / 2 ^ (i - 1) % 2)) (by lia) (fun l hm A B hA hB => ?_) ?_
    ·obtain ⟨l1, l2⟩ := hfb l hm
     have l3 : l / 2 ^ (i - 2) < 8 := Int.ediv_lt_of_lt_mul (two_pos _) (by rw [show (8 : Int) = 2 ^ 3 from rfl, <- Int.pow_add, show 3 + (i - 2) = i + 1 by lia]; exact l2)
     have w8 : ∀ n x, 0 <= w3 n x /\ w3 n x < 8 := fun n x => ⟨Int.emod_nonneg _ (by decide), Int.emod_lt_of_pos _ (by decide)⟩
     dsimp only [aO, List.replicate, List.map_cons, List.map_nil, List.cons_append, List.nil_append]
     walk_at "rd"
     rw [ig (Int.ediv_nonneg ha (p1 _)), ig (Int.ediv_nonneg hr' (p1 _)), fM (Int.ediv_nonneg hw (p1 _)), e1, e2]
     refine iX (kvs := kvs) (ms := [w3 ab (i - 2), w3 ro (i - 2), l / 2 ^ (i - 2)]) rfl rfl (ham _ _ _ (w8 _ _).1 (w8 _ _).2 (w8 _ _).1 (w8 _ _).2 (Int.ediv_nonneg l1 (p1 _)) l3) ?_
     walk_at "rd"
     refine cX (fun z => ?_) (fun z => ?_)
     ·walk_at "rd"
      exact hA _ rfl z
     ·exact hB _ rfl z
    ·walk_at "rd"
     refine iR (Nat.le_of_ble_eq_true rfl) ?_
     walk_at "rd"
     have e3 : below g ab ro wa fr (i + 1) = (fa i x (below g ab ro wa fr i)).filter fun l => decide (g (w3 ab (i - 2)) (w3 ro (i - 2)) (l / 2 ^ (i - 2)) = wa / 2 ^ (i - 1) % 2) := by
      show fb g ab ro wa i (fa i (fr.getD i false) _) = _
      rw [h1.2]; exact if_pos h2'
     rw [e3]
     exact ⟨_, _, _, _, _, _, rfl⟩
   ·walk_at "rd"
    have e3 : below g ab ro wa fr (i + 1) = fa i x (below g ab ro wa fr i) := by
     show fb g ab ro wa i (fa i (fr.getD i false) _) = _
     rw [h1.2]; exact if_neg (by lia)
    rw [e3]
    exact ⟨_, _, _, _, _, _, rfl⟩
  ·rintro nx fin rfl
   walk_at "rd"
   refine m7 (xs := [0, 1 * 2 ^ ((i : Int)).toNat]) (en := D.int) (r := fun m => (below g ab ro wa fr i).map fun l => D.int (l + m)) (by simp) (fun m hm ys A B hA => ?_) ?_
   ·dsimp only [aO, List.replicate, List.map_cons, List.map_nil, List.cons_append, List.nil_append]
    walk_at "rd"
    refine yL (xs := below g ab ro wa fr i) (en := D.int) (f := fun l => .int (l + m)) (by lia) (fun l hm A2 B2 hA2 => ?_) (hA _ rfl)
    walk_at "rd"
    exact hA2 _ rfl
   ·rw [tY]
    walk_at "rd"
    refine iR (Nat.le_of_ble_eq_true rfl) ?_
    walk_at "rd"
    exact fin _ rfl
  ·rintro nx fin rfl
   walk_at "rd"
   exact fin _ rfl
 ·rintro S2 ⟨s6, s7, s8, s9, s10, s11, rfl⟩
  walk_at "rd"
  rw [List.length_map, List.length_range]
  exact q
end
end My
namespace My
open PySem L2 VL
noncomputable def frees (w : Nat) : List Bool := [false, false] ++ List.replicate w true ++ [false, false]
noncomputable def cd (g : Int -> Int -> Int -> Int) (a r : Int) (x b : Nat) : Bool := decide (g (w3 (a * 4) x) (w3 (r * 4) x) (w3 ((b : Int) * 4) x) = r * 4 / 2 ^ (x + 1) % 2)
noncomputable def fo (g : Int -> Int -> Int -> Int) (w : Nat) (a r : Int) : List Nat := (List.range (2 ^ w)).filter fun b => (List.range (w + 2)).all fun x => cd g a r x b
theorem e6 (w : Nat) : (frees w).length = 2 + (w + 2) := by unfold frees; simp; lia
theorem qB (w j : Nat) : (frees w).getD (2 + j) false = decide (j < w) := by
 unfold frees
 rw [List.getD_eq_getElem?_getD, List.append_assoc, List.getElem?_append_right (by simp), show 2 + j - [false, false].length = j by simp]
 by_cases h : j < w
 ·rw [List.getElem?_append_left (by simpa using h), List.getElem?_replicate, if_pos h, decide_eq_true h]; rfl
 ·rw [List.getElem?_append_right (by simp; lia), decide_eq_false h, List.length_replicate]
  generalize j - w = z
  match z with
  | 0 => rfl
  | 1 => rfl
  | z + 2 => rfl
theorem zi (b : Nat) (x j : Nat) (h : x < j) : w3 (((2 ^ j + b : Nat) : Int) * 4) x = w3 ((b : Int) * 4) x := by
 unfold w3
 have e : ((2 ^ j + b : Nat) : Int) * 4 = (b : Int) * 4 + 2 ^ x * (8 * 2 ^ (j - 1 - x)) := by
  have : (2 : Int) ^ j = 2 ^ x * 2 ^ (j - 1 - x) * 2 := by rw [<- Int.pow_add, <- Int.pow_succ, show (x + (j - 1 - x)).succ = j by lia]
  rw [Int.natCast_add, Int.natCast_pow, show ((2 : Nat) : Int) = 2 from rfl, this, Int.add_mul, Int.add_comm]
  congr 1
  rw [Int.mul_assoc, Int.mul_assoc, show (2 : Int) * 4 = 8 from rfl, Int.mul_comm (2 ^ (j - 1 - x)) 8]
 rw [e, Int.add_mul_ediv_left _ _ (Int.ne_of_gt (two_pos x)), Int.add_mul_emod_self_left]
theorem qC {g : Int -> Int -> Int -> Int} {a r : Int} (b x j : Nat) (h : x < j) : cd g a r x (2 ^ j + b) = cd g a r x b := by unfold cd; rw [zi b x j h]
theorem qD {b j : Nat} (h : b < 2 ^ (j + 1)) : w3 ((b : Int) * 4) j = (b : Int) * 4 / 2 ^ j := by
 unfold w3
 have h2 : (b : Int) < 2 ^ (j + 1) := by rw [<- show ((2 ^ (j + 1) : Nat) : Int) = 2 ^ (j + 1) from Int.natCast_pow ..]; exact Int.ofNat_lt.mpr h
 exact Int.emod_eq_of_lt (Int.ediv_nonneg (by lia) (Int.le_of_lt (two_pos _))) (Int.ediv_lt_of_lt_mul (two_pos _) (by rw [Int.pow_succ] at h2; lia))
theorem jZ (g : Int -> Int -> Int -> Int) (w : Nat) (a r : Int) : ∀ j, below g (a * 4) (r * 4) (r * 4) (frees w) (2 + j) = ((List.range (2 ^ min j w)).filter fun b => (List.range j).all fun x => cd g a r x b).map fun (b : Nat) => (b : Int) * 4
 | 0 => rfl
 | j + 1 => by
  have step : ∀ (L : List Nat), (∀ b ∈ L, b < 2 ^ (j + 1)) -> fb g (a * 4) (r * 4) (r * 4) (2 + j) (L.map fun (b : Nat) => (b : Int) * 4) = (L.filter fun b => cd g a r j b).map fun (b : Nat) => (b : Int) * 4 := fun L hL => by
   unfold fb
   rw [if_pos (by lia), List.filter_map, show 2 + j - 2 = j by lia, show 2 + j - 1 = j + 1 by lia]
   congr 1
   refine List.filter_congr fun b hb => ?_
   unfold cd
   rw [qD (hL b hb)]
   rfl
  have all_s : ∀ b, ((List.range (j + 1)).all fun x => cd g a r x b) = (((List.range j).all fun x => cd g a r x b) && cd g a r j b) := fun b => by rw [List.range_succ, List.all_append]; simp
  show fb g (a * 4) (r * 4) (r * 4) (2 + j) (fa (2 + j) ((frees w).getD (2 + j) false) (below g (a * 4) (r * 4) (r * 4) (frees w) (2 + j))) = _
  rw [qB, jZ g w a r j]
  by_cases h : j < w
  ·rw [decide_eq_true h, show min j w = j by lia, show min (j + 1) w = j + 1 by lia]
   have e : fa (2 + j) true (((List.range (2 ^ j)).filter fun b => (List.range j).all fun x => cd g a r x b).map fun (b : Nat) => (b : Int) * 4) = ((List.range (2 ^ (j + 1))).filter fun b => (List.range j).all fun x => cd g a r x b).map fun (b : Nat) => (b : Int) * 4 := by
    unfold fa
    rw [if_pos rfl, Nat.pow_succ, Nat.mul_two, List.range_add, List.filter_append, List.filter_map, List.map_append]
    simp only [List.flatMap_cons, List.flatMap_nil, List.append_nil, List.map_map]
    congr 1
    rw [show ((fun b => (List.range j).all fun x => cd g a r x b) ∘ fun x => 2 ^ j + x) = fun b => (List.range j).all fun x => cd g a r x b by
     funext b
     show ((List.range j).all fun x => cd g a r x (2 ^ j + b)) = _
     rw [Bool.eq_iff_iff, List.all_eq_true, List.all_eq_true]
     exact ⟨fun z x hx => by rw [<- qC b x j (List.mem_range.mp hx)]; exact z x hx, fun z x hx => by rw [qC b x j (List.mem_range.mp hx)]; exact z x hx⟩]
    refine List.map_congr_left fun b _ => ?_
    show (b : Int) * 4 + 2 ^ (2 + j) = ((2 ^ j + b : Nat) : Int) * 4
    rw [Int.natCast_add, Int.natCast_pow, show ((2 : Nat) : Int) = 2 from rfl, Int.add_mul, Nat.add_comm 2 j, Int.pow_add]
    exact Int.add_comm _ _
   rw [e, step _ (fun b hb => List.mem_range.mp (List.mem_filter.mp hb).1), List.filter_filter]
   congr 1
   exact List.filter_congr fun b _ => by rw [all_s, Bool.and_comm]
  ·rw [decide_eq_false h, show min j w = w by lia, show min (j + 1) w = w by lia]
   rw [show ∀ xs, fa (2 + j) false xs = xs from fun _ => if_neg (by decide), step _ (fun b hb => Nat.lt_of_lt_of_le (List.mem_range.mp (List.mem_filter.mp hb).1) (Nat.pow_le_pow_right (by decide) (by lia))), List.filter_filter]
   congr 1
   exact List.filter_congr fun b _ => by rw [all_s, Bool.and_comm]
noncomputable def fol (g : Int -> Int -> Int -> Int) (w : Nat) (a r : Int) : List Int := (fo g w a r).map fun (b : Nat) => (b : Int)
theorem zj (g : Int -> Int -> Int -> Int) (w : Nat) (a r : Int) : (below g (a * 4) (r * 4) (r * 4) (frees w) (frees w).length).map (fun l => l / 4) = fol g w a r := by
 unfold fol fo
 rw [e6, jZ, List.map_map, show min (w + 2) w = w by lia]
 exact List.map_congr_left fun b _ => Int.mul_ediv_cancel _ (by decide)
theorem BQ {g : Int -> Int -> Int -> Int} {w : Nat} {a r b : Int} (hw : w <= 4) (h : b ∈ fol g w a r) : 0 <= b /\ b < 16 := by
 obtain ⟨n, hn, rfl⟩ := List.mem_map.mp h
 have h1 := List.mem_range.mp (List.mem_filter.mp hn).1
 have : 2 ^ w <= 2 ^ 4 := Nat.pow_le_pow_right (by decide) hw
 lia
theorem mi {g : Int -> Int -> Int -> Int} {w : Nat} {a r : Int} (hw : w <= 4) : (fol g w a r).length <= 16 := by
 unfold fol fo
 have := List.length_filter_le (fun b => (List.range (w + 2)).all fun x => cd g a r x b) (List.range (2 ^ w))
 have : 2 ^ w <= 2 ^ 4 := Nat.pow_le_pow_right (by decide) hw
 rw [List.length_map]
 rw [List.length_range] at *
 lia
noncomputable def j1 : List (List Int) := (List.range 16).flatMap fun (a : Nat) => (List.range 16).map fun (r : Nat) => [(a : Int), (r : Int)]
theorem zk {a r : Int} (h1 : 0 <= a) (h2 : a < 16) (h3 : 0 <= r) (h4 : r < 16) : [a, r] ∈ j1 :=
 List.mem_flatMap.mpr ⟨a.toNat, List.mem_range.mpr (by lia), List.mem_map.mpr ⟨r.toNat, List.mem_range.mpr (by lia), by rw [show ((a.toNat : Nat) : Int) = a by lia, show ((r.toNat : Nat) : Int) = r by lia]⟩⟩
theorem mj {p : List Int} (h : p ∈ j1) : ∃ a r : Int, p = [a, r] /\ 0 <= a /\ a < 16 /\ 0 <= r /\ r < 16 := by
 obtain ⟨a, ha, h⟩ := List.mem_flatMap.mp h
 obtain ⟨b, hb, rfl⟩ := List.mem_map.mp h
 have := List.mem_range.mp ha
 have := List.mem_range.mp hb
 exact ⟨_, _, rfl, by lia, by lia, by lia, by lia⟩
noncomputable def left (ks : List (List Int)) : Nat := (j1.filter fun p => decide (p ∉ ks)).length
theorem ml (ks : List (List Int)) : left ks <= 256 := Nat.le_trans (List.length_filter_le _ _) (by decide +kernel)
theorem j2 {p : List Int} (hp : p ∈ j1) (hn : p ∉ kvs.map (·.1)) : left ((putA kvs p d).map (·.1)) + 1 <= left (kvs.map (·.1)) := by
 unfold left
 rw [show (j1.filter fun q => decide (q ∉ (putA kvs p d).map (·.1))) = (j1.filter fun q => decide (q ∉ kvs.map (·.1))).filter fun q => decide (q ≠ p) by
  rw [List.filter_filter]
  refine List.filter_congr fun q _ => ?_
  rw [Bool.eq_iff_iff]
  simp only [decide_eq_true_eq, Bool.and_eq_true, bN, not_or]]
 refine Nat.lt_of_le_of_ne (List.length_filter_le _ _) fun e => ?_
 have := List.length_filter_eq_length_iff.mp e p (List.mem_filter.mpr ⟨hp, by simpa using hn⟩)
 simp at this
theorem t5 {p : List Int} (hn : p ∉ kvs.map (·.1)) : (putA kvs p d).length = kvs.length + 1 := by
 unfold putA
 rw [if_neg hn, List.length_append]; rfl
structure Fo (F : Int -> Int -> List Int) (kvs : List (List Int × D)) (wl : List (List Int)) : Prop where
 nought : [0, 0] ∈ kvs.map (·.1) \/ [0, 0] ∈ wl
 keys : ∀ p ∈ kvs.map (·.1), p ∈ j1
 wait : ∀ p ∈ wl, p ∈ j1
 val : ∀ a r, [a, r] ∈ kvs.map (·.1) -> getA kvs [a, r] = some (.lst ((F a r).map .int)) /\ ∀ b ∈ F a r, [r, b] ∈ kvs.map (·.1) \/ [r, b] ∈ wl
 len : kvs.length + left (kvs.map (·.1)) <= 256
theorem Fo.pop {F : Int -> Int -> List Int} {wl : List (List Int)} {p : List Int} (h : Fo F kvs (wl ++ [p])) (hp : p ∈ kvs.map (·.1)) : Fo F kvs wl where
 nought := by
  rcases h.nought with z | z
  ·exact .inl z
  ·rcases List.mem_append.mp z with z | z
   ·exact .inr z
   ·exact .inl (List.mem_singleton.mp z ▸ hp)
 keys := h.keys
 wait := fun q hq => h.wait q (List.mem_append_left _ hq)
 val := fun a r ha => ⟨(h.val a r ha).1, fun b hb => by
  rcases (h.val a r ha).2 b hb with z | z
  ·exact .inl z
  ·rcases List.mem_append.mp z with z | z
   ·exact .inr z
   ·exact .inl (List.mem_singleton.mp z ▸ hp)⟩
 len := h.len
theorem Fo.add {F : Int -> Int -> List Int} {wl : List (List Int)} {a r : Int} (h : Fo F kvs (wl ++ [[a, r]])) (hn : [a, r] ∉ kvs.map (·.1)) (hb : ∀ b ∈ F a r, 0 <= b /\ b < 16) : Fo F (putA kvs [a, r] (.lst ((F a r).map .int))) (wl ++ (F a r).map fun b => [r, b]) where
 nought := by
  rcases h.nought with z | z
  ·exact .inl (bN.mpr (.inr z))
  ·rcases List.mem_append.mp z with z | z
   ·exact .inr (List.mem_append_left _ z)
   ·exact .inl (bN.mpr (.inl (List.mem_singleton.mp z)))
 keys := fun p hp => by
  rcases bN.mp hp with e | e
  ·exact e ▸ h.wait _ (List.mem_append_right _ List.mem_cons_self)
  ·exact h.keys p e
 wait := fun p hp => by
  rcases List.mem_append.mp hp with e | e
  ·exact h.wait p (List.mem_append_left _ e)
  ·obtain ⟨b, h1, rfl⟩ := List.mem_map.mp e
   obtain ⟨a', r', e', _, _, h3, h4⟩ := mj (h.wait _ (List.mem_append_right _ List.mem_cons_self))
   cases e'
   exact zk h3 h4 (hb b h1).1 (hb b h1).2
 val := fun a' r' ha => by
  rw [gF]
  by_cases e : [a', r'] = [a, r]
  ·cases e
   exact ⟨if_pos rfl, fun b h1 => .inr (List.mem_append_right _ (List.mem_map.mpr ⟨b, h1, rfl⟩))⟩
  ·have hk : [a', r'] ∈ kvs.map (·.1) := (bN.mp ha).resolve_left e
   refine ⟨(if_neg e).trans (h.val a' r' hk).1, fun b h1 => ?_⟩
   rcases (h.val a' r' hk).2 b h1 with z | z
   ·exact .inl (bN.mpr (.inr z))
   ·rcases List.mem_append.mp z with z | z
    ·exact .inr (List.mem_append_left _ z)
    ·exact .inl (bN.mpr (.inl (List.mem_singleton.mp z)))
 len := by
  have h1 := h.len
  have h2 := j2 (d := .lst ((F a r).map .int)) (h.wait _ (List.mem_append_right _ List.mem_cons_self)) hn
  rw [t5 hn]
  lia
theorem qE (w : Nat) : (List.replicate w [D.bl true]).flatten = List.replicate w (D.bl true) := by
 induction w with
 | zero => rfl
 | succ w ih => rw [List.replicate_succ, List.replicate_succ, List.flatten_cons, ih]; rfl
noncomputable def BR : List D -> (D -> Prop) -> Prop := fun ds R => ∃ (k : Int) (bo st : List Int) (w : Nat), ds = [rl k bo st, .int w] /\ Kd k /\ 1 <= w /\ w <= 4 /\ ∀ kvs, Fo (fol (am k bo st) w) kvs [] -> R (dc kvs)
section
variable {P : Program} {w : World} {K : PySem.W.Frag} {mg : Str -> Option Value} {base : Heap}
theorem zm (S : Src K mg "followers_of" bT) (T : Txt mg) (e23_ : Has P w K mg base 3 "centres" ["rule"] (spP K vK)) (e22_ : Has P w K mg base 1 "rows_below" ["amid", "above", "row", "wanted", "free"] (spP K BP)) : Has P w K mg base 4 "followers_of" ["rule", "wide"] (spP K BR) := by
 refine bF S br (by walk_at "2") (fun ds R zq1 => by obtain ⟨_, _, _, _, e, _⟩ := zq1; rw [e]; rfl) fun f cdv A outer s H E hr => ⟨_, _, (ai (aD (i := 2) br.nd rfl (Or.inl rfl) (bz e23_ hr (aa (ae 0 (pv 0)) ah)))
  (ai (aD (i := 3) br.nd rfl (Or.inl rfl) (bf (lT (lT (aR (aa bJ (aa bJ ah))) (yU (aR (aa bJ ah)) (ae 1 (pv 1)))) (aR (aa bJ (aa bJ ah))))))
  (ai (iL (fun _ h => bK (i := 4) br.nd rfl (Or.inl rfl) h) kG)
  (ai (cz (fun _ h => bK (i := 5) br.nd rfl (Or.inl rfl) h) (aR (aa (aq (aa af (aa af ah))) ah)))
  (ai (pJ PassesOwn.never (yd rfl (ae 5 (pv 5))) (ai (aD (i := 6) br.nd rfl (Or.inr rfl) (tE 5 rfl (pv 5)))
  (ao (ck (bE (pb (K := K) rfl hr.units) lO (ae 6 (pv 6)) (ae 4 (pv 4)) (by with_unfolding_all rfl)) (ai (sh (fun _ h => wF (i := 7) (j := 8) rfl br.nd rfl rfl (by decide) rfl rfl h rfl) (aa (ay ir bI (aE rfl (ae 6 (pv 6)) af (fun _ _ => rfl)) af) (aa (ay ir bI (aE rfl (ae 6 (pv 6)) af (fun _ _ => rfl)) af) ah)))
  (ai (fE 4 rfl hr.units (pv 4) (bf (cI (tg := ["below"]) (cs := []) (ix := []) (aN (aj bT) ["rule", "wide", "amid", "free", "followers", "waiting", "pair", "above", "row"] (by decide +kernel)) rfl (aM (by decide)) (by decide) (b7 rfl (bz e22_ hr (aa (ae 2 (pv 2)) (aa (ae 7 (pv 7)) (aa (ae 8 (pv 8)) (aa (ae 8 (pv 8)) (aa (ae 3 (pv 3)) ah))))))) (fun _ _ _ _ => (aB (az (i := 0) (show (["below"] : List Str).Nodup by decide +kernel) rfl (Or.inl rfl) (by first | exact Or.inl rfl | exact Or.inr rfl)))) (fun _ _ _ _ => b8) (fun _ _ _ _ => (ay dB bI (ae 0 (pv 0)) af)))) (ae 6 (pv 6)))
  (ao (df (pM 5 rfl (pv 5) (cI (tg := ["below"]) (cs := ["pair"]) (ix := [6]) (aN (aj bT) ["rule", "wide", "amid", "free", "followers", "waiting", "pair", "above", "row"] (by decide +kernel)) rfl (aM (by decide)) (by decide) (b7 rfl (fH rfl hr.units (ae 4 (pv 4)) (ae 6 (pv 6)) (fun _ _ => rfl))) (fun _ _ _ _ => (aB (az (i := 0) (show (["below", "pair"] : List Str).Nodup by decide +kernel) rfl (Or.inl rfl) (by first | exact Or.inl rfl | exact Or.inr rfl)))) (fun _ _ _ _ => b8) (fun _ _ _ _ => (aq (aa (aK (aE rfl (ae 1 (pv 1)) af (fun _ _ => rfl))) (aa (aK (ae 0 (pv 0))) ah)))))))))) bw))))
  (ao (aF (aK (ae 4 (pv 4)))))))))), ?_⟩
 rintro ds R ⟨k, bo, st, w, rfl, hk, w1, w2, q⟩
 walk_at "sl"
 walk_at "rd"
 refine ⟨k, bo, st, rfl, hk, fun amd ham => ?_⟩
 walk_at "rd"
 refine tG (by simp; lia) (by lia) ?_
 rw [qE]
 refine u7 (by simp; lia) ?_
 walk_at "rd"
 refine u7 (by simp; lia) ?_
 walk_at "rd"
 rw [show [D.bl false, D.bl false] ++ List.replicate w (D.bl true) ++ [D.bl false, D.bl false] = (frees w).map D.bl by unfold frees; rw [List.map_append, List.map_append, List.map_replicate]; rfl]
 refine ⟨fun n S => ∃ kvs wl s6 s7 s8, S = [.val (rl k bo st), .val (.int w), .val (dc amd), .val (.lst ((frees w).map D.bl)), od kvs, .own (wl.map eT), s6, s7, s8] /\ Fo (fol (am k bo st) w) kvs wl /\ n = wl.length + 17 * left (kvs.map (·.1)) /\ n <= 4353, ⟨_, [], [[0, 0]], _, _, _, rfl, ⟨.inr List.mem_cons_self, fun p hp => (nomatch hp), fun p hp => by rw [List.mem_singleton.mp hp]; decide +kernel, fun a r h => (nomatch h), by show 0 + left [] <= 256; rw [Nat.zero_add]; exact ml _⟩, rfl, by have := ml (([] : List (List Int × D)).map (·.1)); simp only [List.length_cons, List.length_nil]; lia⟩, ?_⟩
 rintro n S2 ⟨kvs, wl, s6, s7, s8, rfl, hF, rfl, hm⟩
 walk_at "rd"
 rcases List.eq_nil_or_concat wl with rfl | ⟨wl', p, e⟩
 ·refine oZ (d := .lst ([].map eT)) (b := false) rfl rfl ?_
  rw [if_neg Bool.false_ne_true]
  walk_at "rd"
  exact q kvs hF
 rw [List.concat_eq_append] at e
 subst e
 refine oZ (d := .lst ((wl' ++ [p]).map eT)) (b := true) rfl (by rw [List.map_append]; cases wl'.map eT <;> rfl) ?_
 rw [if_pos rfl]
 walk_at "rd"
 refine yT (ds := (wl' ++ [p]).map eT) (d := eT p) rfl (by simp) ?_
 dsimp only [List.set_cons_zero, List.set_cons_succ]
 rw [show ((wl' ++ [p]).map eT).dropLast = wl'.map eT by rw [List.map_append]; exact List.dropLast_concat ..]
 obtain ⟨a, r, rfl, a1, a2, r1, r2⟩ := mj (hF.wait _ (List.mem_append_right _ List.mem_cons_self))
 walk_at "rd"
 refine iN (ms := [a, r]) (kvs := kvs) rfl rfl ?_
 rw [if_pos rfl]
 rw [List.length_append, List.length_singleton] at hm ⊢
 by_cases hin : [a, r] ∈ kvs.map (·.1)
 ·rw [decide_eq_true hin]
  walk_at "rd"
  exact ⟨_, Nat.add_lt_add_right (Nat.lt_succ_self _) _, kvs, wl', _, _, _, rfl, hF.pop hin, rfl, by lia⟩
 ·rw [decide_eq_false hin, Bool.not_false]
  walk_at "rd"
  dsimp only [ofV]
  rw [show (2 : Int) ^ Int.toNat 2 = 4 from rfl]
  refine ⟨am k bo st, amd, a * 4, r * 4, r * 4, frees w, rfl, ham, by lia, by lia, by lia, by rw [e6]; lia, ?_⟩
  walk_at "rd"
  have hbl := (jm (f := am k bo st) (ab := a * 4) (ro := r * 4) (wa := r * 4) (fr := frees w) (frees w).length).2
  have hb8 : 2 ^ (frees w).length <= 2 ^ 8 := Nat.pow_le_pow_right (by decide) (by rw [e6]; lia)
  refine comp_map (xs := below (am k bo st) (a * 4) (r * 4) (r * 4) (frees w) (frees w).length) (en := D.int) (f := fun l => .int (l / 4)) (by lia) (fun l hl A B hA => ?_) ?_
  ·dsimp only [aO, List.replicate, List.map_cons, List.map_nil, List.cons_append, List.nil_append]
   walk_at "rd"
   exact hA _ rfl
  rw [show (below (am k bo st) (a * 4) (r * 4) (r * 4) (frees w) (frees w).length).map (fun l => D.int (l / 4)) = (fol (am k bo st) w a r).map D.int by rw [<- zj, List.map_map]; rfl]
  walk_at "rd"
  have hkl := hF.len
  refine eI (ms := [a, r]) rfl rfl (by lia) ?_
  dsimp only [List.set_cons_zero, List.set_cons_succ]
  have hadd := hF.add hin fun b hb => BQ w2 hb
  have hlp := j2 (d := .lst ((fol (am k bo st) w a r).map .int)) (hF.wait _ (List.mem_append_right _ List.mem_cons_self)) hin
  have hfl := mi (g := am k bo st) (a := a) (r := r) w2
  have hget : getA (putA kvs [a, r] (.lst ((fol (am k bo st) w a r).map .int))) [a, r] = some (.lst ((fol (am k bo st) w a r).map .int)) := by rw [gF]; exact if_pos rfl
  generalize putA kvs [a, r] (.lst ((fol (am k bo st) w a r).map .int)) = kvs2 at *
  walk_at "rd"
  refine fI (kvs := kvs2) (ms := [a, r]) rfl rfl hget ?_
  walk_at "rd"
  refine comp_map (xs := fol (am k bo st) w a r) (en := D.int) (f := fun b => eT [r, b]) (by lia) (fun b hb A B hA => ?_) ?_
  ·dsimp only [aO, List.replicate, List.map_cons, List.map_nil, List.cons_append, List.nil_append]
   walk_at "rd"
   exact hA _ rfl
  rw [show (fol (am k bo st) w a r).map (fun b => eT [r, b]) = ((fol (am k bo st) w a r).map fun b => [r, b]).map eT by rw [List.map_map]; rfl]
  refine pV (ds := wl'.map eT) rfl (by simp only [List.length_map]; lia) ?_
  dsimp only [List.set_cons_zero, List.set_cons_succ]
  rw [<- List.map_append]
  walk_at "rd"
  refine ⟨_, ?_, kvs2, wl' ++ (fol (am k bo st) w a r).map (fun b => [r, b]), _, _, _, rfl, hadd, rfl, ?_⟩
  all_goals (rw [List.length_append, List.length_map]; lia)
end
end My
namespace My
open PySem L2 VL
noncomputable def t6 : Stmt -> Scope
 | .For _ _ (_ :: .Expr (.Call _ [.DictComp _ _ _ sc _] _ _) _ :: _) _ _ => sc
 | s => aj s
noncomputable def en0 (F : Int -> Int -> List Int) (a r : Int) : Bool := decide (0 ∈ F a r) && decide (0 ∈ F r 0)
noncomputable def Tw (F : Int -> Int -> List Int) : Nat -> Int -> Int -> Int
 | 0, a, r => if en0 F a r = true then 1 else 0
 | j + 1, a, r => ((F a r).map fun b => Tw F j r b).sum
noncomputable def Tp (F : Int -> Int -> List Int) (j : Nat) (p : List Int) : Int := Tw F j (p.getD 0 0) (p.getD 1 0)
noncomputable def wd (F : Int -> Int -> List Int) (kvs : List (List Int × D)) (j : Nat) : List (List Int × D) := (kvs.map (·.1)).foldl (fun m p => putA m (id p) (.int (Tp F j p))) []
theorem vL {F : Int -> Int -> List Int} {j : Nat} {a r : Int} (h : [a, r] ∈ kvs.map (·.1)) : getA (wd F kvs j) [a, r] = some (.int (Tw F j a r)) :=
 eZ (ky := id) (d := .int (Tw F j a r)) _ [] (fun x _ e => by rw [show x = [a, r] from e]; rfl) (.inl (by rw [List.map_id]; exact h))
noncomputable def wds (F : Int -> Int -> List Int) (kvs : List (List Int × D)) (n : Nat) : List D := (List.range n).map fun j => dc (wd F kvs j)
noncomputable def BS : List D -> (D -> Prop) -> Prop := fun ds R => ∃ (F : Int -> Int -> List Int) (kvs : List (List Int × D)) (a r : Int), ds = [dc kvs, eT [a, r]] /\ Fo F kvs [] /\ [a, r] ∈ kvs.map (·.1) /\ R (.bl (en0 F a r))
theorem qF {l : List D} : atI (l ++ [d]) (-1) = some d := by
 unfold atI
 rw [show ixN (l ++ [d]).length (-1) = some l.length by
  unfold ixN
  rw [List.length_append, List.length_singleton]
  split
  ·lia
  ·split
   ·congr 1; lia
   ·lia]
 show (l ++ [d])[l.length]? = some d
 rw [List.getElem?_append_right (Nat.le_refl _), Nat.sub_self]
 rfl
theorem j3 (F : Int -> Int -> List Int) (kvs : List (List Int × D)) (n : Nat) : wds F kvs (n + 1) = wds F kvs n ++ [dc (wd F kvs n)] := by
 unfold wds
 rw [List.range_succ, List.map_append]; rfl
theorem j4 (F : Int -> Int -> List Int) (kvs : List (List Int × D)) (n : Nat) : atI (wds F kvs (n + 1)) (-1) = some (dc (wd F kvs n)) := by
 rw [j3]; exact qF
theorem t7 (F : Int -> Int -> List Int) (kvs : List (List Int × D)) (n : Nat) : (wds F kvs n).length = n := by simp [wds]
noncomputable def vM : List D -> (D -> Prop) -> Prop := fun ds R => ∃ (F : Int -> Int -> List Int) (kvs : List (List Int × D)) (h : Nat), ds = [dc kvs, .int h] /\ Fo F kvs [] /\ (∀ a r, (F a r).length <= 16) /\ h <= 60 /\ R (.lst (wds F kvs (h + 1)))
noncomputable def BU : List D -> (D -> Prop) -> Prop := fun ds R => ∃ (k : Int) (bo st : List Int) (w h : Nat), ds = [rl k bo st, eT [(w : Int), (h : Int)]] /\ Kd k /\ 0 ∉ bo /\ 1 <= w /\ w <= 4 /\ 1 <= h /\ h <= 60 /\ R (.int (Tw (fol (am k bo st) w) h 0 0))
section
variable {P : Program} {w : World} {K : PySem.W.Frag} {mg : Str -> Option Value} {base : Heap}
theorem zo (S : Src K mg "may_end" jf) (T : Txt mg) : Has P w K mg base 1 "may_end" ["followers", "pair"] (spP K BS) := by
 refine bF S qk (by walk_at "2") (fun ds R zq1 => by obtain ⟨_, _, _, _, e, _⟩ := zq1; rw [e]; rfl) fun f cdv A outer s H E hr => ⟨_, _, (ao (aF (dH (cR (gm (K := K) rfl hr.units) gZ af (fH rfl hr.units (ae 0 (pv 0)) (ae 1 (pv 1)) (fun _ _ => rfl)) (by with_unfolding_all rfl)) (f6 (cR (gm (K := K) rfl hr.units) gZ af (fH rfl hr.units (ae 0 (pv 0)) (aq (aa (aE rfl (ae 1 (pv 1)) af (fun _ _ => rfl)) (aa af ah))) (fun _ _ => rfl)) (by with_unfolding_all rfl)))))), ?_⟩
 rintro ds R ⟨F, kvs, a, r, rfl, hF, hk, q⟩
 walk_at "sl"
 walk_at "rd"
 refine fI (kvs := kvs) (ms := [a, r]) rfl rfl (hF.val a r hk).1 ?_
 walk_at "rd"
 unfold en0 at q
 by_cases h : (0 : Int) ∈ F a r
 ·refine uO (f := D.int) b9 h ?_
  rw [decide_eq_true h, Bool.true_and] at q
  walk_at "rc"
  have hk2 : [r, 0] ∈ kvs.map (·.1) := ((hF.val a r hk).2 0 h).resolve_right (fun z => nomatch z)
  refine fI (kvs := kvs) (ms := [r, 0]) rfl rfl (hF.val r 0 hk2).1 ?_
  walk_at "rd"
  by_cases h2 : (0 : Int) ∈ F r 0
  ·refine uO (f := D.int) b9 h2 ?_
   rw [decide_eq_true h2] at q
   walk_at "rc"
   exact q
  ·refine uP (f := D.int) b9 h2 ?_
   rw [decide_eq_false h2] at q
   walk_at "rc"
   exact q
 ·refine uP (f := D.int) b9 h ?_
  rw [decide_eq_false h, Bool.false_and] at q
  walk_at "rc"
  exact q
theorem t8 (S : Src K mg "ways_to_end" bY) (T : Txt mg) (e17_ : Has P w K mg base 1 "may_end" ["followers", "pair"] (spP K BS)) : Has P w K mg base 2 "ways_to_end" ["followers", "high"] (spP K vM) := by
 refine bF S cO (by walk_at "2") (fun ds R zq1 => by obtain ⟨_, _, _, e, _⟩ := zq1; rw [e]; rfl) fun f cdv A outer s H E hr => ⟨_, _, (ai (cz (fun _ h => bK (i := 2) cO.nd rfl (Or.inl rfl) h) (aR (aa (iK (lW (tg := ["pair"]) (cs := ["followers"]) (ix := [0]) rfl hr.units (aN (aj bY) ["followers", "high", "ways", "left", "fewer"] (by decide +kernel)) rfl (aM (by decide)) (by decide) (iW (ae 0 (pv 0))) (fun _ _ _ _ => (aB (az (i := 0) (show (["pair", "followers"] : List Str).Nodup by decide +kernel) rfl (Or.inl rfl) (by first | exact Or.inl rfl | exact Or.inr rfl)))) (fun _ _ _ _ => b8) (fun _ _ _ _ => (ae 0 (pv 0))) (fun _ _ _ _ => (f7 (cS (bz e17_ hr (aa (ae 1 (pv 1)) (aa (ae 0 (pv 0)) ah)))) af af)))) ah)))
  (ai (dI PassesOwn.never rfl (bC rfl T.range (aa (ae 1 (pv 1)) ah)) (aB (az (i := 3) cO.nd rfl (Or.inl rfl) (Or.inl rfl))) (ai (aD (i := 4) cO.nd rfl (Or.inr rfl) (aE rfl (ae 2 (pv 2)) (d9 cQ af) (fun _ _ => rfl)))
  (ao (df (oB 2 rfl (pv 2) (iK (qh (yc := "pair") (tg := ["pair"]) (cs := ["fewer", "followers"]) (ix := [4, 0]) rfl hr.units (jU (y := "pair") (aj bY) ["followers", "high", "ways", "left", "fewer"] 1 (by decide +kernel)) rfl (aM (by decide)) (by decide) (iW (ae 0 (pv 0))) (fun _ _ _ _ => (aB (az (i := 0) (show (["pair", "fewer", "followers"] : List Str).Nodup by decide +kernel) rfl (Or.inr rfl) (by first | exact Or.inl rfl | exact Or.inr rfl)))) (fun _ _ _ _ => b8) (fun _ _ _ _ => (ae 0 (pv 0))) (fun _ _ _ _ => (aS (uW (K := K) rfl rfl) uX (by rfl) T.sum_ pz (aa (bf (cI (tg := ["below"]) (cs := ["fewer", "pair"]) (ix := [1, 0]) (i6 (t6 ((bu bY).getD 1 (.Pass ⟨0, 0, 0, 0⟩))) ["pair", "fewer", "followers"] (by decide +kernel)) rfl (aM (by decide)) (by decide) (b7 rfl (fH rfl hr.units (ae 2 (pv 2)) (ae 0 (pv 0)) (fun _ _ => rfl))) (fun _ _ _ _ => (aB (az (i := 0) (show (["below", "fewer", "pair"] : List Str).Nodup by decide +kernel) rfl (Or.inl rfl) (by first | exact Or.inl rfl | exact Or.inr rfl)))) (fun _ _ _ _ => b8) (fun _ _ _ _ => (kL rfl hr.units (ae 1 (pv 1)) (aq (aa (aE rfl (ae 2 (pv 2)) af (fun _ _ => rfl)) (aa (ae 0 (pv 0)) ah))) (fun _ _ => rfl))))) ah))))))))))
  (ao (aF (aK (ae 2 (pv 2))))))), ?_⟩
 rintro ds R ⟨F, kvs, h, rfl, hF, hl, hh, q⟩
 have hkl : (kvs.map (·.1)).length <= 256 := by have := hF.len; rw [List.length_map]; lia
 walk_at "sl"
 walk_at "rd"
 refine eV (xs := kvs.map (·.1)) (ky := id) (f := fun p => .int (Tp F 0 p)) (by lia) (fun p hp A B hA => ?_) ?_
 ·obtain ⟨a, r, rfl, _⟩ := mj (hF.keys p hp)
  dsimp only [aO, List.replicate, List.map_cons, List.map_nil, List.cons_append, List.nil_append]
  walk_at "rd"
  refine ⟨F, kvs, a, r, rfl, hF, hp, ?_⟩
  walk_at "rd"
  have hA' : ∀ z, Tp F 0 [a, r] = z -> ∀ S5, backS 1 [0] _ S5 = _ -> A [a, r] (.int z) S5 := fun z e S5 h => e ▸ hA S5 h
  refine iG (fun e => ?_) (fun e => ?_)
  ·walk_at "rd"
   exact hA' _ (if_pos e) _ rfl
  ·walk_at "rd"
   exact hA' _ (if_neg fun z => by rw [show en0 F a r = true from z] at e; cases e) _ rfl
 walk_at "rd"
 refine fC (fun i S2 => ∃ s3 s4, S2 = [.val (dc kvs), .val (.int h), .own (wds F kvs (i + 1)), s3, s4]) ⟨_, _, rfl⟩ ?_ ?_
 ·rintro i S2 hi ⟨s3, s4, rfl⟩
  walk_at "rd"
  refine du rfl rfl (j4 F kvs i) ?_
  walk_at "rd"
  refine eV (xs := kvs.map (·.1)) (ky := id) (f := fun p => .int (Tp F (i + 1) p)) (by lia) (fun p hp A B hA => ?_) ?_
  ·obtain ⟨a, r, rfl, _⟩ := mj (hF.keys p hp)
   obtain ⟨v1, v2⟩ := hF.val a r hp
   dsimp only [aO, List.replicate, List.map_cons, List.map_nil, List.cons_append, List.nil_append]
   walk_at "rd"
   refine fI (kvs := kvs) (ms := [a, r]) rfl rfl v1 ?_
   walk_at "rd"
   have := hl a r
   refine comp_map (xs := F a r) (en := D.int) (f := fun b => .int (Tw F i r b)) (by lia) (fun b hb A B hA => ?_) ?_
   ·dsimp only [aO, List.replicate, List.map_cons, List.map_nil, List.cons_append, List.nil_append]
    walk_at "rd"
    refine iX (kvs := wd F kvs i) (ms := [r, b]) rfl rfl (vL ((v2 b hb).resolve_right fun z => nomatch z)) ?_
    walk_at "rd"
    exact hA _ rfl
   rw [show (F a r).map (fun b => D.int (Tw F i r b)) = ((F a r).map fun b => Tw F i r b).map D.int by rw [List.map_map]; rfl]
   walk_at "rd"
   refine uY ?_
   walk_at "rd"
   exact hA _ rfl
  ·walk_at "rd"
   refine oT rfl (by rw [t7]; lia) ?_
   dsimp only [List.set_cons_zero, List.set_cons_succ]
   walk_at "rd"
   exact ⟨_, _, by rw [j3 F kvs (i + 1)]; rfl⟩
 ·rintro S2 ⟨s3, s4, rfl⟩
  walk_at "rd"
  exact q
theorem zp (S : Src K mg "how_many_rest" bU) (T : Txt mg) (e25_ : Has P w K mg base 4 "refuse_no_rests" ["rule", "size"] (spP K BL)) (e13_ : Has P w K mg base 4 "followers_of" ["rule", "wide"] (spP K BR)) (e21_ : Has P w K mg base 2 "ways_to_end" ["followers", "high"] (spP K vM)) : Has P w K mg base 5 "how_many_rest" ["rule", "size"] (spP K BU) := by
 refine bF S ef (by walk_at "2") (fun ds R zq1 => by obtain ⟨_, _, _, _, _, e, _⟩ := zq1; rw [e]; rfl) fun f cdv A outer s H E hr => ⟨_, _, (ai (df (bz e25_ hr (aa (ae 0 (pv 0)) (aa (ae 1 (pv 1)) ah))))
  (ao (aF (kL rfl hr.units (aE rfl (bz e21_ hr (aa (bz e13_ hr (aa (ae 0 (pv 0)) (aa (aE rfl (ae 1 (pv 1)) af (fun _ _ => rfl)) ah))) (aa (aE rfl (ae 1 (pv 1)) af (fun _ _ => rfl)) ah))) (d9 cQ af) (fun _ _ => rfl)) (aq (aa af (aa af ah))) (fun _ _ => rfl))))), ?_⟩
 rintro ds R ⟨k, bo, st, w, h, rfl, hk, h0, w1, w2, h1, h2, q⟩
 walk_at "sl"
 unfold rl
 walk_at "rd"
 refine ⟨k, bo, st, _, rfl, h0, zc, by simp only [eT, List.map_cons, List.map_nil, rsOk, Bool.and_eq_true, decide_eq_true_eq]; lia, ?_⟩
 walk_at "rd"
 refine ⟨k, bo, st, w, rfl, hk, w1, w2, fun kvs hF => ?_⟩
 walk_at "rd"
 refine ⟨_, kvs, h, rfl, hF, fun a r => mi w2, h2, ?_⟩
 walk_at "rd"
 refine du rfl rfl (j4 (fol (am k bo st) w) kvs h) ?_
 walk_at "rd"
 refine iX (kvs := wd (fol (am k bo st) w) kvs h) (ms := [0, 0]) rfl rfl (vL (hF.nought.resolve_right fun z => nomatch z)) ?_
 walk_at "rd"
 exact q
theorem t9 {c_Loud c_NoSize : Addr} (S : Src K mg "how_many_rest" bU) (T : Txt mg) (EX_refuse_no_rests : iQ P w K mg base 4 "refuse_no_rests" ["rule", "size"] (nH c_Loud c_NoSize)) : iQ P w K mg base 5 "how_many_rest" ["rule", "size"] (nH c_Loud c_NoSize) := by
 refine pI S ef (by walk_at "2") (fun ds C h => by obtain ⟨_, _, _, _, e, _⟩ := h; rw [e]; rfl) fun f cdv A outer s H E hr TH => ⟨_, _, (lS TH EX_refuse_no_rests rfl hr (aa (ae 0 (pv 0)) (aa (ae 1 (pv 1)) ah))), ?_⟩
 rintro ds C h
 obtain ⟨k, bo, st, d, rfl, h'⟩ := id h
 walk_at "sl"
 walk_at "rd"
 exact ⟨_, _, rfl, h, rfl⟩
end
end My
namespace My
open PySem L2 VL
noncomputable def Pr (ms : List Int) : Prop := ∃ x y, ms = [x, y]
theorem mm {k : Int} (hk : Kd k) {m : List Int} (h : m ∈ nr k) : Pr m := by
 have : (nr k).all (fun m => m.length == 2) = true := by rcases hk with rfl | rfl | rfl <;> decide +kernel
 have := List.all_eq_true.mp this m h
 match m, this with
 | [x, y], _ => exact ⟨x, y, rfl⟩
noncomputable def fr (p : Nat -> Bool) (w : Nat) : List Nat := (List.range w).filter p
theorem ua (p : Nat -> Bool) (w : Nat) : fr p (w + 1) = fr p w ++ if p w = true then [w] else [] := by
 unfold fr
 rw [List.range_succ, List.filter_append]
 congr 1
 by_cases h : p w = true <;> simp [h]
noncomputable def st (k : Int) : List (List Int) := if k = 4 then [[-1, 0], [0, -1], [0, 1], [1, 0]] else if k = 6 then [[-1, 0], [0, -1], [0, 1], [1, 0], [-1, -1], [1, 1]] else [[-1, 0], [0, -1], [0, 1], [1, 0], [-1, -1], [1, 1], [-1, 1], [1, -1]]
theorem d0 {k : Int} (hk : Kd k) : (st k).Perm (nr k) := by rcases hk with rfl | rfl | rfl <;> decide +kernel
noncomputable def nx2 (x y : Int) (m : List Int) : List Int := match m with
 | [dx, dy] => [x + dx, y + dy]
 | _ => []
noncomputable def lives (k : Int) (bo sy : List Int) (ks : List (List Int)) (x y : Int) : Bool := decide ((((st k).filter fun m => decide (nx2 x y m ∈ ks)).length : Int) ∈ (if [x, y] ∈ ks then sy else bo))
noncomputable def vN : List Int -> List D -> (D -> List Int -> Prop) -> Prop := fun pn ds R => ∃ b : Nat, ds = [.int 1] /\ Pn b pn /\ b <= 1000 /\ ∀ (k : Int) (bo sy : List Int) pn', Kd k -> 0 ∉ bo -> bo.length <= 9 -> R (rl k bo sy) pn'
noncomputable def vO : List D -> (D -> Prop) -> Prop := fun ds R => ∃ k, ds = [.int k] /\ Kd k /\ R (eL (st k))
noncomputable def qG : List D -> (D -> Prop) -> Prop := fun ds R => ∃ k bo sy kvs x y, ds = [rl k bo sy, eL (st k), dc kvs, .int x, .int y] /\ Kd k /\ R (.bl (lives k bo sy (kvs.map (·.1)) x y))
theorem BV {r : Int} (h0 : 0 <= r) (h1 : r < 3) : ∃ k, Kd k /\ atI [D.int 8, .int 6, .int 4] r = some (.int k) := by
 have : r = 0 \/ r = 1 \/ r = 2 := by lia
 rcases this with rfl | rfl | rfl
 ·exact ⟨8, .inr (.inr rfl), rfl⟩
 ·exact ⟨6, .inr (.inl rfl), rfl⟩
 ·exact ⟨4, .inl rfl, rfl⟩
theorem mn (l : List Nat) (lo : Int) : (l.map fun (i : Nat) => D.int (lo + (i : Int))) = (l.map fun (i : Nat) => lo + (i : Int)).map D.int := by rw [List.map_map]; rfl
theorem ij (l : List Nat) (lo : Int) : flats (l.map fun (i : Nat) => D.int (lo + (i : Int))) = true := by
 rw [show (l.map fun (i : Nat) => D.int (lo + (i : Int))) = (l.map fun (i : Nat) => lo + (i : Int)).map D.int by rw [List.map_map]; rfl]
 exact de _
theorem qH (p : Nat -> Bool) (b : Bool) (w : Nat) : fr (fun x => if x = w then b else p x) (w + 1) = fr p w ++ if b = true then [w] else [] := by
 rw [ua]
 congr 1
 ·unfold fr
  refine List.filter_congr fun x hx => ?_
  have := List.mem_range.mp hx
  rw [if_neg (by lia)]
 ·rw [if_pos rfl]
theorem fj {T : List Sl} : ∀ (r : List Sl) (k : Nat), bM 1 [0] T (k + 1) r = r
 | [], _ => rfl
 | s :: r, k => by
  have : ([0] : List Nat).idxOf? (k + 1) = none := by simp [List.idxOf?, List.findIdx?_cons]
  unfold bM
  rw [this, fj r (k + 1)]
theorem ik {ad : Option Addr} {pn pn2 : List Int} {rest : List Sl} {x : Sl} : backS 1 [0] (.pen ad pn :: rest) [x, .pen ad pn2] = .pen ad pn2 :: rest := by
 show bM 1 [0] _ 0 _ = _
 unfold bM
 rw [fj]
 rfl
theorem mq {ad : Option Addr} {pn : List Int} {rest : List Sl} {QN : List D -> List Sl -> Prop} {vt : VTT} {lo : Int} {n b : Nat} (hb : b + n <= 1000000) (hp : Pn b pn)
  (hvt : ∀ (b' : Nat) (pn' : List Int) (x : Int) (A : Bool -> List Sl -> Prop), Pn b' pn' -> b' <= 1000000 -> (∀ v pn2, Pn (b' + 1) pn2 -> A v [.val (.int x), .pen ad pn2]) -> vt [.val (.int x), .pen ad pn'] A)
  (q : ∀ (p : Nat -> Bool) pn', Pn (b + n) pn' -> QN ((fr p n).map fun (i : Nat) => D.int (lo + (i : Int))) (.pen ad pn' :: rest)) : g7 1 [0] (vgN 0) vt (oq (rH 0)) QN (rg lo n) (.pen ad pn :: rest) := by
 refine oW (fun i ys S2 => ∃ (p : Nat -> Bool) (pn' : List Int), Pn (b + i) pn' /\ ys = ((fr p i).map fun (i : Nat) => D.int (lo + (i : Int))) /\ S2 = .pen ad pn' :: rest) (by lia) ⟨fun _ => false, pn, hp, rfl, rfl⟩ ?_ ?_
 ·rintro i ys S2 hi ⟨p, pn', h1, rfl, rfl⟩
  refine ⟨(by show 0 < _; simp [aO]), ?_⟩
  show vt [.val (.int (lo + (i : Int))), .pen ad pn'] _
  refine hvt (b + i) pn' _ _ h1 (by lia) fun v pn2 h2 => ?_
  cases v with
  | true =>
   refine cX (fun _ => ?_) (fun e => nomatch e)
   refine ⟨.d (.int (lo + (i : Int))), rfl, rfl, ?_⟩
   refine jI ?_
   rw [ik]
   exact ⟨fun x => if x = i then true else p x, pn2, h2, by rw [qH, List.map_append]; rfl, rfl⟩
  | false =>
   refine cX (fun e => nomatch e) (fun _ => ?_)
   rw [ik]
   exact ⟨fun x => if x = i then false else p x, pn2, h2, by rw [qH, List.map_append]; simp, rfl⟩
 ·rintro ys S2 ⟨p, pn', h1, rfl, rfl⟩
  exact q p pn' h1
theorem zr (p : Nat -> Bool) (n : Nat) : (fr p n).length <= n := by
 unfold fr
 have := List.length_filter_le p (List.range n)
 rwa [List.length_range] at this
theorem j5 {k : Int} {bo sy : List Int} {ks ys : List (List Int)} (h : ∀ c, c ∈ ks ↔ c ∈ ys) (x y : Int) : lives k bo sy ks x y = lives k bo sy ys x y := by
 unfold lives
 simp only [h]
noncomputable def lk1 (k : Int) (p : List Int) : List (List Int) := p :: (st k).map fun m => nx2 (p.getD 0 0) (p.getD 1 0) m
noncomputable def lk (k : Int) (xs : List (List Int)) : List (List Int) := xs.flatMap (lk1 k)
noncomputable def okc (k : Int) (bo sy : List Int) (xs : List (List Int)) (c : List Int) : Bool := decide (lives k bo sy xs (c.getD 0 0) (c.getD 1 0) = decide (c ∈ xs))
noncomputable def rests (k : Int) (bo sy : List Int) (xs : List (List Int)) : Bool := (lk k xs).all (okc k bo sy xs)
noncomputable def qI : List D -> (D -> Prop) -> Prop := fun ds R => ∃ k bo sy xs, ds = [rl k bo sy, eL (st k), eL xs] /\ Kd k /\ (∀ p ∈ xs, Pr p) /\ xs.length <= 8 /\ R (.bl (rests k bo sy xs))
noncomputable def BW : List D -> (D -> Prop) -> Prop := fun ds R => ∃ n : Int, ds = [.int n] /\ R (.bl true)
theorem zt {k : Int} (hk : Kd k) : (st k).length <= 8 := by rcases hk with rfl | rfl | rfl <;> decide
section
variable {P : Program} {w : World} {K : PySem.W.Frag} {mg : Str -> Option Value} {base : Heap}
theorem ub (S : Src K mg "_law_rule" gC) (T : Txt mg) (e0_ : Has P w K mg base 1 "_law_draw" ["_law_pen_here", "_law_many_here"] (spI K 0 hZ)) : Has P w K mg base 2 "_law_rule" ["_law_pen_here", "_law_least"] (spI K 0 vN) := by
 refine lG 0 S dZ (by walk_at "2") (fun ns ds R zq1 => by obtain ⟨_, e, _⟩ := zq1; rw [e]; rfl) fun f cdv A outer s H E hr => ⟨_, _, (ai (aD (i := 2) dZ.nd rfl (Or.inl rfl) (aE rfl (bf (aR (aa af (aa af (aa af ah))))) (bS e0_ hr (aa (ae 0 (pv 0)) (aa af ah))) (fun _ _ => rfl)))
  (ai (ck (bE fP ku (bS e0_ hr (aa (ae 0 (pv 0)) (aa af ah))) af (bD _)) (ai (aD (i := 3) dZ.nd rfl (Or.inl rfl) (aE rfl (aE rfl (bf (aR (aa (bf (aR (aa (aq (aa af ah)) (aa (aq (aa af ah)) (aa (aq (aa af (aa af ah))) ah))))) (aa (bf (aR (aa (aq (aa af ah)) (aa (aq (aa af ah)) (aa (aq (aa af (aa af ah))) ah))))) (aa (bf (aR (aa (aq (aa af ah)) (aa (aq (aa af ah)) (aa (aq (aa af ah)) ah))))) ah))))) (ay fw bI (ay ke aH af (ae 2 (pv 2))) af) (fun _ _ => rfl)) (bS e0_ hr (aa (ae 0 (pv 0)) (aa af ah))) (fun _ _ => rfl)))
  (ai (aD (i := 4) dZ.nd rfl (Or.inl rfl) (aE rfl (bf (aR (aa (aq (aa af (aa af ah))) (aa (aq (aa af (aa af ah))) (aa (aq (aa af (aa af (aa af (aa af ah))))) (aa (sF rfl (by rfl) T.tuple_ (by rfl) T.range (aa (ay bj aH (ae 2 (pv 2)) af) ah)) (aa (aq (aa af ah)) (aa (aq ah) ah)))))))) (bS e0_ hr (aa (ae 0 (pv 0)) (aa af ah))) (fun _ _ => rfl)))
  (ao (aF (aq (aa (aK (ae 2 (pv 2))) (aa (aK (ae 3 (pv 3))) (aa (aK (ae 4 (pv 4))) ah)))))))) bw)
  (ai (gi (ii := 3) (tg := ["_law_count"]) (cs := ["_law_pen_here"]) (ix := [0]) dZ.nd rfl (Or.inl rfl) (Or.inl rfl) (aN (aj gC) ["_law_pen_here", "_law_least", "_law_kind", "_law_born", "_law_stay"] (by decide +kernel)) rfl (aM (by decide)) (by decide) (mS rfl T.range (aa (ae 1 (pv 1)) (aa (ay bj aH (ae 2 (pv 2)) af) ah))) (fun _ _ _ _ => (aB (az (i := 0) (show (["_law_count", "_law_pen_here"] : List Str).Nodup by decide +kernel) rfl (Or.inl rfl) (by first | exact Or.inl rfl | exact Or.inr rfl)))) (fun _ _ _ _ => (eG (bE fP ku (bS e0_ hr (aa (ae 1 (pv 1)) (aa af ah))) af (bD _)))) (fun _ _ _ _ => (aK (ae 0 (pv 0)))))
  (ai (gi (ii := 4) (tg := ["_law_count"]) (cs := ["_law_pen_here"]) (ix := [0]) dZ.nd rfl (Or.inl rfl) (Or.inl rfl) (aN (aj gC) ["_law_pen_here", "_law_least", "_law_kind", "_law_born", "_law_stay"] (by decide +kernel)) rfl (aM (by decide)) (by decide) (bC rfl T.range (aa (ay bj aH (ae 2 (pv 2)) af) ah)) (fun _ _ _ _ => (aB (az (i := 0) (show (["_law_count", "_law_pen_here"] : List Str).Nodup by decide +kernel) rfl (Or.inl rfl) (by first | exact Or.inl rfl | exact Or.inr rfl)))) (fun _ _ _ _ => (eG (bE fP ku (bS e0_ hr (aa (ae 1 (pv 1)) (aa af ah))) af (bD _)))) (fun _ _ _ _ => (aK (ae 0 (pv 0)))))
  (ao (aF (aq (aa (aK (ae 2 (pv 2))) (aa (gb rfl (by rfl) T.tuple_ (aa (ae 3 (pv 3)) ah)) (aa (gb rfl (by rfl) T.tuple_ (aa (ae 4 (pv 4)) ah)) ah)))))))))), ?_⟩
 rintro a pn ds es R hl ⟨b, e, hpn, hb, q⟩
 obtain rfl : ds = [] := List.eq_nil_of_length_eq_zero hl
 obtain rfl : es = [.int 1] := e
 walk_at "sl"
 walk_at "rd"
 refine ⟨b, 3, rfl, hpn, by lia, by lia, by lia, fun pn1 r1 h1 r1a r1b => ?_⟩
 walk_at "rd"
 obtain ⟨k, hk, ek⟩ := BV r1a r1b
 have hkb : 4 <= k /\ k <= 8 := by rcases hk with rfl | rfl | rfl <;> lia
 refine du rfl rfl ek ?_
 walk_at "rd"
 refine ⟨b + 1, 2, rfl, h1, by lia, by lia, by lia, fun pn2 r2 h2 r2a r2b => ?_⟩
 walk_at "rd"
 refine dJ (fun c1 => ?_) (fun c1 => ?_)
 ·walk_at "rd"
  have hb2 : ∃ bl : List (List Int), (∀ b ∈ bl, 0 ∉ b /\ b.length <= 9) /\ bl.length = 3 /\ atI [D.lst [.tup [.int 3], .tup [.int 2], .tup [.int 3, .int 6]], .lst [.tup [.int 2], .tup [.int 3], .tup [.int 2, .int 4]], .lst [.tup [.int 2], .tup [.int 1], .tup [.int 3]]] ((8 - k) / 2) = some (.lst (bl.map eT)) := by
   rcases hk with rfl | rfl | rfl
   ·exact ⟨[[2], [1], [3]], by decide, rfl, rfl⟩
   ·exact ⟨[[2], [3], [2, 4]], by decide, rfl, rfl⟩
   ·exact ⟨[[3], [2], [3, 6]], by decide, rfl, rfl⟩
  obtain ⟨bl, hn0, hbl, ebl⟩ := hb2
  refine du rfl rfl ebl ?_
  walk_at "rd"
  refine ⟨b + 2, 3, rfl, h2, by lia, by lia, by lia, fun pn3 r3 h3 r3a r3b => ?_⟩
  walk_at "rd"
  obtain ⟨bo, hbo, _, e3⟩ := gp (f := eT) (l := bl) r3a (by lia)
  refine du rfl rfl e3 ?_
  walk_at "rd"
  refine ⟨b + 3, 6, rfl, h3, by lia, by lia, by lia, fun pn4 r4 h4 r4a r4b => ?_⟩
  walk_at "rd"
  obtain ⟨sy, _, _, e4⟩ := gp (f := eT) (l := [[2, 3], [1, 2], [0, 1, 2, 3], rgI 0 (k + 1).toNat, [2], []]) r4a r4b
  rw [show D.tup (rg 0 (k + 1).toNat) = eT (rgI 0 (k + 1).toNat) by rw [pB]]
  refine du rfl rfl e4 ?_
  walk_at "rd"
  exact ⟨_, rfl, q k bo sy _ hk (hn0 bo hbo).1 (hn0 bo hbo).2⟩
 ·walk_at "rd"
  dsimp only [List.set_cons_zero]
  have hvt : ∀ (b' : Nat) (pn' : List Int) (x : Int) (A : Bool -> List Sl -> Prop), Pn b' pn' -> b' <= 1000000 -> (∀ v pn2, Pn (b' + 1) pn2 -> A v [.val (.int x), .pen (some a) pn2]) -> (gU (v2 wEq (xt 0 hZ (lC (rH 1) (lC (vC (D.int 2)) xj))) (vC (D.int 1)))) [.val (.int x), .pen (some a) pn'] A := by
   intro b' pn' x A h1 h2 h3
   walk_at "rd"
   refine ⟨b', 2, rfl, h1, by lia, by lia, by lia, fun pn3 r3 h4 r3a r3b => ?_⟩
   walk_at "rd"
   exact h3 _ _ h4
  refine mq (b := b + 2) (by lia) h2 hvt fun p1 pn3 h3 => ?_
  walk_at "rd"
  refine mq (b := b + 2 + (k + 1 - 1).toNat) (by lia) h3 hvt fun p2 pn4 h4 => ?_
  walk_at "rd"
  refine lK rfl (ij _ _) ?_
  walk_at "rd"
  refine lK rfl (ij _ _) ?_
  walk_at "rd"
  rw [mn, mn]
  exact ⟨_, rfl, q k _ _ _ hk (fun z => by obtain ⟨i, _, e⟩ := List.mem_map.mp z; lia) (by rw [List.length_map]; exact Nat.le_trans (zr _ _) (by lia))⟩
theorem uc (S : Src K mg "_law_near" kP) (T : Txt mg) : Has P w K mg base 1 "_law_near" ["_law_kind"] (spP K vO) := by
 refine bF S fK (by walk_at "1") (fun ds R zq1 => by obtain ⟨_, e, _⟩ := zq1; rw [e]; rfl) fun f cdv A outer s H E hr => ⟨_, _, (ai (cz (fun _ h => bK (i := 1) fK.nd rfl (Or.inl rfl) h) (aR (aa (aq (aa (d9 cQ af) (aa af ah))) (aa (aq (aa af (aa (d9 cQ af) ah))) (aa (aq (aa af (aa af ah))) (aa (aq (aa af (aa af ah))) ah))))))
  (ai (ck (bE lp aH (ae 0 (pv 0)) af (bD _)) (ao (cz (fun _ h => bK (i := 1) fK.nd rfl (Or.inl rfl) h) (kB 1 (pv 1) (aR (aa (aq (aa (d9 cQ af) (aa (d9 cQ af) ah))) (aa (aq (aa af (aa af ah))) ah)))))) bw)
  (ai (ck (bE lp aH (ae 0 (pv 0)) af (bD _)) (ao (cz (fun _ h => bK (i := 1) fK.nd rfl (Or.inl rfl) h) (kB 1 (pv 1) (aR (aa (aq (aa (d9 cQ af) (aa af ah))) (aa (aq (aa af (aa (d9 cQ af) ah))) ah)))))) bw)
  (ao (aF (aK (ae 1 (pv 1)))))))), ?_⟩
 rintro ds R ⟨k, rfl, hk, q⟩
 walk_at "sl"
 rcases hk with rfl | rfl | rfl
 all_goals
  repeat first
   | walk_at "rc1"
   | refine oY rfl (by decide) ?_
  exact q
theorem qJ (S : Src K mg "_law_lives" fL) (T : Txt mg) : Has P w K mg base 1 "_law_lives" ["_law_code", "_law_near_here", "_law_live", "_law_x", "_law_y"] (spP K qG) := by
 refine bF S jW (fun _ _ _ _ _ _ us hl => match us, hl with | [_, _, _, _, _], _ => rfl) (fun ds R zq1 => by obtain ⟨_, _, _, _, _, _, e, _⟩ := zq1; rw [e]; rfl) fun f cdv A outer s H E hr => ⟨_, _, (ai (aD (i := 5) jW.nd rfl (Or.inl rfl) (aS (ff (K := K) rfl) fc (by rfl) T.len_ dG (aa (bf (cI (tg := ["_law_step"]) (cs := ["_law_live", "_law_x", "_law_y"]) (ix := [2, 3, 4]) (aN (aj fL) ["_law_code", "_law_near_here", "_law_live", "_law_x", "_law_y", "_law_count"] (by decide +kernel)) rfl (aM (by decide)) (by decide) (b7 rfl (ae 1 (pv 1))) (fun _ _ _ _ => (aB (az (i := 0) (show (["_law_step", "_law_live", "_law_x", "_law_y"] : List Str).Nodup by decide +kernel) rfl (Or.inl rfl) (by first | exact Or.inl rfl | exact Or.inr rfl)))) (fun _ _ _ _ => (eG (bE (o9 (K := K) rfl hr.units) lO (aq (aa (ay bj aH (ae 2 (pv 2)) (aE rfl (ae 0 (pv 0)) af (fun _ _ => rfl))) (aa (ay bj aH (ae 3 (pv 3)) (aE rfl (ae 0 (pv 0)) af (fun _ _ => rfl))) ah))) (ae 1 (pv 1)) (by with_unfolding_all rfl)))) (fun _ _ _ _ => (aK (ae 0 (pv 0)))))) ah)))
  (ai (ck (bE (o9 (K := K) rfl hr.units) lO (aq (aa (ae 3 (pv 3)) (aa (ae 4 (pv 4)) ah))) (ae 2 (pv 2)) (by with_unfolding_all rfl)) (ao (aF (cR (gm (K := K) rfl hr.units) gZ (ae 5 (pv 5)) (aE rfl (ae 0 (pv 0)) af (fun _ _ => rfl)) (by with_unfolding_all rfl)))) bw)
  (ao (aF (cR (gm (K := K) rfl hr.units) gZ (ae 5 (pv 5)) (aE rfl (ae 0 (pv 0)) af (fun _ _ => rfl)) (by with_unfolding_all rfl)))))), ?_⟩
 rintro ds R ⟨k, bo, sy, kvs, x, y, rfl, hk, q⟩
 walk_at "sl"
 unfold rl
 walk_at "rd"
 have hl : (st k).length <= 8 := by rcases hk with rfl | rfl | rfl <;> decide
 refine cJ (xs := st k) (en := eT) (f := eT) (p := fun m => decide (nx2 x y m ∈ kvs.map (·.1))) (by lia) (fun m hm A B hA hB => ?_) ?_
 ·obtain ⟨dx, dy, rfl⟩ := mm hk ((d0 hk).mem_iff.mp hm)
  dsimp only [aO, List.replicate, List.map_cons, List.map_nil, List.cons_append, List.nil_append]
  walk_at "rd"
  refine iN (ms := [x + dx, y + dy]) (kvs := kvs) rfl rfl ?_
  walk_at "rd"
  cases hp : decide (nx2 x y [dx, dy] ∈ kvs.map (·.1)) with
  | true =>
   rw [show (if false = true then !decide ([x + dx, y + dy] ∈ kvs.map (·.1)) else decide ([x + dx, y + dy] ∈ kvs.map (·.1))) = true from hp]
   walk_at "rd"
   exact hA _ rfl hp
  | false =>
   rw [show (if false = true then !decide ([x + dx, y + dy] ∈ kvs.map (·.1)) else decide ([x + dx, y + dy] ∈ kvs.map (·.1))) = false from hp]
   walk_at "rd"
   exact hB _ rfl hp
 ·walk_at "rd"
  rw [List.length_map]
  refine iN (ms := [x, y]) (kvs := kvs) rfl rfl ?_
  walk_at "rd"
  unfold lives at q
  by_cases h : [x, y] ∈ kvs.map (·.1)
  ·rw [show (if false = true then !decide ([x, y] ∈ kvs.map (·.1)) else decide ([x, y] ∈ kvs.map (·.1))) = true from decide_eq_true h]
   rw [if_pos h] at q
   walk_at "rd"
   refine iO (f := D.int) b9 ?_
   walk_at "rd"
   exact q
  ·rw [show (if false = true then !decide ([x, y] ∈ kvs.map (·.1)) else decide ([x, y] ∈ kvs.map (·.1))) = false from decide_eq_false h]
   rw [if_neg h] at q
   walk_at "rd"
   refine iO (f := D.int) b9 ?_
   walk_at "rd"
   exact q
theorem zu (S : Src K mg "_law_whole" jh) (T : Txt mg) : Has P w K mg base 1 "_law_whole" ["_law_found"] (spP K BW) := by
 refine bF S qm (by walk_at "1") (fun ds R zq1 => by obtain ⟨_, e, _⟩ := zq1; rw [e]; rfl) fun f cdv A outer s H E hr => ⟨_, _, (ao (aF (dH (aS (jH (K := K) rfl) jx (by rfl) T.isinstance_ bp (aa (ae 0 (pv 0)) (aa (fY (dU (v := .ty "int") (by rfl) T.int_ oa rfl) (fun _ _ => .ty _)) ah))) (f6 (ot (aS (jH (K := K) rfl) jx (by rfl) T.isinstance_ bp (aa (ae 0 (pv 0)) (aa (fY (dU (v := .ty "bool") (by rfl) T.bool_ lw rfl) (fun _ _ => .ty _)) ah)))))))), ?_⟩
 rintro ds R ⟨n, rfl, q⟩
 walk_at "sl"
 walk_at "rc"
 exact q
theorem qK (S : Src K mg "_law_rests" ji) (T : Txt mg) (e12_ : Has P w K mg base 1 "_law_lives" ["_law_code", "_law_near_here", "_law_live", "_law_x", "_law_y"] (spP K qG)) : Has P w K mg base 2 "_law_rests" ["_law_code", "_law_near_here", "_law_live"] (spP K qI) := by
 refine bF S bV (by walk_at "3") (fun ds R zq1 => by obtain ⟨_, _, _, _, e, _⟩ := zq1; rw [e]; rfl) fun f cdv A outer s H E hr => ⟨_, _, (ai (iL (fun _ h => bK (i := 3) bV.nd rfl (Or.inl rfl) h) kG)
  (ai (iL (fun _ h => bK (i := 4) bV.nd rfl (Or.inl rfl) h) kG)
  (ai (dI PassesOwn.never rfl (b7 rfl (ae 2 (pv 2))) (eh (n := 2) rfl rfl (aT (aB (az (i := 5) bV.nd rfl (Or.inl rfl) (Or.inl rfl))) (aT (aB (az (i := 6) bV.nd rfl (Or.inl rfl) (Or.inl rfl))) dh))) (ai (fE 3 rfl hr.units (pv 3) bJ (aq (aa (ae 5 (pv 5)) (aa (ae 6 (pv 6)) ah))))
  (ai (fE 4 rfl hr.units (pv 4) bJ (aq (aa (ae 5 (pv 5)) (aa (ae 6 (pv 6)) ah))))
  (ao (dI PassesOwn.never rfl (b7 rfl (ae 1 (pv 1))) (eh (n := 2) rfl rfl (aT (aB (az (i := 7) bV.nd rfl (Or.inl rfl) (Or.inl rfl))) (aT (aB (az (i := 8) bV.nd rfl (Or.inl rfl) (Or.inl rfl))) dh))) (ao (fE 4 rfl hr.units (pv 4) bJ (aq (aa (ay bj aH (ae 5 (pv 5)) (ae 7 (pv 7))) (aa (ay bj aH (ae 6 (pv 6)) (ae 8 (pv 8))) ah))))))))))
  (ai (sZ 4 (dI PassesOwn.never rfl (iW (ae 4 (pv 4))) (eh (n := 2) rfl rfl (aT (aB (az (i := 5) bV.nd rfl (Or.inl rfl) (Or.inl rfl))) (aT (aB (az (i := 6) bV.nd rfl (Or.inl rfl) (Or.inl rfl))) dh))) (ao (ck (bE uu zU (bz e12_ hr (aa (ae 0 (pv 0)) (aa (ae 1 (pv 1)) (aa (ae 3 (pv 3)) (aa (ae 5 (pv 5)) (aa (ae 6 (pv 6)) ah)))))) (cR (o9 (K := K) rfl hr.units) lO (aq (aa (ae 5 (pv 5)) (aa (ae 6 (pv 6)) ah))) (ae 3 (pv 3)) (by with_unfolding_all rfl)) (bD _)) (ao (aF bJ)) bw))))
  (ao (aF bJ)))))), ?_⟩
 rintro ds R ⟨k, bo, sy, xs, rfl, hk, hp, hl, q⟩
 have hsl := zt hk
 walk_at "sl"
 walk_at "rd"
 refine iH (fun i S2 => ∃ ka kl s5 s6 s7 s8, S2 = [.val (rl k bo sy), .val (eL (st k)), .val (eL xs), od ka, od kl, s5, s6, s7, s8] /\ (∀ c, c ∈ ka.map (·.1) ↔ c ∈ xs.take i) /\ (∀ c, c ∈ kl.map (·.1) ↔ c ∈ lk k (xs.take i)) /\ ka.length <= i /\ kl.length <= 9 * i) ⟨[], [], _, _, _, _, rfl, fun c => by simp, fun c => by simp [lk], Nat.le_refl _, Nat.le_refl _⟩ ?_ ?_
 ·rintro i d S2 e ⟨ka, kl, s5, s6, s7, s8, rfl, ha, hlk, la, ll⟩
  have hi : i < xs.length := by have := (List.getElem?_eq_some_iff.mp e).1; rwa [List.length_map] at this
  obtain ⟨x, h1, rfl, hm, ht⟩ := aP e
  obtain ⟨a, b, rfl⟩ := hp x hm
  walk_at "rd"
  refine eI (ms := [a, b]) rfl rfl (by lia) ?_
  dsimp only [List.set_cons_zero, List.set_cons_succ]
  walk_at "rd"
  refine eI (ms := [a, b]) rfl rfl (by lia) ?_
  dsimp only [List.set_cons_zero, List.set_cons_succ]
  walk_at "rd"
  have l1 := jl (kvs := ka) (m := [a, b]) (d := .bl true)
  have l2 := jl (kvs := kl) (m := [a, b]) (d := .bl true)
  refine iH (fun j S2 => ∃ kl2 s7 s8, S2 = [.val (rl k bo sy), .val (eL (st k)), .val (eL xs), od (putA ka [a, b] (.bl true)), od kl2, .val (.int a), .val (.int b), s7, s8] /\ (∀ c, c ∈ kl2.map (·.1) ↔ (c = [a, b] \/ c ∈ lk k (xs.take i)) \/ c ∈ ((st k).take j).map fun m => nx2 a b m) /\ kl2.length <= 9 * i + 1 + j) ⟨_, _, _, rfl, fun c => by rw [bN, hlk]; simp, by lia⟩ ?_ ?_
  ·rintro j d S2 e ⟨kl2, s7, s8, rfl, hk2, lk2⟩
   have hj : j < (st k).length := by have := (List.getElem?_eq_some_iff.mp e).1; rwa [List.length_map] at this
   obtain ⟨m, h2, rfl, hm2, ht2⟩ := aP e
   obtain ⟨dx, dy, rfl⟩ := mm hk ((d0 hk).mem_iff.mp hm2)
   walk_at "rd"
   have l3 := jl (kvs := kl2) (m := [a + dx, b + dy]) (d := .bl true)
   refine eI (ms := [a + dx, b + dy]) rfl rfl (by lia) ?_
   dsimp only [List.set_cons_zero, List.set_cons_succ]
   walk_at "rd"
   refine ⟨_, _, _, rfl, fun c => ?_, by lia⟩
   rw [bN, hk2, ht2, List.map_append, List.mem_append]
   simp only [List.map_cons, List.map_nil, List.mem_singleton, nx2]
   exact ⟨fun z => z.elim (fun z => .inr (.inr z)) fun z => z.elim .inl fun z => .inr (.inl z), fun z => z.elim (fun z => .inr (.inl z)) fun z => z.elim (fun z => .inr (.inr z)) .inl⟩
  ·rintro S2 ⟨kl2, s7, s8, rfl, hk2, lk2⟩
   rw [List.length_map] at hk2 lk2
   rw [List.take_length] at hk2
   refine ⟨_, _, _, _, _, _, rfl, fun c => ?_, fun c => ?_, by lia, by lia⟩
   ·rw [bN, ha, ht, List.mem_append, List.mem_singleton, or_comm]
   ·rw [hk2, ht]
    unfold lk
    rw [List.flatMap_append, List.mem_append]
    simp only [List.flatMap_cons, List.flatMap_nil, List.append_nil, lk1, List.mem_cons]
    exact ⟨fun z => z.elim (fun z => z.elim (fun z => .inr (.inl z)) .inl) fun z => .inr (.inr z), fun z => z.elim (fun z => .inl (.inr z)) fun z => z.elim (fun z => .inl (.inl z)) .inr⟩
 ·rintro S2 ⟨ka, kl, s5, s6, s7, s8, rfl, ha, hlk, la, ll⟩
  rw [List.length_map, List.take_length] at ha hlk
  have hpr : ∀ c ∈ lk k xs, Pr c := fun c hc => by
   obtain ⟨p, h1, h2⟩ := List.mem_flatMap.mp hc
   rcases List.mem_cons.mp h2 with rfl | h2
   ·exact hp _ h1
   ·obtain ⟨m, h3, rfl⟩ := List.mem_map.mp h2
    obtain ⟨dx, dy, rfl⟩ := mm hk ((d0 hk).mem_iff.mp h3)
    exact ⟨_, _, rfl⟩
  walk_at "rd"
  refine iH (fun i S2 => ∃ s5 s6 s7 s8, S2 = [.val (rl k bo sy), .val (eL (st k)), .val (eL xs), od ka, .val (dc kl), s5, s6, s7, s8] /\ ∀ c ∈ (kl.map (·.1)).take i, okc k bo sy xs c = true) ⟨_, _, _, _, rfl, fun c hc => nomatch hc⟩ ?_ ?_
  ·rintro i d S2 e ⟨s5, s6, s7, s8, rfl, hok⟩
   obtain ⟨c, h1, rfl, hm, ht⟩ := aP e
   obtain ⟨a, b, rfl⟩ := hpr c ((hlk c).mp hm)
   rw [show kT [a, b] = eT [a, b] from rfl]
   walk_at "rd"
   refine ⟨k, bo, sy, ka, a, b, rfl, hk, ?_⟩
   walk_at "rd"
   refine iN (ms := [a, b]) (kvs := ka) rfl rfl ?_
   rw [if_neg Bool.false_ne_true, j5 ha, show decide ([a, b] ∈ ka.map (·.1)) = decide ([a, b] ∈ xs) from decide_eq_decide.mpr (ha _)]
   walk_at "rd"
   refine A7 ?_
   walk_at "rd"
   refine oM (fun h => ?_) (fun h => ?_)
   ·rw [show rests k bo sy xs = false from Bool.eq_false_iff.mpr fun z => h (of_decide_eq_true (List.all_eq_true.mp z [a, b] ((hlk _).mp hm)))] at q
    walk_at "rd"
    exact q
   ·walk_at "rd"
    refine ⟨_, _, _, _, rfl, fun c hc => ?_⟩
    rw [ht] at hc
    rcases List.mem_append.mp hc with hc | hc
    ·exact hok c hc
    ·rw [List.mem_singleton.mp hc]
     exact decide_eq_true h
  ·rintro S2 ⟨s5, s6, s7, s8, rfl, hok⟩
   rw [List.length_map, List.take_length] at hok
   rw [show rests k bo sy xs = true from List.all_eq_true.mpr fun c hc => hok c ((hlk c).mpr hc)] at q
   walk_at "rd"
   exact q
end
end My
namespace My
open PySem L2 VL
noncomputable def bg (w n : Nat) : List (List Int) := (List.range n).flatMap fun (y : Nat) => (List.range w).map fun (x : Nat) => [0 + (x : Int), 0 + (y : Int)]
theorem e7 (w n : Nat) : bg w (n + 1) = bg w n ++ (List.range w).map fun (x : Nat) => [0 + (x : Int), 0 + (n : Int)] := by
 unfold bg
 rw [List.range_succ, List.flatMap_append]
 simp
theorem bB (w : Nat) : ∀ n, (bg w n).length = n * w
 | 0 => by simp [bg]
 | n + 1 => by rw [e7, List.length_append, bB w n, List.length_map, List.length_range, Nat.succ_mul]
theorem mr {w n : Nat} : ∀ p ∈ bg w n, Pr p := fun p hp => by
 obtain ⟨y, _, hp⟩ := List.mem_flatMap.mp hp
 obtain ⟨x, _, rfl⟩ := List.mem_map.mp hp
 exact ⟨_, _, rfl⟩
noncomputable def sel (cl : List (List Int)) (n : Nat) : List (List Int) := ((List.range cl.length).filter fun j => decide (n / 2 ^ j % 2 = 1)).map fun j => cl.getD j []
theorem qL {cl : List (List Int)} {n : Nat} (h : ∀ p ∈ cl, Pr p) : ∀ p ∈ sel cl n, Pr p := fun p hp => by
 obtain ⟨j, hj, rfl⟩ := List.mem_map.mp hp
 have := List.mem_range.mp (List.mem_filter.mp hj).1
 rw [List.getD_eq_getElem?_getD, List.getElem?_eq_getElem this]
 exact h _ (List.getElem_mem _)
theorem ud {cl : List (List Int)} {n : Nat} : (sel cl n).length <= cl.length := by
 unfold sel
 rw [List.length_map]
 have := List.length_filter_le (fun j => decide (n / 2 ^ j % 2 = 1)) (List.range cl.length)
 rwa [List.length_range] at this
theorem zv (n j : Nat) : ((n : Int) / 2 ^ j % 2 = 1) ↔ n / 2 ^ j % 2 = 1 := by
 rw [show (2 : Int) ^ j = ((2 ^ j : Nat) : Int) from (Int.natCast_pow 2 j).symm]
 lia
noncomputable def cntR (k : Int) (bo sy : List Int) (cl : List (List Int)) (n : Nat) : Nat := ((List.range n).filter fun m => rests k bo sy (sel cl m)).length
noncomputable def vP : List D -> (D -> Prop) -> Prop := fun ds R => ∃ (k : Int) (bo sy : List Int) (w h : Nat), ds = [rl k bo sy, eT [(w : Int), (h : Int)]] /\ Kd k /\ w <= 4 /\ h <= 60 /\ h * w <= 8 /\ R (.int (cntR k bo sy (bg w h) (2 ^ (h * w)) : Nat))
noncomputable def vQ : List Int -> List D -> (D -> List Int -> Prop) -> Prop := fun pn ds R => ∃ b : Nat, ds = [] /\ Pn b pn /\ b <= 1000 /\ ∀ (w h : Nat) pn', 1 <= w -> w <= 4 -> 1 <= h -> h * w <= 8 -> Pn (b + 3) pn' -> R (eT [(w : Int), (h : Int)]) pn'
noncomputable def bads : List D := [.tup [.int 0, .int 1], .tup [.int 5, .int 1], .tup [.int 1, .int 0], .tup [.int 1, .int 61], .tup [.int 4, .int (-1)], .tup [.int (-3), .int 60], .tup [.int 2, .int (10 ^ Int.toNat 40)], .lst [.int 2, .int 2], .tup [.int 2], .tup [.int 2, .int 2, .int 2], .tup [.bl true, .int 2]] ++
 [.tup [.int 2, .bl true], .str "22", .non, .int 4, .tup [.int 1, .non], .tup [.str "1", .int 1], .tup []]
noncomputable def thb : D -> Bool
 | .int _ => true
 | .bl _ => true
 | .non => true
 | .str _ => true
 | .lst _ => true
 | .tup _ => true
 | _ => false
noncomputable def BX : D -> Bool
 | .tup es => es.all thb
 | d => thb d
theorem vR (h : thb d = true) : Th d := by cases d <;> first | trivial | cases h
theorem zw (h : BX d = true) : Th2 d := by
 cases d with
 | tup es => exact ⟨trivial, fun es' e x hx => by cases e; exact vR (List.all_eq_true.mp h x hx)⟩
 | _ => exact ⟨vR h, fun es' e => nomatch e⟩
theorem qM : bads.all (fun d => BX d && !rsOk d) = true := by decide +kernel
noncomputable def BY : List Int -> List D -> (D -> List Int -> Prop) -> Prop := fun pn ds R => ∃ b : Nat, ds = [] /\ Pn b pn /\ b <= 1000 /\ ∀ d pn', Th2 d -> rsOk d = false -> Pn (b + 1) pn' -> R d pn'
noncomputable def vS (cL cN : Addr) : List D -> (D -> Prop) -> Prop := fun ds R => (nH cL cN ds cN /\ R (.lst [.bl true, .bl false, .bl true, .bl false])) \/ (nH cL cN ds cL /\ R (.lst [.bl false, .bl true, .bl true, .bl false]))
theorem BZ {cl : List (List Int)} {j : Nat} (h : j < cl.length) : atI (cl.map eT) (j : Int) = some (eT (cl.getD j [])) := fx (by rw [List.getElem?_map, List.getElem?_eq_getElem h, List.getD_eq_getElem?_getD, List.getElem?_eq_getElem h]; rfl)
section
variable {P : Program} {w : World} {K : PySem.W.Frag} {mg : Str -> Option Value} {base : Heap}
theorem ue (S : Src K mg "_law_many" gE) (T : Txt mg) (e11_ : Has P w K mg base 1 "_law_near" ["_law_kind"] (spP K vO)) (e18_ : Has P w K mg base 2 "_law_rests" ["_law_code", "_law_near_here", "_law_live"] (spP K qI)) : Has P w K mg base 3 "_law_many" ["_law_code", "_law_size_here"] (spP K vP) := by
 refine bF S cP (by walk_at "2") (fun ds R zq1 => by obtain ⟨_, _, _, _, _, e, _⟩ := zq1; rw [e]; rfl) fun f cdv A outer s H E hr => ⟨_, _, (ai (cz (fun _ h => bK (i := 2) cP.nd rfl (Or.inr rfl) h) (aR ah))
  (ai (dI PassesOwn.never rfl (bC rfl T.range (aa (aE rfl (ae 1 (pv 1)) af (fun _ _ => rfl)) ah)) (aB (az (i := 3) cP.nd rfl (Or.inr rfl) (Or.inl rfl))) (ao (df (pM 2 rfl (pv 2) (cI (tg := ["_law_x"]) (cs := ["_law_y"]) (ix := [3]) (aN (aj gE) ["_law_code", "_law_size_here", "_law_cells", "_law_y", "_law_near_here", "_law_found", "_law_number", "_law_live"] (by decide +kernel)) rfl (aM (by decide)) (by decide) (bC rfl T.range (aa (aE rfl (ae 1 (pv 1)) af (fun _ _ => rfl)) ah)) (fun _ _ _ _ => (aB (az (i := 0) (show (["_law_x", "_law_y"] : List Str).Nodup by decide +kernel) rfl (Or.inl rfl) (by first | exact Or.inl rfl | exact Or.inr rfl)))) (fun _ _ _ _ => b8) (fun _ _ _ _ => (aq (aa (aK (ae 0 (pv 0))) (aa (aK (ae 1 (pv 1))) ah)))))))))
  (ai (aD (i := 4) cP.nd rfl (Or.inl rfl) (bz e11_ hr (aa (aE rfl (ae 0 (pv 0)) af (fun _ _ => rfl)) ah)))
  (ai (aD (i := 5) cP.nd rfl (Or.inl rfl) af)
  (ai (dI PassesOwn.never rfl (bC rfl T.range (aa (ay ir bI af (aS (ff (K := K) rfl) fc (by rfl) T.len_ dG (aa (ae 2 (pv 2)) ah))) ah)) (aB (az (i := 6) cP.nd rfl (Or.inr rfl) (Or.inl rfl))) (ai (gi (ii := 7) (tg := ["_law_k"]) (cs := ["_law_cells", "_law_number"]) (ix := [2, 6]) cP.nd rfl (Or.inl rfl) (Or.inl rfl) (aN (aj gE) ["_law_code", "_law_size_here", "_law_cells", "_law_y", "_law_near_here", "_law_found", "_law_number", "_law_live"] (by decide +kernel)) rfl (aM (by decide)) (by decide) (bC rfl T.range (aa (aS (ff (K := K) rfl) fc (by rfl) T.len_ dG (aa (ae 2 (pv 2)) ah)) ah)) (fun _ _ _ _ => (aB (az (i := 0) (show (["_law_k", "_law_cells", "_law_number"] : List Str).Nodup by decide +kernel) rfl (Or.inl rfl) (by first | exact Or.inl rfl | exact Or.inr rfl)))) (fun _ _ _ _ => (eG (bE fP ku (ay eP aH (ay dB bI (ae 2 (pv 2)) (ae 0 (pv 0))) af) af (bD _)))) (fun _ _ _ _ => (aK (aE rfl (ae 1 (pv 1)) (ae 0 (pv 0)) (fun _ _ => rfl)))))
  (ao (ck (cS (bz e18_ hr (aa (ae 0 (pv 0)) (aa (ae 4 (pv 4)) (aa (ae 7 (pv 7)) ah))))) (ao (aD (i := 5) cP.nd rfl (Or.inl rfl) (ay bj aH (ae 5 (pv 5)) af))) bw))))
  (ao (aF (aK (ae 5 (pv 5)))))))))), ?_⟩
 rintro ds R ⟨k, bo, sy, w, h, rfl, hk, hw, hh, hwh, q⟩
 walk_at "sl"
 unfold rl
 walk_at "rd"
 refine fC (fun i S2 => ∃ s3, S2 = [.val (rl k bo sy), .val (eT [(w : Int), (h : Int)]), .own ((bg w i).map eT), s3, .no, .no, .no, .no]) ⟨_, rfl⟩ ?_ ?_
 ·rintro i S2 hi ⟨s3, rfl⟩
  have hi' : i < h := by lia
  have h1 := bB w i
  have h2 : i * w <= h * w := Nat.mul_le_mul_right _ (Nat.le_of_lt hi')
  walk_at "rd"
  refine comp_map (xs := List.range w) (en := fun (x : Nat) => .int (0 + (x : Int))) (f := fun (x : Nat) => eT [0 + (x : Int), 0 + (i : Int)]) (by simp; lia) (fun x hx A B hA => ?_) ?_
  ·dsimp only [aO, List.replicate, List.map_cons, List.map_nil, List.cons_append, List.nil_append]
   walk_at "rd"
   exact hA _ rfl
  refine pV (ds := (bg w i).map eT) rfl (by simp only [List.length_map, List.length_range]; lia) ?_
  dsimp only [List.set_cons_zero, List.set_cons_succ]
  walk_at "rd"
  exact ⟨_, by rw [e7, List.map_append, List.map_map]; rfl⟩
 ·rintro S2 ⟨s3, rfl⟩
  rw [Int.toNat_natCast]
  walk_at "rd"
  refine ⟨k, rfl, hk, ?_⟩
  walk_at "rd"
  rw [List.length_map, bB]
  have e8 : 2 ^ (h * w) <= 2 ^ 8 := Nat.pow_le_pow_right (by decide) hwh
  have e1 : (2 : Int) ^ (h * w) = ((2 ^ (h * w) : Nat) : Int) := (Int.natCast_pow 2 (h * w)).symm
  walk_at "rd"
  dsimp only [ofV]
  rw [Int.one_mul, Int.toNat_natCast, e1]
  refine oV ⟨by lia, by lia⟩ ?_
  rw [Int.toNat_natCast]
  refine fC (fun i S2 => ∃ s6 s7, S2 = [.val (rl k bo sy), .val (eT [(w : Int), (h : Int)]), .own ((bg w h).map eT), s3, .val (eL (st k)), .val (.int (cntR k bo sy (bg w h) i : Nat)), s6, s7]) ⟨_, _, rfl⟩ ?_ ?_
  ·rintro n S2 hn ⟨s6, s7, rfl⟩
   walk_at "rd"
   rw [List.length_map, bB]
   walk_at "rd"
   rw [Int.toNat_natCast]
   refine cJ (xs := List.range (h * w)) (en := fun (j : Nat) => .int (0 + (j : Int))) (f := fun (j : Nat) => eT ((bg w h).getD j [])) (p := fun (j : Nat) => decide (n / 2 ^ j % 2 = 1)) (by simp; lia) (fun j hj A B hA hB => ?_) ?_
   ·have hj' := List.mem_range.mp hj
    dsimp only [aO, List.replicate, List.map_cons, List.map_nil, List.cons_append, List.nil_append]
    walk_at "rd"
    rw [Int.zero_add, Int.zero_add, fM (kR (by lia) _), Int.toNat_natCast, show decide ((n : Int) / 2 ^ j % 2 = 1) = decide (n / 2 ^ j % 2 = 1) from decide_eq_decide.mpr (zv n j)]
    walk_at "rd"
    refine cX (fun z => ?_) (fun z => ?_)
    ·walk_at "rd"
     refine du rfl rfl (BZ (by rw [bB]; exact hj')) ?_
     walk_at "rd"
     exact hA _ rfl z
    ·exact hB _ rfl z
   rw [show ((List.range (h * w)).filter fun j => decide (n / 2 ^ j % 2 = 1)).map (fun j => eT ((bg w h).getD j [])) = (sel (bg w h) n).map eT by unfold sel; rw [List.map_map, bB]; rfl]
   walk_at "rd"
   refine ⟨k, bo, sy, sel (bg w h) n, rfl, hk, qL fun p hp => mr p hp, Nat.le_trans ud (by rw [bB]; exact hwh), ?_⟩
   have hc : cntR k bo sy (bg w h) (n + 1) = cntR k bo sy (bg w h) n + if rests k bo sy (sel (bg w h) n) = true then 1 else 0 := by
    unfold cntR
    rw [List.range_succ, List.filter_append, List.length_append]
    congr 1
    cases hz : rests k bo sy (sel (bg w h) n) <;> simp [hz]
   cases hr : rests k bo sy (sel (bg w h) n) with
   | true =>
    rw [hr, if_pos rfl] at hc
    walk_at "rd"
    exact ⟨_, _, by rw [hc, Int.natCast_add]; rfl⟩
   | false =>
    rw [hr, if_neg Bool.false_ne_true, Nat.add_zero] at hc
    walk_at "rd"
    exact ⟨_, _, by rw [hc]; rfl⟩
  ·rintro S2 ⟨s6, s7, rfl⟩
   walk_at "rd"
   exact q
theorem uf (S : Src K mg "_law_size" kQ) (T : Txt mg) (e0_ : Has P w K mg base 1 "_law_draw" ["_law_pen_here", "_law_many_here"] (spI K 0 hZ)) : Has P w K mg base 2 "_law_size" ["_law_pen_here"] (spI K 0 vQ) := by
 refine lG 0 S jk (by walk_at "1") (fun ns ds R zq1 => by obtain ⟨_, e, _⟩ := zq1; rw [e]; rfl) fun f cdv A outer s H E hr => ⟨_, _, (ai (aD (i := 1) jk.nd rfl (Or.inl rfl) (ay bj aH af (bS e0_ hr (aa (ae 0 (pv 0)) (aa af ah)))))
  (ai (aD (i := 2) jk.nd rfl (Or.inl rfl) (aE rfl (bf (aR (aa af (aa af (aa af (aa af ah)))))) (bS e0_ hr (aa (ae 0 (pv 0)) (aa af ah))) (fun _ _ => rfl)))
  (ao (aF (aq (aa (aK (ae 1 (pv 1))) (aa (ay bj aH af (bS e0_ hr (aa (ae 0 (pv 0)) (aa (aS (mG rfl) Ce (by rfl) T.max_ xD (aa af (aa (ay fw bI (ae 2 (pv 2)) (ae 1 (pv 1))) ah))) ah)))) ah))))))), ?_⟩
 rintro a pn ds es R hl ⟨b, e, hpn, hb, q⟩
 obtain rfl : ds = [] := List.eq_nil_of_length_eq_zero hl
 obtain rfl : es = [] := e
 walk_at "sl"
 walk_at "rd"
 refine ⟨b, 4, rfl, hpn, by lia, by lia, by lia, fun pn1 r1 h1 r1a r1b => ?_⟩
 walk_at "rd"
 refine ⟨b + 1, 4, rfl, h1, by lia, by lia, by lia, fun pn2 r2 h2 r2a r2b => ?_⟩
 walk_at "rd"
 obtain ⟨m, hm, _, em⟩ := gp (f := D.int) (l := [6, 6, 6, 8]) r2a r2b
 refine du rfl rfl em ?_
 walk_at "rd"
 have hm' : m = 6 \/ m = 8 := by simpa using hm
 have hr1 : r1 = 0 \/ r1 = 1 \/ r1 = 2 \/ r1 = 3 := by lia
 generalize hmx : (if m / (1 + r1) > 1 then m / (1 + r1) else 1) = mx
 have hmx2 : 1 <= mx /\ mx <= 8 /\ mx * (1 + r1) <= 8 := by rcases hm' with rfl | rfl <;> rcases hr1 with rfl | rfl | rfl | rfl <;> subst hmx <;> decide
 refine ⟨b + 2, mx, rfl, h2, by lia, by lia, by lia, fun pn3 r3 h3 r3a r3b => ?_⟩
 obtain ⟨u, rfl⟩ := Int.eq_ofNat_of_zero_le r1a
 obtain ⟨v, rfl⟩ := Int.eq_ofNat_of_zero_le r3a
 have hq := q (1 + u) (1 + v) pn3 (by lia) (by lia) (by lia) (by
  rcases hr1 with e | e | e | e <;> rw [e] at hmx2 <;> obtain rfl : u = _ := Int.ofNat.inj e <;> lia) h3
 rw [Int.natCast_add, Int.natCast_add] at hq
 walk_at "rd"
 exact ⟨_, rfl, hq⟩
theorem zx (S : Src K mg "_law_bad_size" eX) (T : Txt mg) (e0_ : Has P w K mg base 1 "_law_draw" ["_law_pen_here", "_law_many_here"] (spI K 0 hZ)) : Has P w K mg base 2 "_law_bad_size" ["_law_pen_here"] (spI K 0 BY) := by
 refine lG 0 S et (by walk_at "1") (fun ns ds R zq1 => by obtain ⟨_, e, _⟩ := zq1; rw [e]; rfl) fun f cdv A outer s H E hr => ⟨_, _, (ai (jM (i := 1) et.nd rfl (Or.inl rfl) (aR (aa (aq (aa af (aa af ah))) (aa (aq (aa af (aa af ah))) (aa (aq (aa af (aa af ah))) (aa (aq (aa af (aa af ah))) (aa (aq (aa af (aa (d9 cQ af) ah))) (aa (aq (aa (d9 cQ af) (aa af ah))) (aa (aq (aa af (aa (ay kh bI af af) ah))) (aa (bf (aR (aa af (aa af ah)))) (aa (aq (aa af ah)) (aa (aq (aa af (aa af (aa af ah)))) (aa (aq (aa bJ (aa af ah))) ah)))))))))))))
  (ai (jM (i := 1) et.nd rfl (Or.inl rfl) (kB 1 (pv 1) (aR (aa (aq (aa af (aa bJ ah))) (aa oo (aa om (aa af (aa (aq (aa af (aa om ah))) (aa (aq (aa oo (aa af ah))) (aa (aq ah) ah))))))))))
  (ao (aF (yr 1 rfl (pv 1) (bS e0_ hr (aa (ae 0 (pv 0)) (aa (aS (ff (K := K) rfl) fc (by rfl) T.len_ dG (aa (ae 1 (pv 1)) ah)) ah))) (fun _ _ => rfl)))))), ?_⟩
 rintro a pn ds es R hl ⟨b, e, hpn, hb, q⟩
 obtain rfl : ds = [] := List.eq_nil_of_length_eq_zero hl
 obtain rfl : es = [] := e
 walk_at "sl"
 walk_at "rd"
 refine oY rfl (by decide) ?_
 walk_at "rd"
 refine ⟨b, 18, rfl, hpn, by lia, by lia, by lia, fun pn2 r h4 r0 r1 => ?_⟩
 obtain ⟨n, rfl⟩ := Int.eq_ofNat_of_zero_le r0
 have hn : n < bads.length := by show n < 18; lia
 refine yt (ds := bads) rfl rfl (fx (List.getElem?_eq_getElem hn)) ?_
 generalize hd : bads[n]'hn = d
 have hb := List.all_eq_true.mp qM d (hd ▸ List.getElem_mem hn)
 simp only [Bool.and_eq_true, Bool.not_eq_true'] at hb
 walk_at "rd"
 exact ⟨_, rfl, q d pn2 (zw hb.1) hb.2 h4⟩
theorem ug {c_CellError c_Folded c_Loud c_NoLine c_NoName c_NoNumber c_NoRest c_NoRule c_NoSize c_NoText c_NoThing c_Outside c_TooWide : Addr} (S : Src K mg "_law_refused" eY) (T : Txt mg) (EX_how_many_rest : iQ P w K mg base 5 "how_many_rest" ["rule", "size"] (nH c_Loud c_NoSize))
  (g_CellError : mg "CellError" = some (.ref c_CellError)) (g_ValueError : mg "ValueError" = none) (g_Folded : mg "Folded" = some (.ref c_Folded)) (g_Loud : mg "Loud" = some (.ref c_Loud)) (g_NoLine : mg "NoLine" = some (.ref c_NoLine)) (g_NoName : mg "NoName" = some (.ref c_NoName)) (g_NoNumber : mg "NoNumber" = some (.ref c_NoNumber))
  (g_NoRest : mg "NoRest" = some (.ref c_NoRest)) (g_NoRule : mg "NoRule" = some (.ref c_NoRule)) (g_NoSize : mg "NoSize" = some (.ref c_NoSize)) (g_NoText : mg "NoText" = some (.ref c_NoText)) (g_NoThing : mg "NoThing" = some (.ref c_NoThing)) (g_Outside : mg "Outside" = some (.ref c_Outside)) (g_TooWide : mg "TooWide" = some (.ref c_TooWide))
  (y1 : PySem.W.exmOne K (.ref c_NoSize) (.ref c_CellError) = some true) (y2 : cM K c_NoSize = true) (y3 : PySem.W.kitOne K (.ref c_NoSize) (.ref c_NoSize) = some true) (y3' : PySem.W.kitOne K (.ref c_NoSize) (.ref c_Loud) = some false) (y4 : PySem.W.kitOne K (.ref c_NoSize) (.type "ValueError") = some true)
  (y5 : PySem.W.kitAny K (.ref c_NoSize) [.ref c_Folded, .ref c_NoLine, .ref c_NoName, .ref c_NoNumber, .ref c_NoRest, .ref c_NoRule, .ref c_NoText, .ref c_NoThing, .ref c_Outside, .ref c_TooWide] = some false)
  (z1 : PySem.W.exmOne K (.ref c_Loud) (.ref c_CellError) = some true) (z2 : cM K c_Loud = true) (z3 : PySem.W.kitOne K (.ref c_Loud) (.ref c_NoSize) = some false) (z3' : PySem.W.kitOne K (.ref c_Loud) (.ref c_Loud) = some true) (z4 : PySem.W.kitOne K (.ref c_Loud) (.type "ValueError") = some true)
  (z5 : PySem.W.kitAny K (.ref c_Loud) [.ref c_Folded, .ref c_NoLine, .ref c_NoName, .ref c_NoNumber, .ref c_NoRest, .ref c_NoRule, .ref c_NoText, .ref c_NoThing, .ref c_Outside, .ref c_TooWide] = some false) : Has P w K mg base 6 "_law_refused" ["_law_code", "_law_size_here"] (spP K (vS c_Loud c_NoSize)) := by
 refine bF S dt (by walk_at "2") (fun ds R h => by rcases h with ⟨⟨_, _, _, _, e, _⟩, _⟩ | ⟨⟨_, _, _, _, e, _⟩, _⟩ <;> (rw [e]; rfl)) fun f cdv A outer s H E hr => ⟨_, _, (ai (cz (fun _ h => bK (i := 2) dt.nd rfl (Or.inl rfl) h) (aR ah))
  (ai (yz (i := 3) EX_how_many_rest rfl hr (aa (ae 0 (pv 0)) (aa (ae 1 (pv 1)) ah)) g_CellError (fun y => (ai (cz (fun _ h => bK (i := 2) dt.nd rfl (Or.inl rfl) h) (aR (aa (iP (i := 3) (c := .ref c_NoSize) rfl rfl (dR (by rfl) g_NoSize rfl) rfl (Or.inl rfl) (by rfl) T.isinstance_) (aa (iP (i := 3) (c := .ref c_Loud) rfl rfl (dR (by rfl) g_Loud rfl) rfl (Or.inl rfl) (by rfl) T.isinstance_) (aa (iP (i := 3) (c := .type "ValueError") rfl rfl (dU (by rfl) g_ValueError PyProof.Rows.Boot.«ValueError» rfl) rfl (Or.inl rfl) (by rfl) T.isinstance_) ah)))))
  (ao (df (oB 2 rfl (pv 2) (sN (i := 3) rfl (cf g_Folded (cf g_NoLine (cf g_NoName (cf g_NoNumber (cf g_NoRest (cf g_NoRule (cf g_NoText (cf g_NoThing (cf g_Outside (cf g_TooWide pH)))))))))) (by simp) rfl (Or.inl rfl) (by rfl) T.isinstance_)))))) (fun _ _ h => h) rfl rfl rfl dt.nd rfl rfl)
  (ao (aF (aK (ae 2 (pv 2))))))), ?_⟩
 rintro ds R (⟨h, q⟩ | ⟨h, q⟩)
 ·obtain ⟨k, bo, st, d, rfl, h'⟩ := id h
  walk_at "sl"
  walk_at "rd"
  unfold yx
  walk_at "rd"
  refine ⟨Nat.le_of_ble_eq_true rfl, [rl k bo st, d], c_NoSize, rfl, h, y1, ?_⟩
  dsimp only [List.set]
  walk_at "rd"
  refine eU rfl y2 y3 ?_
  walk_at "rc"
  refine eU rfl y2 y3' ?_
  walk_at "rc"
  refine eU rfl y2 y4 ?_
  walk_at "rc"
  refine pK rfl y2 y5 ?_
  walk_at "rc"
  refine ⟨Nat.le_of_ble_eq_true rfl, ?_⟩
  dsimp only [List.set]
  walk_at "rc"
  exact q
 ·obtain ⟨k, bo, st, d, rfl, h'⟩ := id h
  walk_at "sl"
  walk_at "rd"
  unfold yx
  walk_at "rd"
  refine ⟨Nat.le_of_ble_eq_true rfl, [rl k bo st, d], c_Loud, rfl, h, z1, ?_⟩
  dsimp only [List.set]
  walk_at "rd"
  refine eU rfl z2 z3 ?_
  walk_at "rc"
  refine eU rfl z2 z3' ?_
  walk_at "rc"
  refine eU rfl z2 z4 ?_
  walk_at "rc"
  refine pK rfl z2 z5 ?_
  walk_at "rc"
  refine ⟨Nat.le_of_ble_eq_true rfl, ?_⟩
  dsimp only [List.set]
  walk_at "rc"
  exact q
end
end My
namespace My
open PySem L2 VL
theorem sum_add {α : Type} (f g : α -> Nat) : ∀ l : List α, (l.map fun x => f x + g x).sum = (l.map f).sum + (l.map g).sum
 | [] => rfl
 | x :: l => by
  have := sum_add f g l
  simp only [List.map_cons, List.sum_cons]
  lia
theorem mw (f : Nat -> Bool) : ∀ l : List Nat, (l.map fun i => if f i = true then 1 else 0).sum = (l.filter f).length
 | [] => rfl
 | x :: l => by
  have := mw f l
  cases h : f x <;> simp [h, this] <;> lia
theorem il (f : Nat -> Bool) (A : Nat) : ∀ B, ((List.range (A * B)).filter f).length = ((List.range A).map fun i => ((List.range B).filter fun q => f (i + A * q)).length).sum
 | 0 => by
  have : ∀ l : List Nat, (l.map fun _ => 0).sum = 0 := fun l => by induction l <;> simp_all
  simp [this]
 | B + 1 => by
  rw [Nat.mul_succ, List.range_add, List.filter_append, List.length_append, il f A B, List.filter_map, List.length_map]
  have e : ∀ i, ((List.range (B + 1)).filter fun q => f (i + A * q)).length = ((List.range B).filter fun q => f (i + A * q)).length + if f (i + A * B) = true then 1 else 0 := fun i => by
   rw [List.range_succ, List.filter_append, List.length_append]
   congr 1
   cases h : f (i + A * B) <;> simp [h]
  rw [List.map_congr_left fun i _ => e i, sum_add, mw fun i => f (i + A * B)]
  congr 2
  refine List.filter_congr fun i _ => ?_
  show f (A * B + i) = _
  rw [Nat.add_comm]
section
variable (g : Int -> Int -> Int -> Int) (w : Nat)
noncomputable def okr (a r b : Nat) : Bool := (List.range (w + 2)).all fun x => cd g (a : Int) (r : Int) x b
noncomputable def ch : List Nat -> Nat -> Nat -> Bool
 | [], a, r => okr g w a r 0 && okr g w r 0 0
 | b :: bs, a, r => okr g w a r b && ch bs r b
noncomputable def dg : Nat -> Nat -> List Nat
 | 0, _ => []
 | j + 1, n => n % 2 ^ w :: dg j (n / 2 ^ w)
theorem gG (a r : Nat) : (0 ∈ fol g w (a : Int) (r : Int)) ↔ okr g w a r 0 = true := by
 unfold fol
 constructor
 ·intro h
  obtain ⟨b, hb, e⟩ := List.mem_map.mp h
  obtain rfl : b = 0 := by lia
  exact (List.mem_filter.mp hb).2
 ·intro h
  exact List.mem_map.mpr ⟨0, List.mem_filter.mpr ⟨List.mem_range.mpr (Nat.two_pow_pos _), h⟩, rfl⟩
theorem sum_filter (p : Nat -> Bool) (f : Nat -> Nat) : ∀ l : List Nat, ((l.filter p).map f).sum = (l.map fun i => if p i = true then f i else 0).sum
 | [] => rfl
 | x :: l => by
  have := sum_filter p f l
  cases h : p x <;> simp [h, this]
theorem j6 (f : Nat -> Nat) : ∀ l : List Nat, (((l.map f).sum : Nat) : Int) = (l.map fun b => ((f b : Nat) : Int)).sum
 | [] => rfl
 | x :: l => by simp [j6 f l]
theorem qN : ∀ (j a r : Nat), Tw (fol g w) j (a : Int) (r : Int) = (((List.range (2 ^ (j * w))).filter fun n => ch g w (dg w j n) a r).length : Nat)
 | 0, a, r => by
  unfold Tw
  have e0 : en0 (fol g w) (a : Int) (r : Int) = ch g w [] a r := by
   unfold en0 ch
   rw [show decide (0 ∈ fol g w (a : Int) (r : Int)) = okr g w a r 0 from by rw [Bool.eq_iff_iff, decide_eq_true_eq]; exact gG g w a r,
    show decide (0 ∈ fol g w (r : Int) 0) = okr g w r 0 0 from by rw [Bool.eq_iff_iff, decide_eq_true_eq]; exact gG g w r 0]
  rw [e0, Nat.zero_mul, Nat.pow_zero]
  show _ = (((List.filter (fun n => ch g w [] a r) [0]).length : Nat) : Int)
  cases h : ch g w [] a r <;> simp [h]
 | j + 1, a, r => by
  show ((fol g w (a : Int) (r : Int)).map fun b => Tw (fol g w) j (r : Int) b).sum = _
  rw [show fol g w (a : Int) (r : Int) = ((List.range (2 ^ w)).filter fun b => okr g w a r b).map (fun (b : Nat) => (b : Int)) from rfl, List.map_map, show ((fun b => Tw (fol g w) j (r : Int) b) ∘ fun (b : Nat) => (b : Int)) = fun (b : Nat) => ((((List.range (2 ^ (j * w))).filter fun n => ch g w (dg w j n) r b).length : Nat) : Int) from funext fun b => qN j r b, <- j6, sum_filter, Nat.succ_mul, Nat.pow_add, Nat.mul_comm (2 ^ (j * w)), il]
  congr 2
  refine List.map_congr_left fun i hi => ?_
  have hi := List.mem_range.mp hi
  have e : ∀ q, ch g w (dg w (j + 1) (i + 2 ^ w * q)) a r = (okr g w a r i && ch g w (dg w j q) r i) := fun q => by
   show ch g w ((i + 2 ^ w * q) % 2 ^ w :: dg w j ((i + 2 ^ w * q) / 2 ^ w)) a r = _
   rw [Nat.add_mul_mod_self_left, Nat.mod_eq_of_lt hi, Nat.add_mul_div_left _ _ (Nat.two_pow_pos w), Nat.div_eq_of_lt hi, Nat.zero_add]
   rfl
  show (if okr g w a r i = true then _ else 0) = _
  rw [List.filter_congr fun q _ => e q]
  cases okr g w a r i
  ·rw [if_neg Bool.false_ne_true, List.filter_eq_nil_iff.mpr (fun q _ => by simp)]; rfl
  ·simp
theorem qO : ∀ (L : List Nat) (a r : Nat), ch g w L a r = true ↔ ∀ i < L.length + 2, okr g w ((a :: r :: L).getD i 0) ((a :: r :: L).getD (i + 1) 0) ((a :: r :: L).getD (i + 2) 0) = true
 | [], a, r => by
  unfold ch
  rw [Bool.and_eq_true]
  constructor
  ·rintro ⟨h1, h2⟩ i hi
   match i, hi with
   | 0, _ => exact h1
   | 1, _ => exact h2
  ·intro h
   exact ⟨h 0 (by simp), h 1 (by simp)⟩
 | b :: L, a, r => by
  unfold ch
  rw [Bool.and_eq_true, qO L r b]
  constructor
  ·rintro ⟨h1, h2⟩ i hi
   match i, hi with
   | 0, _ => exact h1
   | i + 1, hi => exact h2 i (by simp only [List.length_cons] at hi; lia)
  ·intro h
   exact ⟨h 0 (by simp), fun i hi => h (i + 1) (by simp only [List.length_cons]; lia)⟩
theorem jn : ∀ j n, (dg w j n).length = j
 | 0, _ => rfl
 | j + 1, n => by show (dg w j _).length + 1 = _; rw [jn j]
theorem my : ∀ j n y, y < j -> (dg w j n).getD y 0 = n / 2 ^ (y * w) % 2 ^ w
 | j + 1, n, 0, _ => by simp [dg]
 | j + 1, n, y + 1, h => by
  show (dg w j (n / 2 ^ w)).getD y 0 = _
  rw [my j _ y (by lia), Nat.div_div_eq_div_mul, <- Nat.pow_add, Nat.succ_mul, Nat.add_comm]
end
noncomputable def rw_ (w h n i : Nat) : Nat := (0 :: 0 :: dg w h n).getD i 0
theorem B0 {w h n i : Nat} : rw_ w h n i < 2 ^ w := by
 unfold rw_
 match i with
 | 0 => exact Nat.two_pow_pos w
 | 1 => exact Nat.two_pow_pos w
 | i + 2 =>
  show (dg w h n).getD i 0 < _
  by_cases hi : i < h
  ·rw [my w h n i hi]; exact Nat.mod_lt _ (Nat.two_pow_pos w)
  ·rw [List.getD_eq_getElem?_getD, List.getElem?_eq_none (by rw [jn]; lia)]; exact Nat.two_pow_pos w
noncomputable def bb (w h n i c : Nat) : Nat := rw_ w h n i * 4 / 2 ^ c % 2
theorem vT {w h n i c : Nat} : bb w h n i c < 2 := Nat.mod_lt _ (by decide)
theorem jo {w h n i c : Nat} : bb w h n i (c + 2) = rw_ w h n i / 2 ^ c % 2 := by
 unfold bb
 rw [Nat.pow_add, Nat.mul_comm (2 ^ c), <- Nat.div_div_eq_div_mul, show (2 : Nat) ^ 2 = 4 from rfl, Nat.mul_div_cancel _ (by decide)]
theorem qP (w : Nat) : ∀ h j, j < h * w -> (bg w h).getD j [] = [((j % w : Nat) : Int), ((j / w : Nat) : Int)]
 | 0, j, hj => by lia
 | h + 1, j, hj => by
  have hw : 0 < w := by
   rcases Nat.eq_zero_or_pos w with e | e
   ·subst e; lia
   ·exact e
  rw [e7, List.getD_eq_getElem?_getD]
  by_cases hj2 : j < h * w
  ·rw [List.getElem?_append_left (by rw [bB]; exact hj2), <- List.getD_eq_getElem?_getD]
   exact qP w h j hj2
  ·have hx : j - h * w < w := by rw [Nat.succ_mul] at hj; lia
   rw [List.getElem?_append_right (by rw [bB]; lia), bB, List.getElem?_map, List.getElem?_range hx]
   have ej : j = (j - h * w) + w * h := by rw [Nat.mul_comm w h]; lia
   have e1 : j % w = j - h * w := by rw [ej, Nat.add_mul_mod_self_left, Nat.mod_eq_of_lt hx]; lia
   have e2 : j / w = h := by rw [ej, Nat.add_mul_div_left _ _ hw, Nat.div_eq_of_lt hx, Nat.zero_add]
   rw [e1, e2]
   simp
theorem mz {w h n : Nat} (X Y : Int) : [X, Y] ∈ sel (bg w h) n ↔ ∃ x y : Nat, X = x /\ Y = y /\ x < w /\ y < h /\ n / 2 ^ (y * w + x) % 2 = 1 := by
 unfold sel
 rw [List.mem_map]
 constructor
 ·rintro ⟨j, hj, e⟩
  obtain ⟨h1, h2⟩ := List.mem_filter.mp hj
  have h1 := List.mem_range.mp h1
  rw [bB] at h1
  rw [qP w h j h1] at e
  have hw : 0 < w := by
   rcases Nat.eq_zero_or_pos w with z | z
   ·subst z; lia
   ·exact z
  injection e with e1 e2
  injection e2 with e2 _
  refine ⟨j % w, j / w, e1.symm, e2.symm, Nat.mod_lt _ hw, Nat.div_lt_of_lt_mul (by rw [Nat.mul_comm]; exact h1), ?_⟩
  rw [Nat.mul_comm, Nat.div_add_mod]
  exact of_decide_eq_true h2
 ·rintro ⟨x, y, rfl, rfl, hx, hy, hb⟩
  have hw : 0 < w := by lia
  have hlt : y * w + x < h * w := by
   have : (y + 1) * w <= h * w := Nat.mul_le_mul_right _ hy
   rw [Nat.succ_mul] at this
   lia
  refine ⟨y * w + x, List.mem_filter.mpr ⟨List.mem_range.mpr (by rw [bB]; exact hlt), decide_eq_true hb⟩, ?_⟩
  rw [qP w h _ hlt, Nat.mul_comm, Nat.mul_add_mod, Nat.mod_eq_of_lt hx, Nat.mul_add_div hw, Nat.div_eq_of_lt hx, Nat.add_zero]
theorem kU {w h n i c : Nat} : bb w h n i c = 1 ↔ [(c : Int) - 2, (i : Int) - 2] ∈ sel (bg w h) n := by
 rw [mz]
 constructor
 ·intro hb
  match c, i, hb with
  | 0, i, hb => unfold bb at hb; lia
  | 1, i, hb => unfold bb at hb; lia
  | c + 2, 0, hb => rw [jo] at hb; simp [rw_] at hb
  | c + 2, 1, hb => rw [jo] at hb; simp [rw_] at hb
  | c + 2, i + 2, hb =>
   rw [jo] at hb
   have hr : rw_ w h n (i + 2) = (dg w h n).getD i 0 := rfl
   have hc : c < w := by
    refine Nat.lt_of_not_le fun z => ?_
    rw [Nat.div_eq_of_lt (Nat.lt_of_lt_of_le B0 (Nat.pow_le_pow_right (by decide) z))] at hb
    lia
   have hi : i < h := by
    refine Nat.lt_of_not_le fun z => ?_
    rw [hr, List.getD_eq_getElem?_getD, List.getElem?_eq_none (by rw [jn]; exact z)] at hb
    simp at hb
   rw [hr, my w h n i hi] at hb
   refine ⟨c, i, by lia, by lia, hc, hi, ?_⟩
   rw [Nat.pow_add, <- Nat.div_div_eq_div_mul]
   rw [show (2 : Nat) ^ w = 2 ^ c * 2 ^ (w - c) by rw [<- Nat.pow_add]; congr 1; lia, Nat.mod_mul_right_div_self, show w - c = (w - c - 1) + 1 by lia, Nat.pow_succ, Nat.mul_comm (2 ^ (w - c - 1)) 2, Nat.mod_mul_right_mod] at hb
   exact hb
 ·rintro ⟨x, y, e1, e2, hx, hy, hb⟩
  obtain rfl : c = x + 2 := by lia
  obtain rfl : i = y + 2 := by lia
  rw [jo, show rw_ w h n (y + 2) = (dg w h n).getD y 0 from rfl, my w h n y hy]
  rw [Nat.pow_add, <- Nat.div_div_eq_div_mul] at hb
  rw [show (2 : Nat) ^ w = 2 ^ x * 2 ^ (w - x) by rw [<- Nat.pow_add]; congr 1; lia, Nat.mod_mul_right_div_self, show w - x = (w - x - 1) + 1 by lia, Nat.pow_succ, Nat.mul_comm (2 ^ (w - x - 1)) 2, Nat.mod_mul_right_mod]
  exact hb
theorem vU (R x j : Nat) (hj : j < 3) : bt (w3 ((R : Int) * 4) x) (j : Int) = ((R * 4 / 2 ^ (x + j) % 2 : Nat) : Int) := by
 unfold bt w3
 rw [Int.toNat_natCast, Nat.pow_add, <- Nat.div_div_eq_div_mul]
 have e : (R : Int) * 4 / 2 ^ x = ((R * 4 / 2 ^ x : Nat) : Int) := by
  rw [Int.natCast_ediv, Int.natCast_mul, Int.natCast_pow]; rfl
 rw [e]
 generalize R * 4 / 2 ^ x = M
 match j, hj with
 | 0, _ => simp only [Nat.pow_zero, Int.pow_zero]; lia
 | 1, _ => simp only [Nat.pow_one, show (2 : Int) ^ 1 = 2 from rfl]; lia
 | 2, _ => simp only [show (2 : Nat) ^ 2 = 4 from rfl, show (2 : Int) ^ 2 = 4 from rfl]; lia
theorem lens (p : List Int -> Bool) : ∀ l : List (List Int), (l.map fun m => if p m = true then (1 : Int) else 0).sum = ((l.filter p).length : Int)
 | [] => rfl
 | m :: l => by
  have := lens p l
  cases h : p m
  ·simp [h, this]
  ·simp [h, this]; lia
section
variable {k : Int} {bo sy : List Int} {w h n : Nat}
theorem nI (hk : Kd k) (i x : Nat) : zb k (w3 ((rw_ w h n i : Int) * 4) x) (w3 ((rw_ w h n (i + 1) : Int) * 4) x) (w3 ((rw_ w h n (i + 2) : Int) * 4) x) 1 = ((((st k).filter fun m => decide (nx2 ((x : Int) - 1) ((i : Int) - 1) m ∈ sel (bg w h) n)).length : Nat) : Int) := by
 rw [((d0 hk).filter _).length_eq, <- lens]
 unfold zb
 congr 1
 refine List.map_congr_left fun m hm => ?_
 obtain ⟨dx, dy, rfl, hx, hy⟩ := qq hk hm
 obtain ⟨u, rfl⟩ : ∃ u : Nat, dx = (u : Int) - 1 := ⟨(dx + 1).toNat, by lia⟩
 obtain ⟨v, rfl⟩ : ∃ v : Nat, dy = (v : Int) - 1 := ⟨(dy + 1).toNat, by lia⟩
 have e1 : (1 : Int) + ((u : Int) - 1) = (u : Int) := by lia
 have e2 : nx2 ((x : Int) - 1) ((i : Int) - 1) [(u : Int) - 1, (v : Int) - 1] = [((x + u : Nat) : Int) - 2, ((i + v : Nat) : Int) - 2] := by
  simp only [nx2, List.cons.injEq, and_true]
  lia
 show bt (ln3 _ _ _ ((v : Int) - 1)) (1 + ((u : Int) - 1)) = _
 rw [e1, e2, show decide ([((x + u : Nat) : Int) - 2, ((i + v : Nat) : Int) - 2] ∈ sel (bg w h) n) = decide (bb w h n (i + v) (x + u) = 1) from decide_eq_decide.mpr kU.symm]
 have hv : v = 0 \/ v = 1 \/ v = 2 := by lia
 have hb : ∀ j : Nat, bt (w3 ((rw_ w h n j : Int) * 4) x) (u : Int) = if decide (bb w h n j (x + u) = 1) = true then 1 else 0 := fun j => by
  rw [vU _ _ _ (by lia)]
  have h2 : bb w h n j (x + u) < 2 := vT
  show ((bb w h n j (x + u) : Nat) : Int) = _
  by_cases h1 : bb w h n j (x + u) = 1
  ·rw [h1]; rfl
  ·rw [if_neg (by simpa using h1)]; lia
 rcases hv with rfl | rfl | rfl
 ·exact hb i
 ·exact hb (i + 1)
 ·exact hb (i + 2)
theorem qQ (hk : Kd k) (i x : Nat) : am k bo sy (w3 ((rw_ w h n i : Int) * 4) x) (w3 ((rw_ w h n (i + 1) : Int) * 4) x) (w3 ((rw_ w h n (i + 2) : Int) * 4) x) = if lives k bo sy (sel (bg w h) n) ((x : Int) - 1) ((i : Int) - 1) = true then 1 else 0 := by
 unfold am qr lives
 rw [nI hk]
 have e2 : bb w h n (i + 1) (x + 1) = 1 ↔ [(x : Int) - 1, (i : Int) - 1] ∈ sel (bg w h) n := by
  rw [kU, show ((x + 1 : Nat) : Int) - 2 = (x : Int) - 1 by lia, show ((i + 1 : Nat) : Int) - 2 = (i : Int) - 1 by lia]
 have hb : bt (w3 ((rw_ w h n (i + 1) : Int) * 4) x) 1 = ((bb w h n (i + 1) (x + 1) : Nat) : Int) := vU _ x 1 (by decide)
 rw [hb]
 have hif : (if ((bb w h n (i + 1) (x + 1) : Nat) : Int) = 1 then sy else bo) = if [(x : Int) - 1, (i : Int) - 1] ∈ sel (bg w h) n then sy else bo := by
  by_cases hm : [(x : Int) - 1, (i : Int) - 1] ∈ sel (bg w h) n
  ·rw [if_pos hm, e2.mpr hm]; rfl
  ·rw [if_neg hm]
   refine if_neg fun z => hm (e2.mp ?_)
   lia
 rw [hif]
theorem qR (hk : Kd k) (i : Nat) : okr (am k bo sy) w (rw_ w h n i) (rw_ w h n (i + 1)) (rw_ w h n (i + 2)) = true ↔ ∀ x < w + 2, okc k bo sy (sel (bg w h) n) [(x : Int) - 1, (i : Int) - 1] = true := by
 unfold okr
 rw [List.all_eq_true]
 have e : ∀ x, cd (am k bo sy) (rw_ w h n i : Int) (rw_ w h n (i + 1) : Int) x (rw_ w h n (i + 2)) = okc k bo sy (sel (bg w h) n) [(x : Int) - 1, (i : Int) - 1] := fun x => by
  unfold cd okc
  rw [qQ hk]
  have e1 : (rw_ w h n (i + 1) : Int) * 4 / 2 ^ (x + 1) % 2 = ((bb w h n (i + 1) (x + 1) : Nat) : Int) := by
   unfold bb
   rw [Int.natCast_emod, Int.natCast_ediv, Int.natCast_mul, Int.natCast_pow]; rfl
  have e2 : bb w h n (i + 1) (x + 1) = 1 ↔ [(x : Int) - 1, (i : Int) - 1] ∈ sel (bg w h) n := by
   rw [kU, show ((x + 1 : Nat) : Int) - 2 = (x : Int) - 1 by lia, show ((i + 1 : Nat) : Int) - 2 = (i : Int) - 1 by lia]
  have h2 : bb w h n (i + 1) (x + 1) < 2 := vT
  rw [e1]
  show _ = decide (lives k bo sy (sel (bg w h) n) ((x : Int) - 1) ((i : Int) - 1) = decide ([(x : Int) - 1, (i : Int) - 1] ∈ sel (bg w h) n))
  refine decide_eq_decide.mpr ?_
  by_cases hm : [(x : Int) - 1, (i : Int) - 1] ∈ sel (bg w h) n
  ·rw [decide_eq_true hm, e2.mpr hm]
   cases lives k bo sy (sel (bg w h) n) ((x : Int) - 1) ((i : Int) - 1) <;> simp
  ·rw [decide_eq_false hm, show bb w h n (i + 1) (x + 1) = 0 from by have : ¬ bb w h n (i + 1) (x + 1) = 1 := fun z => hm (e2.mp z); lia]
   cases lives k bo sy (sel (bg w h) n) ((x : Int) - 1) ((i : Int) - 1) <;> simp
 exact ⟨fun z x hx => (e x) ▸ z x (List.mem_range.mpr hx), fun z x hx => (e x).symm ▸ z x (List.mem_range.mp hx)⟩
theorem zy (hk : Kd k) {dx dy : Int} (hm : [dx, dy] ∈ st k) : [-dx, -dy] ∈ st k := by
 have : (st k).all (fun m => match m with | [a, b] => decide ([-a, -b] ∈ st k) | _ => true) = true := by rcases hk with rfl | rfl | rfl <;> decide +kernel
 exact of_decide_eq_true (List.all_eq_true.mp this _ hm)
theorem qS (hk : Kd k) (h0 : 0 ∉ bo) : rests k bo sy (sel (bg w h) n) = ch (am k bo sy) w (dg w h n) 0 0 := by
 rw [Bool.eq_iff_iff, qO, jn]
 have hc : (∀ i < h + 2, okr (am k bo sy) w ((0 :: 0 :: dg w h n).getD i 0) ((0 :: 0 :: dg w h n).getD (i + 1) 0) ((0 :: 0 :: dg w h n).getD (i + 2) 0) = true) ↔ ∀ i < h + 2, ∀ x < w + 2, okc k bo sy (sel (bg w h) n) [(x : Int) - 1, (i : Int) - 1] = true :=
  ⟨fun z i hi => (qR hk i).mp (z i hi), fun z i hi => (qR hk i).mpr (z i hi)⟩
 rw [hc]
 unfold rests
 rw [List.all_eq_true]
 constructor
 ·intro z i hi x hx
  by_cases hl : [(x : Int) - 1, (i : Int) - 1] ∈ lk k (sel (bg w h) n)
  ·exact z _ hl
  ·have hn : [(x : Int) - 1, (i : Int) - 1] ∉ sel (bg w h) n := fun q => hl (List.mem_flatMap.mpr ⟨_, q, List.mem_cons_self⟩)
   have hz : ((st k).filter fun m => decide (nx2 ((x : Int) - 1) ((i : Int) - 1) m ∈ sel (bg w h) n)) = [] := List.filter_eq_nil_iff.mpr fun m hm q => by
    obtain ⟨dx, dy, rfl⟩ := mm hk ((d0 hk).mem_iff.mp hm)
    refine hl (List.mem_flatMap.mpr ⟨_, of_decide_eq_true q, List.mem_cons_of_mem _ (List.mem_map.mpr ⟨_, zy hk hm, ?_⟩)⟩)
    simp only [nx2, List.getD_cons_zero, List.getD_cons_succ, List.cons.injEq, and_true]
    lia
   show decide (lives k bo sy (sel (bg w h) n) ((x : Int) - 1) ((i : Int) - 1) = decide ([(x : Int) - 1, (i : Int) - 1] ∈ sel (bg w h) n)) = true
   rw [decide_eq_false hn, decide_eq_true_eq]
   unfold lives
   rw [hz, if_neg hn]
   exact decide_eq_false h0
 ·intro z c hc
  obtain ⟨p, hp, hc⟩ := List.mem_flatMap.mp hc
  obtain ⟨px, py, rfl⟩ := qL (fun p hp => mr p hp) p hp
  obtain ⟨x, y, rfl, rfl, hx, hy, _⟩ := (mz _ _).mp hp
  rcases List.mem_cons.mp hc with rfl | hc
  ·have := z (y + 1) (by lia) (x + 1) (by lia)
   rwa [show ((x + 1 : Nat) : Int) - 1 = (x : Int) by lia, show ((y + 1 : Nat) : Int) - 1 = (y : Int) by lia] at this
  ·obtain ⟨m, hm, rfl⟩ := List.mem_map.mp hc
   obtain ⟨dx, dy, rfl, h1, h2⟩ := qq hk ((d0 hk).mem_iff.mp hm)
   obtain ⟨u, rfl⟩ : ∃ u : Nat, dx = (u : Int) - 1 := ⟨(dx + 1).toNat, by lia⟩
   obtain ⟨v, rfl⟩ : ∃ v : Nat, dy = (v : Int) - 1 := ⟨(dy + 1).toNat, by lia⟩
   have := z (y + v) (by lia) (x + u) (by lia)
   rwa [show nx2 ([(x : Int), (y : Int)].getD 0 0) ([(x : Int), (y : Int)].getD 1 0) [(u : Int) - 1, (v : Int) - 1] = [((x + u : Nat) : Int) - 1, ((y + v : Nat) : Int) - 1] by
    simp only [nx2, List.getD_cons_zero, List.getD_cons_succ, List.cons.injEq, and_true]
    lia]
theorem uh (hk : Kd k) (h0 : 0 ∉ bo) : Tw (fol (am k bo sy) w) h 0 0 = (cntR k bo sy (bg w h) (2 ^ (h * w)) : Nat) := by
 rw [show (0 : Int) = ((0 : Nat) : Int) from rfl, qN]
 unfold cntR
 congr 2
 exact List.filter_congr fun m _ => (qS hk h0).symm
end
end My
namespace My
open PySem L2 VL
noncomputable def eB (bs : List Bool) : D := .lst (bs.map D.bl)
theorem qT : Enc 1 eB := xC.lst
section
variable {P : Program} {w : World} {K : PySem.W.Frag} {mg : Str -> Option Value} {base : Heap}
theorem zz {c_Loud c_NoSize : Addr} (S : Src K mg "law" yZ) (T : Txt mg) (e5_ : Has P w K mg base 1 "_law_pen" ["_law_script", "_law_k"] (spP K BI)) (e0_ : Has P w K mg base 1 "_law_draw" ["_law_pen_here", "_law_many_here"] (spI K 0 hZ)) (e20_ : Has P w K mg base 2 "_law_rule" ["_law_pen_here", "_law_least"] (spI K 0 vN)) (e8_ : Has P w K mg base 2 "_law_size" ["_law_pen_here"] (spI K 0 vQ)) (e24_ : Has P w K mg base 5 "how_many_rest" ["rule", "size"] (spP K BU)) (e14_ : Has P w K mg base 1 "_law_whole" ["_law_found"] (spP K BW)) (e9_ : Has P w K mg base 3 "_law_many" ["_law_code", "_law_size_here"] (spP K vP)) (e16_ : Has P w K mg base 2 "_law_bad_size" ["_law_pen_here"] (spI K 0 BY)) (e7_ : Has P w K mg base 6 "_law_refused" ["_law_code", "_law_size_here"] (spP K (vS c_Loud c_NoSize))) : Has P w K mg base 7 "law" ["_law_script"] (spP K tQ) := by
 refine bF S eg (by walk_at "1") (fun ds R zq1 => by obtain ⟨_, e, _⟩ := zq1; rw [e]; rfl) fun f cdv A outer s H E hr => ⟨_, _, (ai (lE (fun _ h => bK (i := 1) eg.nd rfl (Or.inl rfl) h) (ow e5_ hr (aa (ae 0 (pv 0)) (aa af ah))))
  (ai (aD (i := 2) eg.nd rfl (Or.inl rfl) (bS e20_ hr (aa (ae 1 (pv 1)) (aa af ah))))
  (ai (dI PassesOwn.never rfl (bC rfl T.range (aa af ah)) (aB (az (i := 3) eg.nd rfl (Or.inl rfl) (Or.inl rfl))) (ai (aD (i := 4) eg.nd rfl (Or.inl rfl) (yg e8_ hr (ow e5_ hr (aa (ae 0 (pv 0)) (aa (ay bj aH af (ae 3 (pv 3))) ah)))))
  (ai (aD (i := 5) eg.nd rfl (Or.inl rfl) (bz e24_ hr (aa (ae 2 (pv 2)) (aa (ae 4 (pv 4)) ah))))
  (ao (ck (zX (zW (fZ (cS (bz e14_ hr (aa (ae 5 (pv 5)) ah)))) (xi (bE uu zU (ae 5 (pv 5)) (bz e9_ hr (aa (ae 2 (pv 2)) (aa (ae 4 (pv 4)) ah))) (bD _))))) (ao (aF bJ)) bw)))))
  (ai (lE (fun _ h => bK (i := 6) eg.nd rfl (Or.inl rfl) h) (ow e5_ hr (aa (ae 0 (pv 0)) (aa af ah))))
  (ai (aD (i := 7) eg.nd rfl (Or.inl rfl) (bS e16_ hr (aa (ae 6 (pv 6)) ah)))
  (ai (ck (bE (xB (K := K) rfl hr.units) uH (bz e7_ hr (aa (ae 2 (pv 2)) (aa (ae 7 (pv 7)) ah))) (bf (aR (aa bJ (aa bJ (aa bJ (aa bJ ah)))))) (bD _)) (ao (aF bJ)) bw)
  (ai (aD (i := 8) eg.nd rfl (Or.inl rfl) (aq (aa (aE rfl (ae 2 (pv 2)) af (fun _ _ => rfl)) (aa (tD rfl (aq (aa af ah)) (aE rfl (ae 2 (pv 2)) af (fun _ _ => rfl))) (aa (aE rfl (ae 2 (pv 2)) af (fun _ _ => rfl)) ah)))))
  (ai (aD (i := 9) eg.nd rfl (Or.inl rfl) (bS e8_ hr (aa (ae 6 (pv 6)) ah)))
  (ao (aF (cR (xA (K := K) rfl hr.units) uH (bz e7_ hr (aa (ae 8 (pv 8)) (aa (aE rfl (sA (aa (ae 9 (pv 9)) (aa (ae 7 (pv 7)) ah))) (bS e0_ hr (aa (ae 6 (pv 6)) (aa af ah))) (fun _ _ => rfl)) ah))) (bf (aR (aa bJ (aa bJ (aa bJ (aa bJ ah)))))) (bD _)))))))))))), ?_⟩
 rintro ds R ⟨ns, rfl, hl, q⟩
 walk_at "sl"
 walk_at "rd"
 refine ⟨ns, 0, rfl, by lia, fun x y => ⟨_, rfl, rfl, ?_⟩⟩
 refine iF (ns := [x, y, 0]) rfl ?_
 walk_at "rd"
 refine ⟨0, rfl, ⟨x, y, 0, rfl, by lia, by lia⟩, by lia, fun k bo sy pn0 hk h0 hbl => ?_⟩
 walk_at "rd"
 refine fC (fun i S => ∃ p1 v3 v4 v5, S = [.val (.lst (ns.map .int)), p1, .val (rl k bo sy), v3, v4, v5, .no, .no, .no, .no]) ⟨_, _, _, _, rfl⟩ ?_ ?_
 ·rintro i S hi ⟨p1, v3, v4, v5, rfl⟩
  have hi2 : i < 2 := hi
  walk_at "rd"
  rw [show (1 : Int) + (0 + (i : Int)) = ((1 + i : Nat) : Int) by lia]
  refine ⟨ns, 1 + i, rfl, by lia, fun x1 y1 => ⟨_, rfl, rfl, ?_⟩⟩
  refine yh (ns := [x1, y1, 0]) rfl ?_
  refine ⟨0, rfl, ⟨x1, y1, 0, rfl, by lia, by lia⟩, by lia, fun w h pn1 w1 w2 h1 hwh _ => ?_⟩
  have hh : h <= 8 := Nat.le_trans (Nat.le_mul_of_pos_right h w1) hwh
  walk_at "rd"
  refine ⟨k, bo, sy, w, h, rfl, hk, h0, w1, w2, h1, by lia, ?_⟩
  rw [uh hk h0]
  walk_at "rd"
  refine ⟨_, rfl, ?_⟩
  walk_at "rc"
  refine ⟨k, bo, sy, w, h, rfl, hk, w2, by lia, hwh, ?_⟩
  walk_at "rd"
  refine oM (fun z => (z rfl).elim) (fun _ => ?_)
  walk_at "rd"
  exact ⟨_, _, _, _, rfl⟩
 ·rintro S ⟨p1, v3, v4, v5, rfl⟩
  walk_at "rd"
  refine ⟨ns, 3, rfl, by lia, fun x1 y1 => ⟨_, rfl, rfl, ?_⟩⟩
  refine iF (ns := [x1, y1, 0]) rfl ?_
  walk_at "rd"
  refine ⟨0, rfl, ⟨x1, y1, 0, rfl, by lia, by lia⟩, by lia, fun bd pn1 hb1 hb2 hp1 => ?_⟩
  walk_at "rd"
  refine .inl ⟨⟨k, bo, sy, bd, rfl, .inr ⟨rfl, h0, hb1, hb2⟩⟩, ?_⟩
  walk_at "rd"
  refine Bg (x := [true, false, true, false]) (y := [true, false, true, false]) qT rfl ?_
  unfold rl
  walk_at "rc"
  refine p8 (by simp) (by simp; lia) ?_
  walk_at "rd"
  refine ⟨1, rfl, hp1, by lia, fun w h pn2 _ _ _ _ hp2 => ?_⟩
  walk_at "rd"
  refine ⟨4, 2, rfl, hp2, by lia, by lia, by lia, fun pn3 r h3 r0 r1 => ?_⟩
  walk_at "rd"
  have hat : ∃ d, atI [eT [(w : Int), (h : Int)], bd] r = some d := by
   rcases (by lia : r = 0 \/ r = 1) with rfl | rfl
   ·exact ⟨_, rfl⟩
   ·exact ⟨_, rfl⟩
  obtain ⟨d, hd⟩ := hat
  refine du rfl rfl hd ?_
  walk_at "rd"
  refine .inr ⟨⟨k, 0 :: bo, sy, d, rfl, .inl ⟨rfl, List.mem_cons_self⟩⟩, ?_⟩
  walk_at "rd"
  refine Al (x := [false, true, true, false]) (y := [false, true, true, false]) qT ?_
  rw [decide_eq_true rfl]
  walk_at "rc"
  exact q
end
end My
namespace My
open PySem L2 VL
theorem zA {l : PySem.W.OpenLaw} {w : World} {h : Heap} {mg : Str -> Option Value} {fa : Addr} {a_OFFSETS : Addr} {t_MOST_COLUMNS : Tok}  {t_MOST_ROWS : Tok} {c_NoSize : Addr}  {c_Loud : Addr}  {c_CellError : Addr}  {c_Folded : Addr}  {c_NoLine : Addr}  {c_NoName : Addr}  {c_NoNumber : Addr}  {c_NoRest : Addr}  {c_NoRule : Addr}  {c_NoText : Addr}  {c_NoThing : Addr}  {c_Outside : Addr}  {c_TooWide : Addr} (X : K.In h) (G : h.Ns mainGlobals mg) (hfa : mg "law" = some (.ref fa))
  (S0 : Src K mg "_law_pen" ql) (S1 : Src K mg "_law_draw" kO) (S2 : Src K mg "is_whole" gz) (S3 : Src K mg "is_pair" jd) (S4 : Src K mg "offsets" gA) (S5 : Src K mg "comes" kM) (S6 : Src K mg "comes_amid" dr) (S7 : Src K mg "is_quiet" gB) (S8 : Src K mg "refuse_loud" cq) (S9 : Src K mg "refuse_loud" cq) (S10 : Src K mg "is_rest_size" dQ) (S11 : Src K mg "refuse_no_rests" bH) (S12 : Src K mg "refuse_no_rests" bH) (S13 : Src K mg "centres" dO) (S14 : Src K mg "rows_below" cF) (S15 : Src K mg "followers_of" bT) (S16 : Src K mg "may_end" jf) (S17 : Src K mg "ways_to_end" bY) (S18 : Src K mg "how_many_rest" bU) (S19 : Src K mg "how_many_rest" bU) (S20 : Src K mg "_law_rule" gC) (S21 : Src K mg "_law_near" kP) (S22 : Src K mg "_law_lives" fL) (S23 : Src K mg "_law_whole" jh) (S24 : Src K mg "_law_rests" ji) (S25 : Src K mg "_law_many" gE) (S26 : Src K mg "_law_size" kQ) (S27 : Src K mg "_law_bad_size" eX) (S28 : Src K mg "_law_refused" eY) (S29 : Src K mg "law" yZ)
  (n_OFFSETS : PySem.W.nsIn K mainGlobals "OFFSETS" = some (some (.ref a_OFFSETS))) (k_OFFSETS : okD K a_OFFSETS rows = true) (i_MOST_COLUMNS : PySem.W.nsIn K mainGlobals "MOST_COLUMNS" = some (some (.int 4 t_MOST_COLUMNS)))  (i_MOST_ROWS : PySem.W.nsIn K mainGlobals "MOST_ROWS" = some (some (.int 60 t_MOST_ROWS))) (h_NoSize : PySem.W.nsIn K mainGlobals "NoSize" = some (some (.ref c_NoSize)))  (h_Loud : PySem.W.nsIn K mainGlobals "Loud" = some (some (.ref c_Loud)))  (h_CellError : PySem.W.nsIn K mainGlobals "CellError" = some (some (.ref c_CellError)))  (h_Folded : PySem.W.nsIn K mainGlobals "Folded" = some (some (.ref c_Folded)))  (h_NoLine : PySem.W.nsIn K mainGlobals "NoLine" = some (some (.ref c_NoLine)))  (h_NoName : PySem.W.nsIn K mainGlobals "NoName" = some (some (.ref c_NoName)))  (h_NoNumber : PySem.W.nsIn K mainGlobals "NoNumber" = some (some (.ref c_NoNumber)))  (h_NoRest : PySem.W.nsIn K mainGlobals "NoRest" = some (some (.ref c_NoRest)))  (h_NoRule : PySem.W.nsIn K mainGlobals "NoRule" = some (some (.ref c_NoRule)))  (h_NoText : PySem.W.nsIn K mainGlobals "NoText" = some (some (.ref c_NoText)))  (h_NoThing : PySem.W.nsIn K mainGlobals "NoThing" = some (some (.ref c_NoThing)))  (h_Outside : PySem.W.nsIn K mainGlobals "Outside" = some (some (.ref c_Outside)))  (h_TooWide : PySem.W.nsIn K mainGlobals "TooWide" = some (some (.ref c_TooWide))) (y0 : PySem.W.nsIn K mainGlobals "ValueError" = some none) (y1 : PySem.W.excIn K c_NoSize [.type "ValueError", .type "Exception", .type "BaseException", .type "object"] "ValueError.__new__" = true) (y2 : PySem.W.exmOne K (.ref c_NoSize) (.ref c_CellError) = some true) (y3 : cM K c_NoSize = true) (y4 : PySem.W.kitOne K (.ref c_NoSize) (.ref c_NoSize) = some true) (y5 : PySem.W.kitOne K (.ref c_NoSize) (.ref c_Loud) = some false) (y6 : PySem.W.kitOne K (.ref c_NoSize) (.type "ValueError") = some true) (y7 : PySem.W.kitAny K (.ref c_NoSize) [.ref c_Folded, .ref c_NoLine, .ref c_NoName, .ref c_NoNumber, .ref c_NoRest, .ref c_NoRule, .ref c_NoText, .ref c_NoThing, .ref c_Outside, .ref c_TooWide] = some false) (y8 : PySem.W.excIn K c_Loud [.type "ValueError", .type "Exception", .type "BaseException", .type "object"] "ValueError.__new__" = true) (y9 : PySem.W.exmOne K (.ref c_Loud) (.ref c_CellError) = some true) (y10 : cM K c_Loud = true) (y11 : PySem.W.kitOne K (.ref c_Loud) (.ref c_NoSize) = some false) (y12 : PySem.W.kitOne K (.ref c_Loud) (.ref c_Loud) = some true) (y13 : PySem.W.kitOne K (.ref c_Loud) (.type "ValueError") = some true) (y14 : PySem.W.kitAny K (.ref c_Loud) [.ref c_Folded, .ref c_NoLine, .ref c_NoName, .ref c_NoNumber, .ref c_NoRest, .ref c_NoRule, .ref c_NoText, .ref c_NoThing, .ref c_Outside, .ref c_TooWide] = some false)
  (z0 : PySem.W.nsIn K mainGlobals "len" = some none) (z1 : PySem.W.nsIn K mainGlobals "range" = some none) (z2 : PySem.W.nsIn K mainGlobals "abs" = some none) (z3 : PySem.W.nsIn K mainGlobals "isinstance" = some none) (z4 : PySem.W.nsIn K mainGlobals "int" = some none) (z5 : PySem.W.nsIn K mainGlobals "bool" = some none) (z6 : PySem.W.nsIn K mainGlobals "list" = some none) (z7 : PySem.W.nsIn K mainGlobals "tuple" = some none) (z8 : PySem.W.nsIn K mainGlobals "sorted" = some none) (z9 : PySem.W.nsIn K mainGlobals "max" = some none) (z10 : PySem.W.nsIn K mainGlobals "min" = some none) (z11 : PySem.W.nsIn K mainGlobals "all" = some none) (z12 : PySem.W.nsIn K mainGlobals "any" = some none) (z13 : PySem.W.nsIn K mainGlobals "set" = some none) (z14 : PySem.W.nsIn K mainGlobals "sum" = some none) (z15 : PySem.W.nsIn K mainGlobals "str" = some none) (z16 : PySem.W.nsIn K mainGlobals "dict" = some none) (z17 : PySem.W.nsIn K mainGlobals "zip" = some none) (z18 : PySem.W.nsIn K mainGlobals "enumerate" = some none) :
  ∃ fd : FuncData, (∀ (s : Shared) (v : Value), BindsTo s fd ⟨[v], []⟩ [("_law_script", v)]) /\ ∀ base : Heap, K.In base -> base.Ns mainGlobals mg -> ft l.prog w K mg base CX0 7 fa fd ["_law_script"] (spP K tQ) := by
 have no := fun {n : Str} (z : PySem.W.nsIn K mainGlobals n = some none) => PySem.W.mg_none_of X G z
 have T : Txt mg := ⟨no z0, no z1, no z2, no z3, no z4, no z5, no z6, no z7, no z8, no z9, no z10, no z11, no z12, no z13, no z14, no z15, no z16, no z17, no z18⟩
 refine rq S29 hfa (fun _ _ _ _ _ _ _ => rfl) fun base => ?_
 have e5_ := za (P := l.prog) (w := w) (base := base) S0 T
 have e0_ := tR (P := l.prog) (w := w) (base := base) S1 T
 have e6_ := BM (P := l.prog) (w := w) (base := base) S2 T
 have e19_ := tU (P := l.prog) (w := w) (base := base) S3 T e6_
 have e10_ := zd (P := l.prog) (w := w) (base := base) S4 T  (PySem.W.mg_of X G n_OFFSETS) k_OFFSETS
 have e1_ := qw (P := l.prog) (w := w) (base := base) S5 T
 have e15_ := tT (P := l.prog) (w := w) (base := base) S6 T e10_ e1_
 have e4_ := qx (P := l.prog) (w := w) (base := base) S7 T
 have e2_ := tV (P := l.prog) (w := w) (base := base) S8 T e4_
 have e26_ := qy (P := l.prog) (w := w) (base := base) S9 T e4_ (PySem.W.mg_of X G h_Loud) y8
 have e3_ := BN (P := l.prog) (w := w) (base := base) S10 T e19_ (PySem.W.mg_of X G i_MOST_COLUMNS) (PySem.W.mg_of X G i_MOST_ROWS)
 have e25_ := ze (P := l.prog) (w := w) (base := base) S11 T e2_ e3_
 have e27_ := tW (P := l.prog) (w := w) (base := base) S12 T e2_ e26_ e3_ (PySem.W.mg_of X G h_NoSize) y1
 have e23_ := t4 (P := l.prog) (w := w) (base := base) S13 T e15_
 have e22_ := zh (P := l.prog) (w := w) (base := base) S14 T
 have e13_ := zm (P := l.prog) (w := w) (base := base) S15 T e23_ e22_
 have e17_ := zo (P := l.prog) (w := w) (base := base) S16 T
 have e21_ := t8 (P := l.prog) (w := w) (base := base) S17 T e17_
 have e24_ := zp (P := l.prog) (w := w) (base := base) S18 T e25_ e13_ e21_
 have e28_ := t9 (P := l.prog) (w := w) (base := base) S19 T e27_
 have e20_ := ub (P := l.prog) (w := w) (base := base) S20 T e0_
 have e11_ := uc (P := l.prog) (w := w) (base := base) S21 T
 have e12_ := qJ (P := l.prog) (w := w) (base := base) S22 T
 have e14_ := zu (P := l.prog) (w := w) (base := base) S23 T
 have e18_ := qK (P := l.prog) (w := w) (base := base) S24 T e12_
 have e9_ := ue (P := l.prog) (w := w) (base := base) S25 T e11_ e18_
 have e8_ := uf (P := l.prog) (w := w) (base := base) S26 T e0_
 have e16_ := zx (P := l.prog) (w := w) (base := base) S27 T e0_
 have e7_ := ug (P := l.prog) (w := w) (base := base) S28 T e28_ (PySem.W.mg_of X G h_CellError) (no y0) (PySem.W.mg_of X G h_Folded) (PySem.W.mg_of X G h_Loud) (PySem.W.mg_of X G h_NoLine) (PySem.W.mg_of X G h_NoName) (PySem.W.mg_of X G h_NoNumber) (PySem.W.mg_of X G h_NoRest) (PySem.W.mg_of X G h_NoRule) (PySem.W.mg_of X G h_NoSize) (PySem.W.mg_of X G h_NoText) (PySem.W.mg_of X G h_NoThing) (PySem.W.mg_of X G h_Outside) (PySem.W.mg_of X G h_TooWide) y2 y3 y4 y5 y6 y7 y9 y10 y11 y12 y13 y14
 exact zz (P := l.prog) (w := w) (base := base) S29 T e5_ e0_ e20_ e8_ e24_ e14_ e9_ e16_ e7_
theorem walk {l : PySem.W.OpenLaw} {q : Program} {loose : List Str} {XP : (Str -> Option Value) -> Heap -> Prop} {YP : World -> Heap -> Prop} {d : DefRec} {K : Params -> PySem.W.Frag} (hn : l.most = some 63) (hdf : d.params.defaults = [])
  (hY : ∀ (w : World) (h : Heap), YP w h -> (K w.params).In h)
  (F : ∀ (w : World) (mg : Str -> Option Value) (fa : Addr) (h : Heap), (K w.params).In h -> h.Ns mainGlobals mg -> mg d.name = some (.ref fa) ->
   ∃ fd : FuncData, (∀ (s : Shared) (u : Value), BindsTo s fd ⟨[u], []⟩ [("_law_script", u)]) /\ ∀ base : Heap, (K w.params).In base -> base.Ns mainGlobals mg -> ft l.prog w (K w.params) mg base CX0 7 fa fd ["_law_script"] (spP (K w.params) tQ)) :
  PySem.W.WalkO q loose XP YP l.row.toRowW d [] (fun f vs => PySem.call f vs) :=
 L2.rn (n := 63) (k := 7) (x := "_law_script") (CX := fun _ => CX0) (sp := fun w => spP (K w.params) tQ) hn (by decide) hdf ⟨rfl, by decide, by decide, rfl⟩ hY F
  (fun _ _ a ns hl _ hS => ⟨_, fun d => d = .bl true, .cons (Rep.of_sqL hS trivial (fun _ => trivial) Reps.ints) .nil, ⟨ns, rfl, hl, rfl⟩, fun d v H' e _ r => by subst e; cases r; rfl⟩) fun _ _ _ _ _ z => z
end My
def PySem.W.Fast.tw2038080526287988269 : Unit := ()
def PySem.W.Fast.tw17184151731390316274 : Unit := ()
def PySem.W.Fast.tw17107881285110149042 : Unit := ()
def PySem.W.Fast.tw10313580114234962822 : Unit := ()
def PySem.W.Fast.tw122330206779551287 : Unit := ()
def PySem.W.Fast.tw15644498817274809674 : Unit := ()
def PySem.W.Fast.tw9454385847871430307 : Unit := ()
def PySem.W.Fast.tw11292149707827760847 : Unit := ()
def PySem.W.Fast.tw8611070080572684684 : Unit := ()
def PySem.W.Fast.tw249065415287002738 : Unit := ()
def PySem.W.Fast.tw408295140319020106 : Unit := ()
def PySem.W.Fast.tw1747205752681319369 : Unit := ()
def PySem.W.Fast.tw6867940614073724092 : Unit := ()
def PySem.W.Fast.tw2487260711796986566 : Unit := ()
def PySem.W.Fast.tw5591837915720416903 : Unit := ()
def PySem.W.Fast.tw2619036378086363008 : Unit := ()
def PySem.W.Fast.tw11481645995944847039 : Unit := ()
def PySem.W.Fast.tw3661276941417890300 : Unit := ()
def PySem.W.Fast.tw3207688612550122706 : Unit := ()
def PySem.W.Fast.tw14950711377313892095 : Unit := ()
def PySem.W.Fast.tw1562840566698834917 : Unit := ()
def PySem.W.Fast.tw17065734401540568256 : Unit := ()
def PySem.W.Fast.tw3265412938101460955 : Unit := ()
def PySem.W.Fast.tw15483168041873682892 : Unit := ()
def PySem.W.Fast.tw1701105117288351126 : Unit := ()
def PySem.W.Fast.tw4581591501104968786 : Unit := ()
def PySem.W.Fast.tw4753441949951264357 : Unit := ()
def PySem.W.Fast.tw15006298673090678063 : Unit := ()
def PySem.W.Fast.tw13072337294660867961 : Unit := ()
def PySem.W.Fast.tw17535543158996860775 : Unit := ()
def PySem.W.Fast.tw7221937917136793806 : Unit := ()
def PySem.W.Fast.tw3589731198209815258 : Unit := ()
def PySem.W.Fast.tw16081440341384659623 : Unit := ()
def PySem.W.Fast.tw13622896488857748221 : Unit := ()
def PySem.W.Fast.tw14650970706885841247 : Unit := ()
def PySem.W.Fast.tw14962713277264483821 : Unit := ()
def PySem.W.Fast.tw6153588157017399504 : Unit := ()
def PySem.W.Fast.tw3537238028796819432 : Unit := ()
def PySem.W.Fast.tw16241312978181805363 : Unit := ()
def PySem.W.Fast.tw2735686592362297409 : Unit := ()
def PySem.W.Fast.tw3614314354676964534 : Unit := ()
def PySem.W.Fast.tw6377947785642482340 : Unit := ()
def PySem.W.Fast.tw2493851205063613583 : Unit := ()
def PySem.W.Fast.tw11404051299949151751 : Unit := ()
def PySem.W.Fast.tw10245355982910355510 : Unit := ()
def PySem.W.Fast.tw10814774507603534135 : Unit := ()
def PySem.W.Fast.tw7788926296243046802 : Unit := ()
def PySem.W.Fast.tw1331460310777518123 : Unit := ()
def PySem.W.Fast.tw12397151323875091611 : Unit := ()
def PySem.W.Fast.tw3807600448729945610 : Unit := ()
def PySem.W.Fast.tw36565666801931911 : Unit := ()
def PySem.W.Fast.tw13738974203261765703 : Unit := ()
def PySem.W.Fast.tw15099312239178654622 : Unit := ()
def PySem.W.Fast.tw12998721051496931076 : Unit := ()
def PySem.W.Fast.tw7223244349131410368 : Unit := ()
def PySem.W.Fast.tw1023800211715666741 : Unit := ()
open PySem PySem.W PyProof.Rows
set_option maxRecDepth 100000 in
set_option maxHeartbeats 0 in
theorem PySem.Challenge.cw_cellships_k43_how_many_rest_holds : PySem.Challenge.rw_cellships_k43_how_many_rest.Holds := by
 w_on; o_law; k_head; (case hw => w_witness2)
 k_fill
 refine My.walk (l := PySem.Challenge.rw_cellships_k43_how_many_rest) rfl rfl (fun w h Y => PySem.W.kIn_of Y) ?F
 case F =>
  intro w mg fa h KX G hmg
  refine' My.zA KX G hmg (L2.aJ KX G ?a0 ?l0 ?c0 ?k0) (L2.aJ KX G ?a1 ?l1 ?c1 ?k1) (L2.aJ KX G ?a2 ?l2 ?c2 ?k2) (L2.aJ KX G ?a3 ?l3 ?c3 ?k3) (L2.aJ KX G ?a4 ?l4 ?c4 ?k4) (L2.aJ KX G ?a5 ?l5 ?c5 ?k5) (L2.aJ KX G ?a6 ?l6 ?c6 ?k6) (L2.aJ KX G ?a7 ?l7 ?c7 ?k7) (L2.aJ KX G ?a8 ?l8 ?c8 ?k8) (L2.aJ KX G ?a9 ?l9 ?c9 ?k9) (L2.aJ KX G ?a10 ?l10 ?c10 ?k10) (L2.aJ KX G ?a11 ?l11 ?c11 ?k11) (L2.aJ KX G ?a12 ?l12 ?c12 ?k12) (L2.aJ KX G ?a13 ?l13 ?c13 ?k13) (L2.aJ KX G ?a14 ?l14 ?c14 ?k14) (L2.aJ KX G ?a15 ?l15 ?c15 ?k15) (L2.aJ KX G ?a16 ?l16 ?c16 ?k16) (L2.aJ KX G ?a17 ?l17 ?c17 ?k17) (L2.aJ KX G ?a18 ?l18 ?c18 ?k18) (L2.aJ KX G ?a19 ?l19 ?c19 ?k19) (L2.aJ KX G ?a20 ?l20 ?c20 ?k20) (L2.aJ KX G ?a21 ?l21 ?c21 ?k21) (L2.aJ KX G ?a22 ?l22 ?c22 ?k22) (L2.aJ KX G ?a23 ?l23 ?c23 ?k23) (L2.aJ KX G ?a24 ?l24 ?c24 ?k24) (L2.aJ KX G ?a25 ?l25 ?c25 ?k25) (L2.aJ KX G ?a26 ?l26 ?c26 ?k26) (L2.aJ KX G ?a27 ?l27 ?c27 ?k27) (L2.aJ KX G ?a28 ?l28 ?c28 ?k28) (L2.aJ KX G ?a29 ?l29 ?c29 ?k29) ?n0 ?m0 ?i0 ?i1 ?h0 ?h1 ?h2 ?h3 ?h4 ?h5 ?h6 ?h7 ?h8 ?h9 ?h10 ?h11 ?h12 ?y0 ?y1 ?y2 ?y3 ?y4 ?y5 ?y6 ?y7 ?y8 ?y9 ?y10 ?y11 ?y12 ?y13 ?y14 ?z0 ?z1 ?z2 ?z3 ?z4 ?z5 ?z6 ?z7 ?z8 ?z9 ?z10 ?z11 ?z12 ?z13 ?z14 ?z15 ?z16 ?z17 ?z18
  (case a0 | l0 | c0 | k0 | a1 | l1 | c1 | k1 | a2 | l2 | c2 | k2 | a3 | l3 | c3 | k3 | a4 | l4 | c4 | k4 | a5 | l5 | c5 | k5 | a6 | l6 | c6 | k6 | a7 | l7 | c7 | k7 | a8 | l8 | c8 | k8 | a9 | l9 | c9 | k9 | a10 | l10 | c10 | k10 | a11 | l11 | c11 | k11 | a12 | l12 | c12 | k12 | a13 | l13 | c13 | k13 | a14 | l14 | c14 | k14 | a15 | l15 | c15 | k15 | a16 | l16 | c16 | k16 | a17 | l17 | c17 | k17 | a18 | l18 | c18 | k18 | a19 | l19 | c19 | k19 | a20 | l20 | c20 | k20 | a21 | l21 | c21 | k21 | a22 | l22 | c22 | k22 | a23 | l23 | c23 | k23 | a24 | l24 | c24 | k24 | a25 | l25 | c25 | k25 | a26 | l26 | c26 | k26 | a27 | l27 | c27 | k27 | a28 | l28 | c28 | k28 | a29 | l29 | c29 | k29 | n0 => k_is)
  (case m0 => kernel_rfl)
  (case i0 | i1 | h0 | h1 | h2 | h3 | h4 | h5 | h6 | h7 | h8 | h9 | h10 | h11 | h12 => k_is)
  (case y0 | y1 | y2 | y3 | y4 | y5 | y6 | y7 | y8 | y9 | y10 | y11 | y12 | y13 | y14 => first | kernel_rfl | k_is)
  (case z0 | z1 | z2 | z3 | z4 | z5 | z6 | z7 | z8 | z9 | z10 | z11 | z12 | z13 | z14 | z15 | z16 | z17 | z18 => k_is)
#print axioms PySem.Challenge.cw_cellships_k43_how_many_rest_holds
