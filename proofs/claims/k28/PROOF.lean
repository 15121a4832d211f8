import PyProof.Rows.All
import Wide.All
import OpenK.AllK
import Wide.FinOn
import Lean
import PyProof.EqAt
import PyProof.EqKinds
import PyProof.TupleCall
import PyProof.NeData
import PyProof.P3In
import PyProof.ListRange
import PyProof.TupleOfStr
import PyProof.Rows.SumAny
import PyProof.Rows.Range3
import PyProof.StrCalls
import PyProof.Rows.SetFrom
import PyProof.WalksMore
import PyProof.TupleOfSeq
import KE.KRevSl
import KE.KLam
import KE.KSortKey
import KE.KNestM
import OpenK.KOwn
import KE.KIsNot
import KE.KTryMore
import PyProof.DictTable
import PyProof.Rows.TupDisplay
import PyProof.ReprLen
import PyProof.ReprRoads
import KE.KDictOf
import PyProof.AttrMissHeap
import PyProof.NeKinds
import PyProof.ZipIter
import PyProof.DictCompW
import PyProof.DictItems
import PyProof.DictWalks
import PyProof.DictDisplay
import PyProof.ExcAttrAll.ValueError
import PyProof.TupleKey
import PyProof.IsRules
import KE.KDictList
import KE.KDictSum
import PyProof.FactsAll.set_1
import PyProof.FactsAll.set_2
import PySem.Challenge.RW_cellships_k28_growers
set_option Elab.async false
set_option linter.all false
set_option maxRecDepth 100000
set_option maxHeartbeats 4000000
namespace L2
open PySem PySem.Spec PyProof.Rows
abbrev Key := Sum Int Str
def uG : Key -> Value -> Bool
 | .inl k, v => Value.isInt k v
 | .inr x, v => Value.isStrOf x v
def BR (w : World) : Key -> Int
 | .inl k => hashInt k
 | .inr x => hashStr w x
theorem aR : ∀ {k : Key} {v : Value}, uG k v = true -> (∃ i t, k = Sum.inl i /\ v = Value.int i t) \/ (∃ x t, k = Sum.inr x /\ v = Value.str x t)
 | .inl i, v, h => by
  obtain ⟨t, e⟩ := Value.isInt_shape (k := i) (v := v) h
  exact .inl ⟨i, t, rfl, e⟩
 | .inr x, v, h => by
  obtain ⟨t, e⟩ := Value.isStrOf_shape (x := x) (v := v) h
  exact .inr ⟨x, t, rfl, e⟩
theorem vX (a b : Int) : decide ((Sum.inl a : Key) = Sum.inl b) = (a == b) := by
 by_cases e : a = b
 ·subst e; simp
 ·have h : ¬ (Sum.inl a : Key) = Sum.inl b := fun q => e (Sum.inl.inj q)
  rw [decide_eq_false h]
  exact (beq_eq_false_iff_ne.mpr e).symm
theorem vY (a b : Str) : decide ((Sum.inr a : Key) = Sum.inr b) = decide (a = b) := by
 by_cases e : a = b
 ·subst e; simp
 ·have h : ¬ (Sum.inr a : Key) = Sum.inr b := fun q => e (Sum.inr.inj q)
  rw [decide_eq_false h, decide_eq_false e]
theorem vZ (a : Int) (b : Str) : decide ((Sum.inl a : Key) = Sum.inr b) = false := decide_eq_false (fun q => nomatch q)
theorem v9 (a : Str) (b : Int) : decide ((Sum.inr a : Key) = Sum.inl b) = false := decide_eq_false (fun q => nomatch q)
def i6 (prog : Program) (w : World) : PySem.KeyKind prog w Key where
 is := uG
 hash := BR w
 inj := fun v a b ha hb => by
  rcases aR ha with ⟨i, t, rfl, rfl⟩ | ⟨x, t, rfl, rfl⟩
  ·rcases aR hb with ⟨j, u, rfl, e⟩ | ⟨y, u, rfl, e⟩
   ·injection e with e1 _; rw [e1]
   ·exact nomatch e
  ·rcases aR hb with ⟨j, u, rfl, e⟩ | ⟨y, u, rfl, e⟩
   ·exact nomatch e
   ·injection e with e1 _; rw [e1]
 byValue := fun k v h => by
  rcases aR h with ⟨i, t, rfl, rfl⟩ | ⟨x, t, rfl, rfl⟩ <;> rfl
 pyHash := fun hv h => by
  rcases aR hv with ⟨i, t, rfl, rfl⟩ | ⟨x, t, rfl, rfl⟩
  ·exact wpAny_pyHash_int h
  ·exact wpAny_pyHash_str h
 eqBool := fun hu hv h => by
  rcases aR hu with ⟨i, t, rfl, rfl⟩ | ⟨x, t, rfl, rfl⟩
  ·rcases aR hv with ⟨j, u, rfl, rfl⟩ | ⟨y, u, rfl, rfl⟩
   ·rw [vX] at h; exact wpAny_eqBool_int h
   ·rw [vZ] at h; exact SeqAt.EqAt.int_str i t y u _ _ _ _ h
  ·rcases aR hv with ⟨j, u, rfl, rfl⟩ | ⟨y, u, rfl, rfl⟩
   ·rw [v9] at h; exact SeqAt.EqAt.str_int x t j u _ _ _ _ h
   ·rw [vY] at h; exact wpAny_eqBool_str h
 «strs» := fun k x t v h => by
  rcases aR h with ⟨i, u, rfl, e⟩ | ⟨y, u, rfl, e⟩
  ·exact nomatch e
  ·injection e with e1 _
   subst e1
   cases v <;> rfl
end L2
namespace L2
open PySem PySem.Spec PyProof.Rows
inductive V where
 | non | bl (b : Bool) | int (i : Int) | str (x : Str) | byt (b : Array UInt8) | flt (b : UInt64) | ref (a : Addr) | ty (n : String)
 deriving DecidableEq
def RelV : V -> Value -> Prop
 | .non, u => u = Value.none
 | .bl b, u => u = Value.bool b
 | .int i, u => ∃ t, u = Value.int i t
 | .str x, u => ∃ t, u = Value.str x t
 | .byt b, u => ∃ t, u = Value.bytes b t
 | .flt b, u => ∃ t, u = Value.float b t
 | .ref a, u => u = Value.ref a
 | .ty n, u => u = Value.type n
abbrev Vals : List V -> List Value -> Prop := Paired RelV
theorem Vals.length {xs : List V} {us : List Value} (r : Vals xs us) : xs.length = us.length := Paired.length r
theorem Vals.get : ∀ {xs : List V} {us : List Value} {i : Nat} {x : V}, Vals xs us -> xs[i]? = some x -> ∃ u, us[i]? = some u /\ RelV x u
 | _, _, _, _, .nil, e => by simp at e
 | _, _, 0, _, .cons r _, e => by simp at e; subst e; exact ⟨_, rfl, r⟩
 | _, _, i + 1, x, .cons _ t, e => by
  obtain ⟨u, h1, h2⟩ := Vals.get (i := i) (x := x) t (by simpa using e)
  exact ⟨u, by simpa using h1, h2⟩
theorem Vals.set {x : V} {u : Value} (r : RelV x u) : ∀ {xs : List V} {us : List Value} (i : Nat), Vals xs us -> Vals (xs.set i x) (us.set i u)
 | _, _, _, .nil => .nil
 | _, _, 0, .cons _ t => .cons r t
 | _, _, i + 1, .cons q t => .cons q (Vals.set r i t)
theorem Vals.append : ∀ {xs ys : List V} {us ws : List Value}, Vals xs us -> Vals ys ws -> Vals (xs ++ ys) (us ++ ws)
 | _, _, _, _, .nil, s => s
 | _, _, _, _, .cons r t, s => .cons r (Vals.append t s)
theorem Vals.take : ∀ {xs : List V} {us : List Value} (n : Nat), Vals xs us -> Vals (xs.take n) (us.take n)
 | _, _, 0, _ => .nil
 | _, _, _ + 1, .nil => .nil
 | _, _, n + 1, .cons r t => .cons r (Vals.take n t)
theorem Vals.drop : ∀ {xs : List V} {us : List Value} (n : Nat), Vals xs us -> Vals (xs.drop n) (us.drop n)
 | _, _, 0, r => r
 | _, _, _ + 1, .nil => .nil
 | _, _, n + 1, .cons _ t => Vals.drop n t
def RelO : Option V -> Option Value -> Prop
 | some v, some u => RelV v u
 | none, none => True
 | _, _ => False
def KV {κ : Type} : List (κ × V) -> List (κ × Value) -> Prop := Paired fun (p : κ × V) (q : κ × Value) => p.1 = q.1 /\ RelV p.2 q.2
def kV : Key -> V
 | .inl i => .int i
 | .inr x => .str x
inductive HO where
 /-- a list -/
 | lst (xs : List V)
 /-- a tuple (never changes) -/
 | tup (xs : List V)
 /-- a dict whose keys are ints and texts; one whose keys are tuples of ints and texts (the empty one is both) -/
 | dK (kvs : List (Key × V)) | dT (kvs : List (List Key × V))
 /-- a set of ints: its members, its size -/
 | set (S : Int -> Bool) (n : Nat)
 /-- an instance of the class at C, its dict at dx, its attributes -/
 | ins (C dx : Addr) (fs : List (Str × V))
 /-- the dict of the instance at x -/
 | own (x : Addr)
 /-- the dict of an exception -/
 | xd (fs : List (Str × V))
 /-- a bound method, f of x -/
 | met (f x : Addr)
 /-- a range object lo, lo + 1, .. below hi -/
 | rng (lo hi : Int)
 /-- a thing that is known to the object (the script; a dict while a loop walks it): read, never written while it is so -/
 | frz (o : Obj) (u : HO)
 /-- a code object's table -/
 | tbl (ps : Array Value)
 /-- any other thing, by what is true of its one object (a def of one's own: SetO a S n := HO.ext fun h => ..) -/
 | ext (φ : Heap -> Prop)
abbrev Hp := Addr -> Option HO
def upd (H : Hp) (a : Addr) (o : HO) : Hp := fun b => if b = a then some o else H b
theorem aq {H : Hp} {a : Addr} {o : HO} : upd H a o a = some o := by unfold upd; rw [if_pos rfl]
theorem ao {H : Hp} {a b : Addr} {o : HO} (h : b ≠ a) : upd H a o b = H b := by unfold upd; rw [if_neg h]
theorem au {H : Hp} {a b : Addr} {o : HO} (h : H a = some o) (h' : H b = none) : a ≠ b := by
 intro e; subst e; rw [h] at h'; cases h'
section
variable (P : Program) (w : World)
def ObjOk (H : Hp) (h : Heap) (a : Addr) : HO -> Prop
 | .lst xs => xs.length <= sizeLine /\ ∃ (its : List Value) (n : Nat), Vals xs its /\ h.get? a = some { cls := .type "list", data := .seq its.toArray n }
 | .tup xs => xs.length <= sizeLine /\ ∃ its : List Value, Vals xs its /\ IsTup h a its.toArray
 | .dK kvs => kvs.length <= sizeLine /\ (a == sysModules) = false /\ ∃ vs, KV kvs vs /\ h.DictOf (i6 P w) a vs
 | .dT kvs => kvs.length <= sizeLine /\ (a == sysModules) = false /\ ∃ xs : List (List Key × Addr × Value),
   Paired (fun (p : List Key × V) (q : List Key × Addr × Value) => p.1 = q.1 /\ H q.2.1 = some (.tup (p.1.map kV)) /\ RelV p.2 q.2.2) kvs xs /\
   ∃ o es ep, h.get? a = some o /\ o.ExactDict /\ o.data = .dict es ep /\ es.toList = xs.map (entryOfKey (tupleKind (i6 P w))) /\ (xs.map (·.1)).Nodup
 | .set S n => h.SetOf (intKind P w) a S n
 | .ins C dx fs => H dx = some (.own a) /\ fs.length <= 1000 /\ dx ≠ a /\ h.get? a = some (PySem.W.instObj C dx) /\
   ∃ mA, h.Ns1 dx mA /\ (∀ f, RelO (fs.lookup f) (mA f)) /\ PySem.Within mA (fs.map (·.1))
 | .own _ => ∃ o, h.get? a = some o
 | .xd fs => ∃ mA, h.Ns1 a mA /\ ∀ f, RelO (fs.lookup f) (mA f)
 | .rng lo hi => ∃ t u v, h.get? a = some { cls := .type "range", data := .fields #[.int lo t, .int hi u, .int 1 v] }
 | .frz o u => h.get? a = some o /\ ObjOk H h a u
 | .tbl ps => ∃ qs, h.get? a = some { cls := .none, data := .fields qs } /\ TriplesOk qs.toList /\ ∀ pos cv, codeAmong pos qs.toList = some cv -> ∃ c q t, cv = .ref c /\ H c = some (.own a) /\ ps[0]? = some (.str q t) /\ h.CodeRec cv q
 | .met f x => h.get? a = some (PySem.W.methodObj (.ref f) (.ref x))
 | .ext φ => φ h /\ (∃ o, h.get? a = some o) /\ ∀ h1 h2 : Heap, φ h1 -> (∀ o, h1.get? a = some o -> h2.get? a = some o) -> φ h2
def HOk (H : Hp) (h : Heap) : Prop := ∀ a o, H a = some o -> ObjOk P w H h a o
end
section
variable {P : Program} {w : World} {H H' : Hp} {h h' : Heap} {a : Addr} {o : HO}
theorem ObjOk.lt (x : ObjOk P w H h a o) : a < h.objs.size := by
 cases o with
 | lst xs => obtain ⟨_, _, _, _, e⟩ := x; exact Heap.lt_size e
 | tup xs => obtain ⟨_, _, _, p⟩ := x; exact p.lt
 | dK kvs => obtain ⟨_, _, _, _, o, _, _, e, _⟩ := x; exact Heap.lt_size e
 | dT kvs => obtain ⟨_, _, _, _, o, _, _, e, _⟩ := x; exact Heap.lt_size e
 | set S n => obtain ⟨o, _, _, _, e, _⟩ := x; exact Heap.lt_size e
 | ins C dx fs => obtain ⟨_, _, _, e, _⟩ := x; exact Heap.lt_size e
 | own y => obtain ⟨_, e⟩ := x; exact Heap.lt_size e
 | xd fs => obtain ⟨_, ⟨_, _, _, e, _⟩, _⟩ := x; exact Heap.lt_size e
 | rng lo hi => obtain ⟨_, _, _, e⟩ := x; exact Heap.lt_size e
 | frz ob u => obtain ⟨e, _⟩ := x; exact Heap.lt_size e
 | tbl ps => obtain ⟨_, e, _⟩ := x; exact Heap.lt_size e
 | met f y => exact Heap.lt_size (show h.get? a = some _ from x)
 | ext φ => obtain ⟨_, ⟨_, e⟩, _⟩ := x; exact Heap.lt_size e
theorem Paired.mapP {α β : Type} {F G : α -> β -> Prop} : ∀ {l₁ : List α} {l₂ : List β}, Paired F l₁ l₂ -> (∀ a b, F a b -> G a b) -> Paired G l₁ l₂
 | _, _, .nil, _ => .nil
 | _, _, .cons r t, f => .cons (f _ _ r) (Paired.mapP t f)
theorem ObjOk.stay (x : ObjOk P w H h a o) (k : ∀ b u, (b = a \/ H b = some (.own a)) -> h.get? b = some u -> h'.get? b = some u)
  (ho : ∀ b, H b = some (.own a) -> H' b = some (.own a)) (ht : ∀ b xs, H b = some (.tup xs) -> H' b = some (.tup xs)) : ObjOk P w H' h' a o := by
 induction o with
 | lst xs => obtain ⟨z, its, n, r, e⟩ := x; exact ⟨z, its, n, r, k _ _ (.inl rfl) e⟩
 | tup xs => obtain ⟨z, its, r, ob, e, c⟩ := x; exact ⟨z, its, r, ob, k _ _ (.inl rfl) e, c⟩
 | dK kvs => obtain ⟨z, y, vs, r, ob, es, ep, e, c⟩ := x; exact ⟨z, y, vs, r, ob, es, ep, k _ _ (.inl rfl) e, c⟩
 | dT kvs =>
  obtain ⟨z, y, xs, r, ob, es, ep, e, c⟩ := x
  exact ⟨z, y, xs, Paired.mapP r fun p q z => ⟨z.1, ht _ _ z.2.1, z.2.2⟩, ob, es, ep, k _ _ (.inl rfl) e, c⟩
 | set S n => obtain ⟨ob, es, ep, t, e, c⟩ := x; exact ⟨ob, es, ep, t, k _ _ (.inl rfl) e, c⟩
 | ins C dx fs =>
  obtain ⟨d, z, ne, e, mA, ⟨od, es, ep, e2, c⟩, r⟩ := x
  exact ⟨ho _ d, z, ne, k _ _ (.inl rfl) e, mA, ⟨od, es, ep, k _ _ (.inr d) e2, c⟩, r⟩
 | own y => obtain ⟨ob, e⟩ := x; exact ⟨ob, k _ _ (.inl rfl) e⟩
 | xd fs => obtain ⟨mA, ⟨od, es, ep, e, c⟩, r⟩ := x; exact ⟨mA, ⟨od, es, ep, k _ _ (.inl rfl) e, c⟩, r⟩
 | rng lo hi => obtain ⟨t, u, v, e⟩ := x; exact ⟨t, u, v, k _ _ (.inl rfl) e⟩
 | frz ob u ih => obtain ⟨e, q⟩ := x; exact ⟨k _ _ (.inl rfl) e, ih q⟩
 | tbl ps =>
  obtain ⟨qs, e, t, f⟩ := x
  refine ⟨qs, k _ _ (.inl rfl) e, t, fun pos cv hc => ?_⟩
  obtain ⟨c, q, tk, rfl, ho', hq, c2, oc, vs, tq, ec, e1, r⟩ := f pos cv hc
  cases ec
  exact ⟨c, q, tk, rfl, ho _ ho', hq, c, oc, vs, tq, rfl, k _ _ (.inr ho') e1, r⟩
 | met f y =>
  have e : h.get? a = some (PySem.W.methodObj (.ref f) (.ref y)) := x
  show h'.get? a = some (PySem.W.methodObj (.ref f) (.ref y))
  exact k a _ (.inl rfl) e
 | ext φ => obtain ⟨p, ⟨o, e⟩, st⟩ := x; exact ⟨st _ _ p fun o q => k _ _ (.inl rfl) q, ⟨o, k _ _ (.inl rfl) e⟩, st⟩
theorem HOk.lt (x : HOk P w H h) (e : H a = some o) : a < h.objs.size := (x a o e).lt
theorem HOk.fresh (x : HOk P w H h) (e : h.objs.size <= a) : H a = none := by
 cases q : H a with
 | none => rfl
 | some u => exact absurd (Nat.lt_of_lt_of_le (x.lt q) e) (Nat.lt_irrefl _)
theorem HOk.kept (x : HOk P w H h) (k : ∀ b u, h.get? b = some u -> h'.get? b = some u) : HOk P w H h' := fun a o e =>
 (x a o e).stay (fun b u _ q => k b u q) (fun _ q => q) fun _ _ q => q
theorem HOk.laid (x : HOk P w H h) (k : ∀ b u, h.get? b = some u -> h'.get? b = some u) (hp : h.objs.size <= a) (new : ObjOk P w (upd H a o) h' a o) : HOk P w (upd H a o) h' := fun b u e => by
 have hn := x.fresh hp
 by_cases hb : b = a
 ·subst hb; rw [aq] at e; cases e; exact new
 ·rw [ao hb] at e
  exact (x b u e).stay (fun c v _ q => k c v q) (fun c q => by rw [ao (au q hn)]; exact q) fun c xs q => by rw [ao (au q hn)]; exact q
end
def Rd (H : Hp) (a : Addr) (u : HO) : Prop := H a = some u \/ ∃ o, H a = some (.frz o u)
theorem Rd.ok {P : Program} {w : World} {H : Hp} {h : Heap} {a : Addr} {u : HO} (r : Rd H a u) (x : HOk P w H h) : ObjOk P w H h a u := by
 rcases r with r | ⟨o, r⟩
 ·exact x a u r
 ·obtain ⟨_, q⟩ := x a _ r
  exact q
def Mut : Option HO -> Prop
 | some (.lst _) => True
 | some (.dK _) => True
 | some (.dT _) => True
 | some (.set _ _) => True
 | some (.ins _ _ _) => True
 | some (.ext _) => True
 | _ => False
section
variable {P : Program} {w : World} {H : Hp} {h h' : Heap} {x e : Addr} {o' : HO}
theorem HOk.write (ok : HOk P w H h) (mu : Mut (H x)) (he : e = x \/ H e = some (.own x)) (k : ∀ b u, b ≠ e -> h.get? b = some u -> h'.get? b = some u) (heo : ∃ u, h'.get? e = some u)
  (new : ObjOk P w (upd H x o') h' x o') : HOk P w (upd H x o') h' := fun b u q => by
 have nown : ∀ c y, H c = some (.own y) -> c ≠ x := fun c y r z => by subst z; rw [r] at mu; exact mu
 have ntup : ∀ c xs, H c = some (.tup xs) -> c ≠ x := fun c xs r z => by subst z; rw [r] at mu; exact mu
 by_cases hb : b = x
 ·subst hb; rw [aq] at q; cases q; exact new
 ·rw [ao hb] at q
  by_cases hbe : b = e
  ·have q' : H b = some (.own x) := by
    rcases he with z | z
    ·exact absurd (hbe.trans z) hb
    ·rw [hbe]; exact z
   rw [q] at q'; cases q'
   obtain ⟨v, hv⟩ := heo
   exact ⟨v, by rw [hbe]; exact hv⟩
  ·refine (ok b u q).stay (fun c v hc r => k c v ?_ r) (fun c r => by rw [ao (nown c b r)]; exact r) fun c xs r => by rw [ao (ntup c xs r)]; exact r
   rcases hc with rfl | hc
   ·exact hbe
   ·rintro rfl
    rcases he with z | z
    ·exact nown c b hc z
    ·rw [hc] at z; cases z; exact hb rfl
end
structure Un (fs ex : List Addr) (H H' : Hp) (h h' : Heap) : Prop where
 keep : ∀ b o, h.get? b = some o -> H b = none -> b ∉ fs -> b ∉ ex -> h'.get? b = some o
 slot : ∀ b o, h.get? b = some o -> H b = none -> b ∈ fs -> b ∉ ex -> ∃ sl, h'.get? b = some { o with slots := sl }
 free : ∀ b o, h.get? b = some o -> H b = none -> b ∉ ex -> H' b = none
 there : ∀ b o, h.get? b = some o -> b ∉ ex -> ∃ o', h'.get? b = some o'
 tups : ∀ b xs, H b = some (.tup xs) -> H' b = some (.tup xs)
 frzs : ∀ b o u, H b = some (.frz o u) -> H' b = some (.frz o u)
 tbls : ∀ b ps, H b = some (.tbl ps) -> ∃ more, H' b = some (.tbl (ps ++ more))
section
variable {fs fs' ex ex' : List Addr} {H H1 H2 : Hp} {h h1 h2 h' : Heap} {a x e : Addr} {o : HO}
theorem Un.any (u : Un fs ex H H1 h h1) {b : Addr} {ob : Obj} (q : h.get? b = some ob) (n : H b = none) (hx : b ∉ ex) : ∃ sl, h1.get? b = some { ob with slots := sl } := by
 by_cases hb : b ∈ fs
 ·exact u.slot b ob q n hb hx
 ·exact ⟨ob.slots, u.keep b ob q n hb hx⟩
theorem Un.trans (a : Un fs ex H H1 h h1) (b : Un fs ex H1 H2 h1 h2) : Un fs ex H H2 h h2 where
 keep := fun c ob q n hc hx => b.keep c ob (a.keep c ob q n hc hx) (a.free c ob q n hx) hc hx
 slot := fun c ob q n hc hx => by
  obtain ⟨sl, e1⟩ := a.slot c ob q n hc hx
  obtain ⟨sl', e2⟩ := b.slot c _ e1 (a.free c ob q n hx) hc hx
  exact ⟨sl', e2⟩
 free := fun c ob q n hx => by
  obtain ⟨o', e1⟩ := a.there c ob q hx
  exact b.free c o' e1 (a.free c ob q n hx) hx
 there := fun c ob q hx => by
  obtain ⟨o', e1⟩ := a.there c ob q hx
  exact b.there c o' e1 hx
 tups := fun c xs q => b.tups c xs (a.tups c xs q)
 frzs := fun c ob xs q => b.frzs c ob xs (a.frzs c ob xs q)
 tbls := fun c ps q => by
  obtain ⟨m1, e1⟩ := a.tbls c ps q
  obtain ⟨m2, e2⟩ := b.tbls c _ e1
  exact ⟨m1 ++ m2, by rw [e2, Array.append_assoc]⟩
theorem Un.kept (k : ∀ b u, h.get? b = some u -> h'.get? b = some u) : Un fs ex H H h h' :=
 ⟨fun b ob q _ _ _ => k b ob q, fun b ob q _ _ _ => ⟨ob.slots, k b ob q⟩, fun _ _ _ n _ => n, fun b ob q _ => ⟨ob, k b ob q⟩, fun _ _ q => q, fun _ _ _ q => q, fun _ ps q => ⟨#[], by rw [q]; simp⟩⟩
theorem Un.refl : Un fs ex H H h h := Un.kept fun _ _ q => q
theorem Un.laid (k : ∀ b u, h.get? b = some u -> h'.get? b = some u) (hp : h.objs.size <= a) (hn : H a = none) : Un fs ex H (upd H a o) h h' where
 keep := fun b u q _ _ _ => k b u q
 slot := fun b u q _ _ _ => ⟨u.slots, k b u q⟩
 free := fun b u q n _ => by rw [ao (Nat.ne_of_lt (Nat.lt_of_lt_of_le (Heap.lt_size q) hp))]; exact n
 there := fun b u q _ => ⟨u, k b u q⟩
 tups := fun b xs q => by rw [ao (au q hn)]; exact q
 frzs := fun b u xs q => by rw [ao (au q hn)]; exact q
 tbls := fun b ps q => ⟨#[], by rw [ao (au q hn), q]; simp⟩
theorem Un.write (mu : Mut (H x)) (he : e = x \/ H e = some (.own x)) (k : ∀ b u, b ≠ e -> h.get? b = some u -> h'.get? b = some u) (heo : ∃ u, h'.get? e = some u) : Un fs ex H (upd H x o) h h' := by
 have hx : ∀ b, H b = none -> b ≠ x := fun b n z => by subst z; rw [n] at mu; exact mu
 have hb : ∀ b, H b = none -> b ≠ e := fun b n z => by
  subst z
  rcases he with r | r
  ·exact hx b n r
  ·rw [n] at r; cases r
 have hm : ∀ b u, H b = some u -> ¬ Mut (some u) -> b ≠ x := fun b u q nm z => by subst z; rw [q] at mu; exact nm mu
 refine ⟨fun b u q n _ _ => k b u (hb b n) q, fun b u q n _ _ => ⟨u.slots, k b u (hb b n) q⟩, fun b u q n _ => by rw [ao (hx b n)]; exact n, fun b u q _ => ?_,
  fun b xs q => by rw [ao (hm b _ q fun z => z)]; exact q, fun b u xs q => by rw [ao (hm b _ q fun z => z)]; exact q, fun b ps q => ⟨#[], by rw [ao (hm b _ q fun z => z), q]; simp⟩⟩
 by_cases hbe : b = e
 ·subst hbe; exact heo
 ·exact ⟨u, k b u hbe q⟩
end
def trk (h : Heap) (H : Hp) : List Addr := (List.range h.objs.size).filter fun a => (H a).isSome
def i7 (h : Heap) (H : Hp) : Heap := PySem.W.hideAll h (trk h H)
theorem mY (h : Heap) (H : Hp) : (i7 h H).objs.size = h.objs.size := PySem.W.hideAll_size _ _
theorem gi {h : Heap} {H : Hp} {b : Addr} {o : Obj} (e : h.get? b = some o) (n : H b = none) : (i7 h H).get? b = some o :=
 PySem.W.hideAll_get _ e fun hm => by
  have q : (H b).isSome = true := (List.mem_filter.mp hm).2
  rw [n] at q; simp at q
theorem rN {h : Heap} {H : Hp} {b : Addr} {o : Obj} (e : (i7 h H).get? b = some o) : h.get? b = some o /\ H b = none := by
 have e' : h.get? b = some o := PySem.W.of_hideAll (trk h H) e
 refine ⟨e', ?_⟩
 cases q : H b with
 | none => rfl
 | some x =>
  have hm : b ∈ trk h H := List.mem_filter.mpr ⟨List.mem_range.mpr (Heap.lt_size e'), by simp [q]⟩
  have z : (i7 h H).get? b = none := PySem.W.hideAll_none (trk h H) hm
  rw [z] at e; cases e
def bG (g h : Heap) (L : Addr) : List (Addr × Obj) := (List.range h.objs.size).filterMap fun a => if a = L \/ (g.get? a).isSome = true then none else (h.get? a).map fun o => (a, o)
theorem cZ {g h : Heap} {L a : Addr} {o : Obj} (h1 : a ≠ L) (h2 : g.get? a = none) (h3 : h.get? a = some o) : (a, o) ∈ bG g h L :=
 List.mem_filterMap.mpr ⟨a, List.mem_range.mpr (Heap.lt_size h3), by simp [h1, h2, h3]⟩
theorem gj {g h : Heap} {L : Addr} {p : Addr × Obj} (hp : p ∈ bG g h L) : p.1 ≠ L /\ g.get? p.1 = none /\ h.get? p.1 = some p.2 := by
 obtain ⟨b, _, e⟩ := List.mem_filterMap.mp hp
 split at e
 ·cases e
 ·rename_i hn
  cases q : h.get? b with
  | none => rw [q] at e; simp at e
  | some u =>
   rw [q] at e
   simp only [Option.map_some, Option.some.injEq] at e
   subst e
   refine ⟨fun z => hn (.inl z), ?_, q⟩
   show g.get? b = none
   cases r : g.get? b with
   | none => rfl
   | some v => exact (hn (.inr (by simp [r]))).elim
theorem gk {g h : Heap} {L : Addr} : News g L h (bG g h L) := fun p hp => let ⟨a, b, c⟩ := gj hp; ⟨c, a, b⟩
end L2
namespace L2
open PySem PySem.Spec PyProof.Rows
structure Mod (K : PySem.W.Frag) (mg : Str -> Option Value) (base : Heap) : Prop where
 kin : K.In base
 glob : base.Ns mainGlobals mg
 blt : ∃ mb, base.Ns builtinsNs mb /\ ∀ x : Str, x ≠ "__name__" -> mb x = bootBuiltins x
 nolimit : base.NoLimit
structure Cx where
 prog : Program
 w : World
 K : PySem.W.Frag
 mg : Str -> Option Value
 base : Heap
 A : Around
 N : List Str
 s₀ : Shared
 H₀ : Hp
 env : Env
 outer : List Env
 stack : List Env
 ex : List Addr
 fn : Str -> Bool
 calm : Bool
 pn : List (Addr × Obj)
 xe : Value -> Shared -> Prop
def frs (l : List Env) : List Addr := l.filterMap (·.frame)
abbrev Cx.fs (X : Cx) : List Addr := frs X.outer
def Vis (sc : Scope) (x : Str) : Prop := sc.names.lookup x = some .local \/ sc.names.lookup x = some .cell \/ sc.names.lookup x = some .free
def Loc (sc : Scope) (x : Str) : Prop := sc.names.lookup x = some .local \/ sc.names.lookup x = some .cell
def Look (env : Env) (h : Heap) (m : Str -> Option Value) (x : Str) (u : Value) : Prop :=
 (env.kindOf x = some .local /\ m x = some u) \/ ((env.kindOf x = some .cell \/ env.kindOf x = some .free) /\ ∃ c, env.cells.lookup x = some c /\ h.IsCell c (some u))
structure Cx.Ok (X : Cx) : Prop where
 mod : Mod X.K X.mg X.base
 kind : X.env.scope.kind = .function
 glob : X.env.globals = mainGlobals
 blt : X.env.builtins = builtinsNs
 above : X.s₀.heap.objs.size <= X.env.locals
 inj : ∀ x y c, X.env.cells.lookup x = some c -> X.env.cells.lookup y = some c -> x = y
 has : ∀ x, (X.env.kindOf x = some .cell \/ X.env.kindOf x = some .free) -> ∃ c, X.env.cells.lookup x = some c
 cab : ∀ x c, X.fn x = true -> X.env.cells.lookup x = some c -> X.s₀.heap.objs.size <= c
 hd : X.calm = true -> X.A.handled = none
 frames : X.A.frames = some X.stack
 stk : X.stack = X.outer \/ (X.stack = X.env :: X.outer /\ X.env.frame = some X.env.locals)
 exf : ∀ b ∈ X.ex, b ≠ X.env.locals /\ ∀ x c, X.env.cells.lookup x = some c -> c ≠ b
 bs : ∀ b o, X.base.get? b = some o -> X.s₀.heap.get? b = some o /\ X.H₀ b = none
 bsz : X.base.objs.size <= X.s₀.heap.objs.size
 noex : ∀ b o, X.base.get? b = some o -> b ∉ X.ex
 exfs : ∀ b ∈ X.ex, b ∉ X.fs
 funs : X.s₀.heap.FunFrames X.base X.outer
 frf : ∀ b ∈ X.fs, X.H₀ b = none
structure Inv (X : Cx) (pins : List (Addr × Obj)) (σ : List (Option V)) (H : Hp) (s : Shared) : Prop where
 ok : X.Ok
 os : s.os = X.s₀.os
 bare : AllBare s.gens
 base : Un X.fs X.ex X.H₀ H X.s₀.heap s.heap
 loc : ∃ m, s.heap.Ns X.env.locals m /\ ∀ (i : Nat) (x : Str) (v : V), X.N[i]? = some x -> σ[i]? = some (some v) -> Vis X.env.scope x -> ∃ u, RelV v u /\ Look X.env s.heap m x u
 cell : ∀ x c, X.env.cells.lookup x = some c -> ∃ v, s.heap.IsCell c v
 free : H X.env.locals = none
 freeC : ∀ x c, X.env.cells.lookup x = some c -> H c = none
 pin : ∀ p ∈ X.pn ++ pins, s.heap.get? p.1 = some p.2 /\ H p.1 = none /\ p.1 ≠ X.env.locals /\ p.1 ∉ X.fs /\ ∀ v, p.2.data ≠ .cell v
 hok : HOk X.prog X.w H s.heap
 len : σ.length = X.N.length
section
variable {X : Cx} {pins : List (Addr × Obj)} {σ : List (Option V)} {H H' : Hp} {s : Shared} {h' : Heap}
theorem Cx.Ok.nofr (ok : X.Ok) {b : Addr} {o : Obj} (e : X.base.get? b = some o) : b ∉ X.fs := fun hb => by
 have := (ok.funs.mem hb).1
 rw [e] at this; cases this
theorem Inv.bs (I : Inv X pins σ H s) : ∀ b o, X.base.get? b = some o -> s.heap.get? b = some o /\ H b = none := fun b o e =>
 ⟨I.base.keep b o (I.ok.bs b o e).1 (I.ok.bs b o e).2 (I.ok.nofr e) (I.ok.noex b o e), I.base.free b o (I.ok.bs b o e).1 (I.ok.bs b o e).2 (I.ok.noex b o e)⟩
theorem Inv.bk (I : Inv X pins σ H s) : ∀ b o, X.base.get? b = some o -> s.heap.get? b = some o := fun b o e => (I.bs b o e).1
theorem Inv.mod (I : Inv X pins σ H s) : Mod X.K X.mg X.base := I.ok.mod
theorem Inv.kIn (I : Inv X pins σ H s) : X.K.In s.heap := I.ok.mod.kin.keeps I.bk
theorem Inv.fr (I : Inv X pins σ H s) : ∃ m, Fr X.base X.env.locals s.heap m :=
 let ⟨m, hn, _⟩ := I.loc
 ⟨m, hn, I.bk, Nat.le_trans I.ok.bsz I.ok.above⟩
theorem Inv.lt (I : Inv X pins σ H s) : X.env.locals < s.heap.objs.size := let ⟨_, hn, _⟩ := I.loc; hn.lt
theorem Inv.sz (I : Inv X pins σ H s) : X.s₀.heap.objs.size <= s.heap.objs.size := Nat.le_trans I.ok.above (Nat.le_of_lt I.lt)
theorem Inv.nofs (I : Inv X pins σ H s) {a : Addr} (h : s.heap.objs.size <= a) : a ∉ X.fs := fun hb => by
 obtain ⟨_, o, ho, _⟩ := I.ok.funs.mem hb
 exact absurd (Nat.lt_of_lt_of_le (Heap.lt_size ho) (Nat.le_trans I.sz h)) (Nat.lt_irrefl _)
theorem Inv.cne (I : Inv X pins σ H s) : ∀ x c, X.env.cells.lookup x = some c -> c ≠ X.env.locals := fun x c e z => by
 obtain ⟨v, o, ho, hd⟩ := I.cell x c e
 obtain ⟨m, ⟨o', es, ep, ho', hd', _⟩, _⟩ := I.loc
 rw [z, ho'] at ho; cases ho; rw [hd'] at hd; cases hd
theorem Inv.funs (I : Inv X pins σ H s) : s.heap.FunFrames X.base X.outer := by
 have all : ∀ (l : List Env), (∀ b ∈ frs l, b ∈ X.fs) -> X.s₀.heap.FunFrames X.base l -> s.heap.FunFrames X.base l := by
  intro l
  induction l with
  | nil => intro _ _; trivial
  | cons env r ih =>
   intro hs hl
   obtain ⟨hk, ⟨L, o, hf, hn, ho, hd⟩, hr⟩ := hl
   have hL : L ∈ X.fs := hs L (by unfold frs; rw [List.filterMap_cons, hf]; exact List.mem_cons_self)
   obtain ⟨sl, e⟩ := I.base.slot L o ho (I.ok.frf L hL) hL fun z => I.ok.exfs L z hL
   exact ⟨hk, ⟨L, _, hf, hn, e, hd⟩, ih (fun b hb => hs b (by unfold frs; rw [List.filterMap_cons, hf]; exact List.mem_cons_of_mem _ hb)) hr⟩
 exact all X.outer (fun _ hb => hb) I.ok.funs
theorem Inv.stack (I : Inv X pins σ H s) : s.heap.FunFrames X.base X.stack := by
 rcases I.ok.stk with e | ⟨e, hf⟩
 ·rw [e]; exact I.funs
 ·rw [e]
  obtain ⟨m, hn, _⟩ := I.loc
  refine .cons (by rw [I.ok.kind]; decide) hf hn ?_ I.funs
  exact Heap.get?_none_of_le (Nat.le_trans I.ok.bsz I.ok.above)
theorem Inv.stkSub (I : Inv X pins σ H s) : ∀ b ∈ frs X.stack, b ∈ X.env.locals :: X.fs := fun b hb => by
 rcases I.ok.stk with e | ⟨e, hf⟩
 ·rw [e] at hb; exact List.mem_cons_of_mem _ hb
 ·rw [e] at hb
  unfold frs at hb
  rw [List.filterMap_cons, hf] at hb
  exact hb
theorem Inv.stkFree (I : Inv X pins σ H s) : ∀ b ∈ frs X.stack, H b = none := fun b hb => by
 rcases List.mem_cons.mp (I.stkSub b hb) with e | hb
 ·rw [e]; exact I.free
 ·obtain ⟨_, o, ho, _⟩ := I.ok.funs.mem hb
  exact I.base.free b o ho (I.ok.frf b hb) fun z => I.ok.exfs b z hb
theorem Inv.step {g' : Array GenState} {t' : Nat} {d' : Drawn} {ch : List Addr} (I : Inv X pins σ H s)
  (hch : ∀ b ∈ ch, (b ∈ X.ex \/ X.s₀.heap.objs.size <= b) /\ b ≠ X.env.locals /\ (∀ x c, X.env.cells.lookup x = some c -> c ≠ b) /\ ∀ p ∈ X.pn ++ pins, p.1 ≠ b)
  (keep : ∀ b o, b ≠ X.env.locals -> b ∉ X.fs -> b ∉ ch -> s.heap.get? b = some o -> H b = none -> h'.get? b = some o)
  (slot : ∀ b o, b ≠ X.env.locals -> b ∈ X.fs -> b ∉ ch -> s.heap.get? b = some o -> H b = none -> ∃ sl, h'.get? b = some { o with slots := sl }) (free : ∀ b o, b ∉ ch -> s.heap.get? b = some o -> H b = none -> H' b = none)
  (there : ∀ b o, b ∉ ch -> s.heap.get? b = some o -> ∃ o', h'.get? b = some o')
  (tups : ∀ b xs, H b = some (.tup xs) -> H' b = some (.tup xs)) (frzs : ∀ b o u, H b = some (.frz o u) -> H' b = some (.frz o u)) (tbls : ∀ b ps, H b = some (.tbl ps) -> ∃ more, H' b = some (.tbl (ps ++ more)))
  (ns : ∀ m, s.heap.Ns X.env.locals m -> h'.Ns X.env.locals m) (hok : HOk X.prog X.w H' h') (hg : AllBare g') :
  Inv X pins σ H' { s with heap := h', gens := g', drawn := d', toks := t' } := by
 have neL : ∀ b o, X.s₀.heap.get? b = some o -> b ≠ X.env.locals := fun b o e => Nat.ne_of_lt (Nat.lt_of_lt_of_le (Heap.lt_size e) I.ok.above)
 have neC : ∀ b o, X.s₀.heap.get? b = some o -> b ∉ X.ex -> b ∉ ch := fun b o e hx hb => by
  rcases (hch b hb).1 with z | z
  ·exact hx z
  ·exact absurd (Nat.lt_of_lt_of_le (Heap.lt_size e) z) (Nat.lt_irrefl _)
 have cellK : ∀ x c, X.env.cells.lookup x = some c -> ∀ v, s.heap.IsCell c v -> h'.IsCell c v := fun x c e v ⟨o, ho, hd⟩ => by
  have nch : c ∉ ch := fun z => (hch c z).2.2.1 x c e rfl
  by_cases hc : c ∈ X.fs
  ·obtain ⟨sl, q⟩ := slot c o (I.cne x c e) hc nch ho (I.freeC x c e)
   exact ⟨_, q, hd⟩
  ·exact ⟨o, keep c o (I.cne x c e) hc nch ho (I.freeC x c e), hd⟩
 refine ⟨I.ok, I.os, hg, ⟨fun b o e n hb hx => ?_, fun b o e n hb hx => ?_, fun b o e n hx => ?_, fun b o e hx => ?_, fun b xs e => tups b xs (I.base.tups b xs e), fun b o xs e => frzs b o xs (I.base.frzs b o xs e), fun b ps e => ?_⟩, ?_, fun x c e => ?_, ?_, fun x c e => ?_, fun p hp => ?_, hok, I.len⟩
 ·exact keep b o (neL b o e) hb (neC b o e hx) (I.base.keep b o e n hb hx) (I.base.free b o e n hx)
 ·obtain ⟨sl, e1⟩ := I.base.slot b o e n hb hx
  obtain ⟨sl', e2⟩ := slot b _ (neL b o e) hb (neC b o e hx) e1 (I.base.free b o e n hx)
  exact ⟨sl', e2⟩
 ·obtain ⟨o', e1⟩ := I.base.there b o e hx
  exact free b o' (neC b o e hx) e1 (I.base.free b o e n hx)
 ·obtain ⟨o', e1⟩ := I.base.there b o e hx
  exact there b o' (neC b o e hx) e1
 ·obtain ⟨m1, e1⟩ := I.base.tbls b ps e
  obtain ⟨m2, e2⟩ := tbls b _ e1
  exact ⟨m1 ++ m2, by rw [e2, Array.append_assoc]⟩
 ·obtain ⟨m, hn, hl⟩ := I.loc
  refine ⟨m, ns m hn, fun i x v e1 e2 e3 => ?_⟩
  obtain ⟨u, r, l⟩ := hl i x v e1 e2 e3
  refine ⟨u, r, ?_⟩
  rcases l with l | ⟨k, c, e, z⟩
  ·exact .inl l
  ·exact .inr ⟨k, c, e, cellK x c e _ z⟩
 ·obtain ⟨v, z⟩ := I.cell x c e
  exact ⟨v, cellK x c e v z⟩
 ·obtain ⟨m, ⟨o, _, _, ho, _⟩, _⟩ := I.loc
  exact free _ o (fun z => (hch _ z).2.1 rfl) ho I.free
 ·obtain ⟨v, o, ho, hd⟩ := I.cell x c e
  exact free c o (fun z => (hch c z).2.2.1 x c e rfl) ho (I.freeC x c e)
 ·obtain ⟨e, n, ne, nf, d⟩ := I.pin p hp
  have nch : p.1 ∉ ch := fun z => (hch p.1 z).2.2.2 p hp rfl
  exact ⟨keep p.1 p.2 ne nf nch e n, free p.1 p.2 nch e n, ne, nf, d⟩
theorem Inv.un {t' : Nat} (I : Inv X pins σ H s) (u : Un X.fs [] H H' s.heap h') (hok : HOk X.prog X.w H' h') : Inv X pins σ H' { s with heap := h', toks := t' } := by
 obtain ⟨m, ⟨o, es, ep, ho, r⟩, _⟩ := id I.loc
 obtain ⟨sl, hL⟩ := u.any ho I.free (by simp)
 exact I.step (g' := s.gens) (d' := s.drawn) (ch := []) (fun _ z => nomatch z) (fun b o _ hb _ e n => u.keep b o e n hb (by simp)) (fun b o _ hb _ e n => u.slot b o e n hb (by simp)) (fun b o _ e n => u.free b o e n (by simp)) (fun b o _ e => u.there b o e (by simp)) u.tups u.frzs u.tbls (fun m' hm => by
  obtain ⟨o', es', ep', ho', r'⟩ := hm
  rw [ho] at ho'; cases ho'
  exact ⟨_, es', ep', hL, r'⟩) hok I.bare
theorem Inv.call {g' : Array GenState} {t' : Nat} {d' : Drawn} {ch : List Addr} (I : Inv X pins σ H s) (u : Un (frs X.stack) ch H H' s.heap h') (hok : HOk X.prog X.w H' h') (hg : AllBare g')
  (hch : ∀ b ∈ ch, (b ∈ X.ex \/ X.s₀.heap.objs.size <= b) /\ b ≠ X.env.locals /\ (∀ x c, X.env.cells.lookup x = some c -> c ≠ b) /\ ∀ p ∈ X.pn ++ pins, p.1 ≠ b) :
  Inv X pins σ H' { s with heap := h', gens := g', drawn := d', toks := t' } := by
 obtain ⟨m, ⟨o, es, ep, ho, r⟩, _⟩ := id I.loc
 obtain ⟨sl, hL⟩ := u.any ho I.free fun z => (hch _ z).2.1 rfl
 exact I.step (ch := ch) hch (fun b o hL hb hc e n => u.keep b o e n (fun z => (List.mem_cons.mp (I.stkSub b z)).elim hL hb) hc) (fun b o _ _ hc e n => u.any e n hc) (fun b o hc e n => u.free b o e n hc) (fun b o hc e => u.there b o e hc) u.tups u.frzs u.tbls (fun m' hm => by
  obtain ⟨o', es', ep', ho', r'⟩ := hm
  rw [ho] at ho'; cases ho'
  exact ⟨_, es', ep', hL, r'⟩) hok hg
theorem Inv.turned {t' : Nat} {it : Addr} (I : Inv X pins σ H s) (k : ∀ b o, b ≠ it -> s.heap.get? b = some o -> h'.get? b = some o) (hn : H it = none) (hL : it ≠ X.env.locals)
  (h1 : it ∈ X.ex \/ X.s₀.heap.objs.size <= it) (h2 : ∀ x c, X.env.cells.lookup x = some c -> c ≠ it) (h3 : ∀ p ∈ X.pn ++ pins, p.1 ≠ it) : Inv X pins σ H { s with heap := h', toks := t' } := by
 have nit : ∀ b u, H b = some u -> b ≠ it := fun b u e z => by rw [z, hn] at e; cases e
 refine I.step (g' := s.gens) (d' := s.drawn) (ch := [it]) (fun b hb => ?_) (fun b o _ _ hc e _ => k b o (fun z => hc (by simp [z])) e) (fun b o _ _ hc e _ => ⟨o.slots, k b o (fun z => hc (by simp [z])) e⟩) (fun _ _ _ _ n => n)
  (fun b o hc e => ⟨o, k b o (fun z => hc (by simp [z])) e⟩) (fun _ _ e => e) (fun _ _ _ e => e) (fun b ps e => ⟨#[], by rw [e]; simp⟩) (fun m hm => ?_) (fun b u e => ?_) I.bare
 ·have e : b = it := by simpa using hb
  subst e
  exact ⟨h1, hL, h2, h3⟩
 ·obtain ⟨o, es, ep, ho, r⟩ := hm
  exact ⟨o, es, ep, k _ o (Ne.symm hL) ho, r⟩
 ·refine (I.hok b u e).stay (fun c v hc q => k c v ?_ q) (fun _ q => q) fun _ _ q => q
  rcases hc with z | z
  ·rw [z]; exact nit b u e
  ·exact nit c _ z
theorem Inv.tok (I : Inv X pins σ H s) (t : Nat) : Inv X pins σ H { s with toks := t } := I.un (h' := s.heap) (t' := t) Un.refl I.hok
theorem Inv.kept {t' : Nat} (I : Inv X pins σ H s) (k : ∀ b u, s.heap.get? b = some u -> h'.get? b = some u) : Inv X pins σ H { s with heap := h', toks := t' } := I.un (Un.kept k) (I.hok.kept k)
theorem Inv.laid {a : Addr} {o : HO} {t' : Nat} (I : Inv X pins σ H s) (k : ∀ b u, s.heap.get? b = some u -> h'.get? b = some u) (hp : s.heap.objs.size <= a) (new : ObjOk X.prog X.w (upd H a o) h' a o) :
  Inv X pins σ (upd H a o) { s with heap := h', toks := t' } := I.un (Un.laid k hp (I.hok.fresh hp)) (I.hok.laid k hp new)
theorem Inv.write {x e : Addr} {o : HO} {t' : Nat} (I : Inv X pins σ H s) (mu : Mut (H x)) (he : e = x \/ H e = some (.own x)) (k : ∀ b u, b ≠ e -> s.heap.get? b = some u -> h'.get? b = some u) (heo : ∃ u, h'.get? e = some u)
  (new : ObjOk X.prog X.w (upd H x o) h' x o) : Inv X pins σ (upd H x o) { s with heap := h', toks := t' } := I.un (Un.write mu he k heo) (I.hok.write mu he k heo new)
theorem Inv.weak {σ' : List (Option V)} (I : Inv X pins σ H s) (hl : σ'.length = σ.length) (w : ∀ (i : Nat) v, σ'[i]? = some (some v) -> σ[i]? = some (some v)) : Inv X pins σ' H s :=
 ⟨I.ok, I.os, I.bare, I.base, let ⟨m, hn, hl'⟩ := I.loc; ⟨m, hn, fun i x v e1 e2 e3 => hl' i x v e1 (w i v e2) e3⟩, I.cell, I.free, I.freeC, I.pin, I.hok, hl.trans I.len⟩
theorem Inv.pins_of {pins' : List (Addr × Obj)} (I : Inv X pins σ H s) (h : ∀ p ∈ pins', s.heap.get? p.1 = some p.2 /\ H p.1 = none /\ p.1 ≠ X.env.locals /\ p.1 ∉ X.fs /\ ∀ v, p.2.data ≠ .cell v) : Inv X pins' σ H s :=
 ⟨I.ok, I.os, I.bare, I.base, I.loc, I.cell, I.free, I.freeC, fun p hp => (List.mem_append.mp hp).elim (fun z => I.pin p (List.mem_append_left _ z)) (h p), I.hok, I.len⟩
theorem gm {N : List Str} (hN : N.Nodup) {i j : Nat} {x : Str} (a : N[i]? = some x) (b : N[j]? = some x) : i = j := by
 obtain ⟨h1, e1⟩ := List.getElem?_eq_some_iff.mp a
 obtain ⟨h2, e2⟩ := List.getElem?_eq_some_iff.mp b
 exact (List.getElem_inj hN).mp (e1.trans e2.symm)
theorem iw {M : Model} {A : Around} {E : Value -> Shared -> Prop} {i : Nat} {x : Str} {v : V} {u : Value} {Q : Unit -> Shared -> Prop} (I : Inv X pins σ H s) (hN : X.N.Nodup) (hi : X.N[i]? = some x) (hx : Loc X.env.scope x) (r : RelV v u)
  (h : ∀ s', Inv X pins (σ.set i (some v)) H s' -> (∃ a, Heap.SameBut a s.heap s'.heap /\ (a = X.env.locals \/ X.env.cells.lookup x = some a)) -> Q () s') (hf : X.fn x = true \/ X.env.scope.names.lookup x = some .local := by first | exact .inl rfl | exact .inr rfl | assumption) : wpAny M A (storeName X.env x u) Q E s := by
 obtain ⟨m, hn, hl⟩ := id I.loc
 have hcls : (X.env.scope.kind == .class || (X.env.scope.kind == .module && X.env.locals != X.env.globals)) = false := by rw [I.ok.kind]; rfl
 have hiσ : i < σ.length := by rw [I.len]; exact (List.getElem?_eq_some_iff.mp hi).1
 have cne := I.cne
 have tracked : ∀ {a : Addr} {h' : Heap}, (∃ o, s.heap.get? a = some o /\ H a = none) -> Heap.SameBut a s.heap h' -> HOk X.prog X.w H h' := fun {a h'} ha hs b ob e => by
  obtain ⟨_, _, hfree⟩ := ha
  refine (I.hok b ob e).stay (fun c w' hc q => (hs.2 c ?_).trans q) (fun _ q => q) fun _ _ q => q
  rintro rfl
  rcases hc with rfl | hc
  ·rw [hfree] at e; cases e
  ·rw [hfree] at hc; cases hc
 rcases hx with hk | hk
 ·refine wpAny_storeName_local hk hn (fun h' hn' hs => ?_) hcls
  obtain ⟨oL, _, _, hoL, _⟩ := id hn
  refine h _ ⟨I.ok, I.os, I.bare, ⟨fun b o e n hb hx => ?_, fun b o e n hb hx => ?_, I.base.free, fun b o e hx => ?_, I.base.tups, I.base.frzs, I.base.tbls⟩, ⟨_, hn', fun j y v' e1 e2 e3 => ?_⟩, fun y c e => ?_, I.free, I.freeC, fun p hp => ?_, tracked ⟨oL, hoL, I.free⟩ hs, by simpa using I.len⟩ ⟨_, hs, .inl rfl⟩
  ·exact (hs.2 b (Nat.ne_of_lt (Nat.lt_of_lt_of_le (Heap.lt_size e) I.ok.above))).trans (I.base.keep b o e n hb hx)
  ·obtain ⟨sl, e1⟩ := I.base.slot b o e n hb hx
   exact ⟨sl, (hs.2 b (Nat.ne_of_lt (Nat.lt_of_lt_of_le (Heap.lt_size e) I.ok.above))).trans e1⟩
  ·obtain ⟨o', e1⟩ := I.base.there b o e hx
   exact ⟨o', (hs.2 b (Nat.ne_of_lt (Nat.lt_of_lt_of_le (Heap.lt_size e) I.ok.above))).trans e1⟩
  ·by_cases hj : j = i
   ·subst hj
    rw [hi] at e1; cases e1
    rw [List.getElem?_set_self hiσ] at e2
    cases e2
    exact ⟨u, r, .inl ⟨hk, by simp⟩⟩
   ·rw [List.getElem?_set_ne (Ne.symm hj)] at e2
    obtain ⟨u', r', q⟩ := hl j y v' e1 e2 e3
    refine ⟨u', r', ?_⟩
    rcases q with ⟨k, e⟩ | ⟨k, c, e, z⟩
    ·refine .inl ⟨k, ?_⟩
     have : y ≠ x := fun e => hj (gm hN e1 (e ▸ hi))
     simp [this, e]
    ·exact .inr ⟨k, c, e, z.sameBut hs (cne y c e)⟩
  ·obtain ⟨w', z⟩ := I.cell y c e
   exact ⟨w', z.sameBut hs (cne y c e)⟩
  ·obtain ⟨e, n, ne, nf, d⟩ := I.pin p hp
   exact ⟨(hs.2 p.1 ne).trans e, n, ne, nf, d⟩
 ·have hfn : X.fn x = true := by
   rcases hf with z | z
   ·exact z
   ·rw [z] at hk; cases hk
  obtain ⟨c, hc⟩ := I.ok.has x (.inl hk)
  obtain ⟨w', z⟩ := I.cell x c hc
  refine wpAny_storeName_cell I.ok.kind hk hc z (fun h' hc' hs => ?_)
  obtain ⟨oc, hoc, hocd⟩ := id z
  refine h { s with heap := h' } ⟨I.ok, I.os, I.bare, ⟨fun b o e n hb hx => ?_, fun b o e n hb hx => ?_, I.base.free, fun b o e hx => ?_, I.base.tups, I.base.frzs, I.base.tbls⟩, ⟨m, hn.sameBut hs (Ne.symm (cne x c hc)), fun j y v' e1 e2 e3 => ?_⟩, fun y c' e => ?_, I.free, I.freeC, fun p hp => ?_, tracked ⟨oc, hoc, I.freeC x c hc⟩ hs, by simpa using I.len⟩ ⟨c, hs, .inr hc⟩
  ·exact (hs.2 b (Nat.ne_of_lt (Nat.lt_of_lt_of_le (Heap.lt_size e) (I.ok.cab x c hfn hc)))).trans (I.base.keep b o e n hb hx)
  ·obtain ⟨sl, e1⟩ := I.base.slot b o e n hb hx
   exact ⟨sl, (hs.2 b (Nat.ne_of_lt (Nat.lt_of_lt_of_le (Heap.lt_size e) (I.ok.cab x c hfn hc)))).trans e1⟩
  ·obtain ⟨o', e1⟩ := I.base.there b o e hx
   exact ⟨o', (hs.2 b (Nat.ne_of_lt (Nat.lt_of_lt_of_le (Heap.lt_size e) (I.ok.cab x c hfn hc)))).trans e1⟩
  ·by_cases hj : j = i
   ·subst hj
    rw [hi] at e1; cases e1
    rw [List.getElem?_set_self hiσ] at e2
    cases e2
    exact ⟨u, r, .inr ⟨.inl hk, c, hc, hc'⟩⟩
   ·rw [List.getElem?_set_ne (Ne.symm hj)] at e2
    obtain ⟨u', r', q⟩ := hl j y v' e1 e2 e3
    refine ⟨u', r', ?_⟩
    rcases q with q | ⟨k, c', e, z'⟩
    ·exact .inl q
    ·refine .inr ⟨k, c', e, z'.sameBut hs ?_⟩
     rintro rfl
     exact hj (gm hN e1 (I.ok.inj _ _ _ e hc ▸ hi))
  ·by_cases hcc : c' = c
   ·subst hcc; exact ⟨_, hc'⟩
   ·obtain ⟨w2, z2⟩ := I.cell y c' e
    exact ⟨w2, z2.sameBut hs hcc⟩
  ·obtain ⟨e, n, ne, nf, d⟩ := I.pin p hp
   refine ⟨(hs.2 p.1 ?_).trans e, n, ne, nf, d⟩
   intro q
   rw [q, hoc] at e
   have q' : oc = p.2 := Option.some.inj e
   exact d w' (by rw [<- q']; exact hocd)
theorem eu {M : Model} {A : Around} {E : Value -> Shared -> Prop} {i : Nat} {x : Str} {v : V} {u : Value} {Q : Unit -> Shared -> Prop} (I : Inv X pins σ H s) (hN : X.N.Nodup) (hi : X.N[i]? = some x) (hx : Loc X.env.scope x) (r : RelV v u)
  (h : ∀ s', Inv X pins (σ.set i (some v)) H s' -> Q () s') (hf : X.fn x = true \/ X.env.scope.names.lookup x = some .local := by first | exact .inl rfl | exact .inr rfl | assumption) : wpAny M A (storeName X.env x u) Q E s :=
 iw I hN hi hx r (fun s' I' _ => h s' I') hf
theorem Inv.call' {s' : Shared} {ch : List Addr} (I : Inv X pins σ H s) (ho : s'.os = s.os) (u : Un (frs X.stack) ch H H' s.heap s'.heap) (hok : HOk X.prog X.w H' s'.heap) (hg : AllBare s'.gens)
  (hch : ∀ b ∈ ch, (b ∈ X.ex \/ X.s₀.heap.objs.size <= b) /\ b ≠ X.env.locals /\ (∀ x c, X.env.cells.lookup x = some c -> c ≠ b) /\ ∀ p ∈ X.pn ++ pins, p.1 ≠ b) : Inv X pins σ H' s' := by
 obtain ⟨h', g', d', t', o'⟩ := s'
 have e : o' = s.os := ho
 subst e
 exact I.call (g' := g') (t' := t') (d' := d') u hok hg hch
end
abbrev XK := Value -> Option Addr -> Hp -> Prop
abbrev St := List (Option V)
abbrev VK := V -> Hp -> Prop
abbrev TE := St -> Hp -> VK -> Prop
abbrev TT := St -> Hp -> (Bool -> Hp -> Prop) -> Prop
abbrev TA := St -> Hp -> (List V -> Hp -> Prop) -> Prop
structure Ends where
 nx : St -> Hp -> Prop
 rt : VK
 bk : St -> Hp -> Prop := fun _ _ => False
 ct : St -> Hp -> Prop := fun _ _ => False
abbrev TS := Ends -> St -> Hp -> Prop
def EP (X : Cx) (pins : List (Addr × Obj)) (σ : St) (Q : VK) (u : Value) (s' : Shared) : Prop := ∃ v H', Inv X pins σ H' s' /\ RelV v u /\ Q v H'
def TP (X : Cx) (pins : List (Addr × Obj)) (σ : St) (Q : Bool -> Hp -> Prop) (b : Bool) (s' : Shared) : Prop := ∃ H', Inv X pins σ H' s' /\ Q b H'
def AP (X : Cx) (pins : List (Addr × Obj)) (σ : St) (Q : List V -> Hp -> Prop) (us : List Value) (s' : Shared) : Prop := ∃ vs H', Inv X pins σ H' s' /\ Vals vs us /\ Q vs H'
def SP (X : Cx) (pins : List (Addr × Obj)) (D : Ends) (f : Flow) (s' : Shared) : Prop :=
 match f with
 | .next => ∃ σ' H', Inv X pins σ' H' s' /\ D.nx σ' H'
 | .brk => ∃ σ' H', Inv X pins σ' H' s' /\ D.bk σ' H'
 | .cont => ∃ σ' H', Inv X pins σ' H' s' /\ D.ct σ' H'
 | .ret u => ∃ v σ' H', Inv X pins σ' H' s' /\ RelV v u /\ D.rt v H'
def PE (X : Cx) (e : Expr) (t : TE) : Prop :=
 ∀ (pins : List (Addr × Obj)) (s : Shared) (σ : St) (H : Hp) (Q : VK), Inv X pins σ H s -> t σ H Q -> wpAny (model X.prog X.w) X.A (eval e X.env) (EP X pins σ Q) X.xe s
def PT (X : Cx) (e : Expr) (t : TT) : Prop :=
 ∀ (pins : List (Addr × Obj)) (s : Shared) (σ : St) (H : Hp) (Q : Bool -> Hp -> Prop), Inv X pins σ H s -> t σ H Q -> wpAny (model X.prog X.w) X.A (isTrue e X.env (eval e X.env)) (TP X pins σ Q) X.xe s
def PW (X : Cx) (e : Expr) (t : TT) : Prop :=
 ∀ (whole : Sem Value) (pins : List (Addr × Obj)) (s : Shared) (σ : St) (H : Hp) (Q : Bool -> Hp -> Prop), Inv X pins σ H s -> t σ H Q -> wpAny (model X.prog X.w) X.A (isTrue e X.env whole) (TP X pins σ Q) X.xe s
theorem PW.pt {X : Cx} {e : Expr} {t : TT} (h : PW X e t) : PT X e t := h _
def PA (X : Cx) (es : List Expr) (t : TA) : Prop :=
 ∀ (pos : Pos) (pins : List (Addr × Obj)) (s : Shared) (σ : St) (H : Hp) (Q : List V -> Hp -> Prop), Inv X pins σ H s -> t σ H Q -> wpAny (model X.prog X.w) X.A (spliced (backTo pos (starEach es X.env))) (AP X pins σ Q) X.xe s
def PS (X : Cx) (st : Stmt) (t : TS) : Prop :=
 ∀ (pins : List (Addr × Obj)) (s : Shared) (σ : St) (H : Hp) (D : Ends), Inv X pins σ H s -> t D σ H -> wpAny (model X.prog X.w) X.A (exec st X.env) (SP X pins D) X.xe s
def PSs (X : Cx) (st : List Stmt) (t : TS) : Prop :=
 ∀ (pins : List (Addr × Obj)) (s : Shared) (σ : St) (H : Hp) (D : Ends), Inv X pins σ H s -> t D σ H -> wpAny (model X.prog X.w) X.A (execs st X.env) (SP X pins D) X.xe s
theorem thn {α : Type} {t : Sem α} {Q Q' : α -> Shared -> Prop} {M : Model} {A : Around} {E : Value -> Shared -> Prop} {s : Shared} (h : wpAny M A t Q E s) (hQ : ∀ a s, Q a s -> Q' a s) : wpAny M A t Q' E s := wpAny_mono h hQ fun _ _ x => x
end L2
namespace L2
open PySem PySem.Spec PyProof.Rows
section
variable {X : Cx}
def cY (i : Nat) : TE := fun σ H Q => ∃ v, σ[i]? = some (some v) /\ Q v H
def tC (v : V) : TE := fun _ H Q => Q v H
theorem kE {i : Nat} {x : Str} {pos : Pos} (hN : X.N[i]? = some x) (hv : Vis X.env.scope x) (hd : (x == ("__debug__" : Str)) = false := by decide) (hcd : (x == ("__classdict__" : Str)) = false := by decide) : PE X (.Name x pos) (cY i) := by
 intro pins s σ H Q I h
 obtain ⟨v, e, h⟩ := h
 obtain ⟨m, hn, hl⟩ := I.loc
 obtain ⟨u, r, l⟩ := hl i x v hN e hv
 have fin : EP X pins σ Q u s := ⟨v, H, I, r, h⟩
 rcases l with ⟨hk, hm⟩ | ⟨hk, c, hc, hcell⟩
 ·exact wpAny_Name (wpAny_loadName_local I.ok.kind hk hn hm fin) hd
 ·rcases hk with hk | hk
  ·exact wpAny_Name (wpAny_loadName_cell I.ok.kind hk hc hcell fin) hd
  ·exact wpAny_Name (wpAny_loadName_free I.ok.kind hk hc hcell fin hcd) hd
theorem n6 {i j pos} : PE X (.Constant (.int i) j pos) (tC (.int i)) := fun _ _ _ H _ I h => wpAny_Constant_int ⟨.int i, H, I.tok _, ⟨_, rfl⟩, h⟩
theorem zh {b j pos} : PE X (.Constant (.bool b) j pos) (tC (.bl b)) := fun _ _ _ H _ I h => Constant_bool ⟨.bl b, H, I, rfl, h⟩
theorem wa {j pos} : PE X (.Constant .none j pos) (tC .non) := fun _ _ _ H _ I h => Constant_none ⟨.non, H, I, rfl, h⟩
def Gl (X : Cx) (x : Str) : Prop := X.env.kindOf x = some .globalImplicit
theorem dH {E : Value -> Shared -> Prop} {pins : List (Addr × Obj)} {s : Shared} {σ : St} {H : Hp} {x : Str} {u : Value} {pos : Pos} {Q : Value -> Shared -> Prop} (I : Inv X pins σ H s) (hg : Gl X x) (hm : X.mg x = some u) (h : Q u s)
  (hd : (x == ("__debug__" : Str)) = false := by decide) : wpAny (model X.prog X.w) X.A (eval (.Name x pos) X.env) Q E s :=
 Calls.Name_function_global I.ok.kind hg (Calls.loadGlobal_global (by rw [I.ok.glob]; exact I.mod.glob.keeps I.bk) hm h) hd
theorem dY {E : Value -> Shared -> Prop} {pins : List (Addr × Obj)} {s : Shared} {σ : St} {H : Hp} {x : Str} {u : Value} {pos : Pos} {Q : Value -> Shared -> Prop} (I : Inv X pins σ H s) (hg : Gl X x) (hm : X.mg x = none) (hv : bootBuiltins x = some u) (h : Q u s)
  (hn : x ≠ "__name__" := by decide) (hd : (x == ("__debug__" : Str)) = false := by decide) : wpAny (model X.prog X.w) X.A (eval (.Name x pos) X.env) Q E s := by
 obtain ⟨mb, h1, h2⟩ := I.mod.blt
 exact Calls.Name_function_global I.ok.kind hg (Calls.loadGlobal_builtin (by rw [I.ok.glob]; exact I.mod.glob.keeps I.bk) hm (by rw [I.ok.blt]; exact h1.keeps I.bk) ((h2 x hn).trans hv) h) hd
theorem fP {x : Str} {v : V} {u : Value} {pos : Pos} (hg : Gl X x) (hm : X.mg x = some u) (r : RelV v u) (hd : (x == ("__debug__" : Str)) = false := by decide) : PE X (.Name x pos) (tC v) :=
 fun _ _ _ H _ I h => dH I hg hm ⟨v, H, I, r, h⟩ hd
theorem ez {x : Str} {v : V} {u : Value} {pos : Pos} (hg : Gl X x) (hm : X.mg x = none) (hv : bootBuiltins x = some u) (r : RelV v u) (hn : x ≠ "__name__" := by decide) (hd : (x == ("__debug__" : Str)) = false := by decide) : PE X (.Name x pos) (tC v) :=
 fun _ _ _ H _ I h => dY I hg hm hv ⟨v, H, I, r, h⟩ hn hd
variable {a b : Expr} {ta tb : TE} {pos : Pos}
def tB (t : TE) : TT := fun σ H Q => t σ H fun x H1 => ∃ c, x = .bl c /\ Q c H1
theorem wb {e : Expr} {t : TE} (h : PE X e t) (he : ∀ whole, isTrue e X.env whole = (do let v <- whole; standAt e.pos; holding [v] (truthy v)) := by intro _; rfl) : PT X e (tB t) := by
 intro pins s σ H Q I hw
 refine isTrue_plain (thn (h pins s σ H _ I hw) fun v s1 zr1 => ?_) (he _)
 obtain ⟨x, H1, I1, r1, q1⟩ := zr1
 obtain ⟨d, rfl, q⟩ := q1
 cases r1
 exact wpAny_truthy_bool ⟨H1, I1, q⟩
variable {tA tB' : TT} {rest : List Expr}
def zi (t u : TT) : TT := fun σ H Q => t σ H fun c H1 => if c = true then u σ H1 Q else Q false H1
def tOr (t u : TT) : TT := fun σ H Q => t σ H fun c H1 => if c = true then Q true H1 else u σ H1 Q
def zj (t : TT) : TT := fun σ H Q => t σ H fun c H1 => Q (!c) H1
theorem rO (ha : PT X a tA) : PW X (.BoolOp .And [a] pos) tA := by
 intro wh pins s σ H Q I h
 refine isTrue_and (thn (ha pins s σ H Q I h) fun c s1 e => ?_)
 cases c with
 | true => exact isTrue_and_nil e
 | false => exact e
theorem wd (ha : PT X a tA) : PW X (.BoolOp .Or [a] pos) tA := by
 intro wh pins s σ H Q I h
 refine isTrue_or (thn (ha pins s σ H Q I h) fun c s1 e => ?_)
 cases c with
 | false => exact isTrue_or_nil e
 | true => exact e
theorem we (ha : PT X a tA) (hb : PW X (.BoolOp .And (b :: rest) pos) tB') : PW X (.BoolOp .And (a :: b :: rest) pos) (zi tA tB') := by
 intro wh pins s σ H Q I h
 refine isTrue_and (thn (ha pins s σ H _ I h) fun c s1 zr1 => ?_)
 obtain ⟨H1, I1, q1⟩ := zr1
 cases c with
 | true => exact hb wh pins s1 σ H1 Q I1 q1
 | false => exact ⟨H1, I1, q1⟩
theorem zk (ha : PT X a tA) (hb : PW X (.BoolOp .Or (b :: rest) pos) tB') : PW X (.BoolOp .Or (a :: b :: rest) pos) (tOr tA tB') := by
 intro wh pins s σ H Q I h
 refine isTrue_or (thn (ha pins s σ H _ I h) fun c s1 zr1 => ?_)
 obtain ⟨H1, I1, q1⟩ := zr1
 cases c with
 | true => exact ⟨H1, I1, q1⟩
 | false => exact hb wh pins s1 σ H1 Q I1 q1
theorem wg (ha : PT X a tA) : PT X (.UnaryOp .Not a pos) (zj tA) := by
 intro pins s σ H Q I h
 exact isTrue_not (ha pins s σ H (fun c H1 => Q (!c) H1) I h)
def uH (ta tb : TE) : TE := fun σ H Q => ta σ H fun x H1 => ∃ c, x = .bl c /\ if c = true then tb σ H1 Q else Q (.bl false) H1
def zm (ta tb : TE) : TE := fun σ H Q => ta σ H fun x H1 => ∃ c, x = .bl c /\ if c = true then Q (.bl true) H1 else tb σ H1 Q
theorem wj {op} {t : TE} (h : PE X a t) : PE X (.BoolOp op [a] pos) t := fun pins s σ H Q I hw => BoolOp_one (h pins s σ H Q I hw)
theorem wm (ha : PE X a ta) (hb : PE X (.BoolOp .And (b :: rest) pos) tb) : PE X (.BoolOp .And (a :: b :: rest) pos) (uH ta tb) := by
 intro pins s σ H Q I h
 refine BoolOp_and (thn (ha pins s σ H _ I h) fun v s1 zr1 => ?_)
 obtain ⟨x, H1, I1, r1, q1⟩ := zr1
 obtain ⟨c, rfl, q1⟩ := q1
 cases r1
 refine wpAny_truthy_bool ?_
 cases c with
 | true => exact hb pins s1 σ H1 Q I1 q1
 | false => exact ⟨.bl false, H1, I1, rfl, q1⟩
theorem zo (ha : PE X a ta) (hb : PE X (.BoolOp .Or (b :: rest) pos) tb) : PE X (.BoolOp .Or (a :: b :: rest) pos) (zm ta tb) := by
 intro pins s σ H Q I h
 refine BoolOp_or (thn (ha pins s σ H _ I h) fun v s1 zr1 => ?_)
 obtain ⟨x, H1, I1, r1, q1⟩ := zr1
 obtain ⟨c, rfl, q1⟩ := q1
 cases r1
 refine wpAny_truthy_bool ?_
 cases c with
 | false => exact hb pins s1 σ H1 Q I1 q1
 | true => exact ⟨.bl true, H1, I1, rfl, q1⟩
def tIf (t : TT) (ta tb : TE) : TE := fun σ H Q => t σ H fun c H1 => if c = true then ta σ H1 Q else tb σ H1 Q
theorem n8 {c : Expr} (hc : PT X c tA) (ha : PE X a ta) (hb : PE X b tb) : PE X (.IfExp c a b pos) (tIf tA ta tb) := by
 intro pins s σ H Q I h
 refine wpAny_IfExp (thn (hc pins s σ H _ I h) fun d s1 zr1 => ?_)
 obtain ⟨H1, I1, q1⟩ := zr1
 cases d with
 | true => exact ha pins s1 σ H1 Q I1 q1
 | false => exact hb pins s1 σ H1 Q I1 q1
end
end L2
namespace L2
open PySem PySem.Spec PyProof.Rows
def SqL (K : PySem.W.Frag) (H : Hp) (a : Addr) (xs : List V) : Prop :=
 Rd H a (.lst xs) \/
  ∃ (o : Obj) (its : Array Value) (n : Nat), K.lookup a = some o /\ o.cls = .type "list" /\ o.dict = none /\ o.data = .seq its n /\ its.size <= sizeLine /\ Vals xs its.toList
def SqT (K : PySem.W.Frag) (H : Hp) (a : Addr) (xs : List V) : Prop :=
 Rd H a (.tup xs) \/
  ∃ (o : Obj) (its : Array Value) (n : Nat), K.lookup a = some o /\ o.cls = .type "tuple" /\ o.data = .seq its n /\ its.size <= sizeLine /\ Vals xs its.toList
def BS : Value -> Option V
 | .none => some .non
 | .bool b => some (.bl b)
 | .int i _ => some (.int i)
 | .str x _ => some (.str x)
 | .bytes b _ => some (.byt b)
 | .float b _ => some (.flt b)
 | .ref a => some (.ref a)
 | .type n => some (.ty n)
 | _ => none
theorem RelV.abs {x : V} {u : Value} (r : RelV x u) : BS u = some x := by
 cases x with
 | non => cases r; rfl
 | bl _ => cases r; rfl
 | int _ => obtain ⟨t, rfl⟩ := r; rfl
 | str _ => obtain ⟨t, rfl⟩ := r; rfl
 | byt _ => obtain ⟨t, rfl⟩ := r; rfl
 | flt _ => obtain ⟨t, rfl⟩ := r; rfl
 | ref _ => cases r; rfl
 | ty _ => cases r; rfl
theorem RelV.inj {x y : V} {u : Value} (r : RelV x u) (q : RelV y u) : x = y := Option.some.inj (r.abs.symm.trans q.abs)
theorem Vals.inj : ∀ {xs ys : List V} {us : List Value}, Vals xs us -> Vals ys us -> xs = ys
 | _, _, _, .nil, .nil => rfl
 | _, _, _, .cons r t, .cons r' t' => by rw [r.inj r', Vals.inj t t']
section
variable {X : Cx} {pins : List (Addr × Obj)} {σ : St} {H : Hp} {s : Shared} {a : Addr} {xs ys : List V}
theorem Inv.list (I : Inv X pins σ H s) (h : SqL X.K H a xs) : ∃ its : List Value, Vals xs its /\ PlainL s.heap a its.toArray /\ xs.length <= sizeLine := by
 rcases h with h | ⟨o, its, n, hk, hc, hd, hs, hz, r⟩
 ·obtain ⟨z, its, n, r, e⟩ := h.ok I.hok
  exact ⟨its, r, ⟨_, n, e, rfl, rfl, rfl⟩, z⟩
 ·refine ⟨its.toList, r, ⟨o, n, I.kIn a o hk, hc, hd, by simpa using hs⟩, ?_⟩
  have e := r.length
  simp only [Array.length_toList] at e
  omega
theorem Inv.tuple (I : Inv X pins σ H s) (h : SqT X.K H a xs) : ∃ its : List Value, Vals xs its /\ IsTup s.heap a its.toArray /\ xs.length <= sizeLine := by
 rcases h with h | ⟨o, its, n, hk, hc, hs, hz, r⟩
 ·obtain ⟨z, its, r, p⟩ := h.ok I.hok
  exact ⟨its, r, p, z⟩
 ·refine ⟨its.toList, r, ⟨o, I.kIn a o hk, hc, n, by simpa using hs⟩, ?_⟩
  have e := r.length
  simp only [Array.length_toList] at e
  omega
theorem Inv.list_inj (I : Inv X pins σ H s) (h : SqL X.K H a xs) (h' : SqL X.K H a ys) : xs = ys := by
 obtain ⟨its, r, ⟨o, n, e, _, _, d⟩, _⟩ := I.list h
 obtain ⟨its', r', ⟨o', n', e', _, _, d'⟩, _⟩ := I.list h'
 rw [e] at e'; cases e'
 rw [d] at d'
 injection d' with d1 _
 have : its = its' := by simpa using congrArg Array.toList d1
 subst this
 exact r.inj r'
theorem Inv.tuple_inj (I : Inv X pins σ H s) (h : SqT X.K H a xs) (h' : SqT X.K H a ys) : xs = ys := by
 obtain ⟨its, r, ⟨o, e, _, n, d⟩, _⟩ := I.tuple h
 obtain ⟨its', r', ⟨o', e', _, n', d'⟩, _⟩ := I.tuple h'
 rw [e] at e'; cases e'
 rw [d] at d'
 injection d' with d1 _
 have : its = its' := by simpa using congrArg Array.toList d1
 subst this
 exact r.inj r'
end
abbrev Cx.wish (X : Cx) (E : Value -> Shared -> Prop) : Cx := { X with xe := E }
abbrev Cx.nox (X : Cx) : Cx := X.wish fun _ _ => False
theorem Cx.Ok.wish {X : Cx} (ok : X.Ok) (E : Value -> Shared -> Prop) : (X.wish E).Ok :=
 ⟨ok.mod, ok.kind, ok.glob, ok.blt, ok.above, ok.inj, ok.has, ok.cab, ok.hd, ok.frames, ok.stk, ok.exf, ok.bs, ok.bsz, ok.noex, ok.exfs, ok.funs, ok.frf⟩
theorem Cx.Ok.unwish {X : Cx} {E : Value -> Shared -> Prop} (ok : (X.wish E).Ok) : X.Ok :=
 ⟨ok.mod, ok.kind, ok.glob, ok.blt, ok.above, ok.inj, ok.has, ok.cab, ok.hd, ok.frames, ok.stk, ok.exf, ok.bs, ok.bsz, ok.noex, ok.exfs, ok.funs, ok.frf⟩
section
variable {X : Cx} {pins : List (Addr × Obj)} {σ : St} {H : Hp} {s : Shared} {E : Value -> Shared -> Prop}
theorem Inv.wish (I : Inv X pins σ H s) (E : Value -> Shared -> Prop) : Inv (X.wish E) pins σ H s := ⟨I.ok.wish E, I.os, I.bare, I.base, I.loc, I.cell, I.free, I.freeC, I.pin, I.hok, I.len⟩
theorem Inv.unwish (I : Inv (X.wish E) pins σ H s) : Inv X pins σ H s := ⟨I.ok.unwish, I.os, I.bare, I.base, I.loc, I.cell, I.free, I.freeC, I.pin, I.hok, I.len⟩
theorem SP.unwish {D : Ends} {f : Flow} {s' : Shared} (h : SP (X.wish E) pins D f s') : SP X pins D f s' := by
 cases f with
 | next => obtain ⟨σ', H', I, q⟩ := h; exact ⟨σ', H', I.unwish, q⟩
 | brk => obtain ⟨σ', H', I, q⟩ := h; exact ⟨σ', H', I.unwish, q⟩
 | cont => obtain ⟨σ', H', I, q⟩ := h; exact ⟨σ', H', I.unwish, q⟩
 | ret u => obtain ⟨v, σ', H', I, r, q⟩ := h; exact ⟨v, σ', H', I.unwish, r, q⟩
theorem PSs.nox {st : List Stmt} {t : TS} (h : PSs X.nox st t) : PSs X st t := fun pins s σ H D I hw =>
 wpAny_mono (h pins s σ H D (I.wish _) hw) (fun _ _ q => q.unwish) fun _ _ z => False.elim z
end
section
variable {X : Cx} {st : Stmt} {rest : List Stmt} {t u : TS} {e : Expr} {te : TE} {pos : Pos}
def n9 : TS := fun D σ H => D.nx σ H
def oa (t u : TS) : TS := fun D σ H => t { D with nx := u D } σ H
theorem lJ : PSs X [] n9 := fun _ _ σ H _ I h => wpAny_execs_nil ⟨σ, H, I, h⟩
theorem eE (h1 : PS X st t) (h2 : PSs X rest u) : PSs X (st :: rest) (oa t u) := by
 intro pins s σ H D I h
 refine wpAny_execs_cons (thn (h1 pins s σ H { D with nx := u D } I h) fun f s1 q => ?_)
 cases f with
 | next =>
  obtain ⟨σ', H', I', q⟩ := q
  exact h2 pins s1 σ' H' D I' q
 | ret v => exact q
 | brk => exact q
 | cont => exact q
theorem lK (h1 : PS X st t) : PSs X [st] t := by
 intro pins s σ H D I h
 refine wpAny_execs_cons (thn (h1 pins s σ H D I h) fun f s1 q => ?_)
 cases f with
 | next => exact wpAny_execs_nil q
 | ret v => exact q
 | brk => exact q
 | cont => exact q
theorem Inv.quiet {pins : List (Addr × Obj)} {σ : St} {H : Hp} {s : Shared} (I : Inv X pins σ H s) : interactive X.env = false := by simp [interactive, I.ok.kind]
def oe (te : TE) : TS := fun D σ H => te σ H fun _ H1 => D.nx σ H1
theorem lL (he : PE X e te) (hs : swapsWith e none pos.line X.env = pure false := by rfl) : PS X (.Expr e pos) (oe te) := by
 intro pins s σ H D I h
 exact wpAny_Expr_any (thn (he pins s σ H _ I h) fun v s1 zt1 => by obtain ⟨x, H1, I1, r1, q1⟩ := zt1; exact ⟨σ, H1, I1, q1⟩) I.quiet hs
def zp (te : TE) : TS := fun D σ H => te σ H D.rt
theorem wo (he : PE X e te) : PS X (.Return (some e) pos) (zp te) := by
 intro pins s σ H D I h
 exact wpAny_Return_some (thn (he pins s σ H _ I h) fun v s1 zt1 => by obtain ⟨x, H1, I1, r1, q1⟩ := zt1; exact ⟨x, σ, H1, I1, r1, q1⟩)
def rP (c : TT) (t u : TS) : TS := fun D σ H => c σ H fun b H1 => if b = true then t D σ H1 else u D σ H1
theorem og {c : Expr} {a b : List Stmt} {tc : TT} (hc : PT X c tc) (ha : PSs X a t) (hb : PSs X b u) : PS X (.If c a b pos) (rP tc t u) := by
 intro pins s σ H D I h
 refine wpAny_If (thn (hc pins s σ H _ I h) fun d s1 zr1 => ?_)
 obtain ⟨H1, I1, q1⟩ := zr1
 cases d with
 | true => exact ha pins s1 σ H1 D I1 q1
 | false => exact hb pins s1 σ H1 D I1 q1
def de : TS := fun _ _ _ => False
theorem oh : PS X st de := fun _ _ _ _ _ _ h => h.elim
theorem cD {sts : List Stmt} : PSs X sts de := fun _ _ _ _ _ _ h => h.elim
end
abbrev TG := V -> St -> Hp -> (St -> Hp -> Prop) -> Prop
abbrev TGs := List V -> St -> Hp -> (St -> Hp -> Prop) -> Prop
def PG (X : Cx) (target : Expr) (t : TG) : Prop :=
 ∀ (pins : List (Addr × Obj)) (s : Shared) (σ : St) (H : Hp) (v : V) (u : Value) (Q : St -> Hp -> Prop), Inv X pins σ H s -> RelV v u -> t v σ H Q ->
  wpAny (model X.prog X.w) X.A (assign target X.env u) (fun _ s' => ∃ σ' H', Inv X pins σ' H' s' /\ Q σ' H') X.xe s
def PGs (X : Cx) (ts : List Expr) (t : TGs) : Prop :=
 ∀ (pins : List (Addr × Obj)) (s : Shared) (σ : St) (H : Hp) (vs : List V) (us : List Value) (Q : St -> Hp -> Prop), Inv X pins σ H s -> Vals vs us -> t vs σ H Q ->
  wpAny (model X.prog X.w) X.A (assignInOrder ((assignEach ts X.env).map (·.2)) us) (fun _ s' => ∃ σ' H', Inv X pins σ' H' s' /\ Q σ' H') X.xe s
abbrev wq := V -> V -> V -> Hp -> (Hp -> Prop) -> Prop
def zr (X : Cx) (t : wq) : Prop :=
 ∀ (pins : List (Addr × Obj)) (s : Shared) (σ : St) (H : Hp) (o i v : V) (ov iv u : Value) (Q : Hp -> Prop), Inv X pins σ H s -> RelV o ov -> RelV i iv -> RelV v u -> t o i v H Q ->
  wpAny (model X.prog X.w) X.A (setItem ov iv u) (fun _ s' => ∃ H', Inv X pins σ H' s' /\ Q H') X.xe s
section
variable {X : Cx} {pos : Pos}
def bC (i : Nat) : TG := fun v σ H Q => Q (σ.set i (some v)) H
theorem aE {i : Nat} {x : Str} (hN : X.N.Nodup) (hi : X.N[i]? = some x) (hx : Loc X.env.scope x) (hf : X.fn x = true \/ X.env.scope.names.lookup x = some .local := by first | exact .inl rfl | exact .inr rfl | assumption) : PG X (.Name x pos) (bC i) := by
 intro pins s σ H v u Q I r h
 exact wpAny_assign_Name (eu I hN hi hx r (fun s' I' => ⟨_, H, I', h⟩) hf)
def wt : TGs := fun vs σ H Q => vs = [] /\ Q σ H
def lM (t : TG) (u : TGs) : TGs := fun vs σ H Q => ∃ v r, vs = v :: r /\ t v σ H fun σ' H' => u r σ' H' Q
theorem rQ : PGs X [] wt := by
 intro pins s σ H vs us Q I r h
 obtain ⟨e, h⟩ := h
 subst e
 cases r
 exact assignInOrder_nil ⟨σ, H, I, h⟩
theorem oi {e : Expr} {es : List Expr} {t : TG} {u : TGs} (h1 : PG X e t) (h2 : PGs X es u)
  (hs : (assignEach (e :: es) X.env).map (·.2) = assign e X.env :: (assignEach es X.env).map (·.2) := by rfl) : PGs X (e :: es) (lM t u) := by
 intro pins s σ H vs us Q I r h
 obtain ⟨v, vr, e1, h⟩ := h
 subst e1
 cases r with
 | cons r rr =>
  rw [hs]
  refine assignInOrder_cons (thn (h1 pins s σ H _ _ _ I r h) fun _ s1 zr1 => ?_)
  obtain ⟨σ1, H1, I1, q1⟩ := zr1
  exact h2 pins s1 σ1 H1 _ _ Q I1 rr q1
def wu (K : PySem.W.Frag) (n : Nat) (t : TGs) : TG := fun v σ H Q => ∃ a xs, v = .ref a /\ SqT K H a xs /\ xs.length = n /\ t xs σ H Q
theorem wy {es : List Expr} {k : Nat} {t : TGs} {n : Nat} (hc : X.calm = true) (h : PGs X es t)
  (hn : (assignEach es X.env).length = n := by rfl) (hst : (assignEach es X.env).findIdx? (·.1) = none := by rfl) : PG X (.Tuple es k pos) (wu X.K n t) := by
 intro pins s σ H v u Q I r hw
 obtain ⟨a, xs, e1, hq, hl, hw⟩ := hw
 subst e1
 cases r
 obtain ⟨its, rv, ht, hz⟩ := I.tuple hq
 refine assign_Tuple_tuple (I.ok.hd hc) ht (by simp [hn, <- hl, rv.length]) hst fun h' hx => ?_
 have I1 : Inv X pins σ H { s with heap := h' } := I.kept (t' := s.toks) fun b o e => hx b o (Nat.ne_of_lt (Heap.lt_size e)) e
 exact h pins _ σ H xs _ Q I1 (by simpa using rv) hw
def wz (to ti : TE) (t : wq) : TG := fun v σ H Q => to σ H fun o H1 => ti σ H1 fun i H2 => t o i v H2 fun H3 => Q σ H3
theorem wC {o i : Expr} {to ti : TE} {t : wq} (ho : PE X o to) (hi : PE X i ti) (hs : zr X t)
  (ha : ∀ v, assign (.Subscript o i pos) X.env v = (do
   let ov <- holding [v] (eval o X.env)
   let iv <- holding [v, ov] (eval i X.env)
   standAt pos
   holding [v, ov, iv] (setItem ov iv v)
   release [v, ov, iv] []) := by intro _; rfl) : PG X (.Subscript o i pos) (wz to ti t) := by
 intro pins s σ H v u Q I r h
 rw [ha]
 refine wpAny_bind (wpAny_holding (thn (ho pins s σ H _ I h) fun ov s1 zr1 => ?_))
 obtain ⟨x, H1, I1, r1, q1⟩ := zr1
 refine wpAny_bind (wpAny_holding (thn (hi pins s1 σ H1 _ I1 q1) fun iv s2 zr1 => ?_))
 obtain ⟨y, H2, I2, r2, q2⟩ := zr1
 refine wpAny_bind (wpAny_standAt (wpAny_bind (wpAny_holding (thn (hs pins s2 σ H2 x y v ov iv u _ I2 r1 r2 r q2) fun _ s3 zr1 => ?_))))
 obtain ⟨H3, I3, q3⟩ := zr1
 exact wpAny_release ⟨σ, H3, I3, q3⟩
def dQ (te : TE) (g : TG) : TS := fun D σ H => te σ H fun x H1 => g x σ H1 D.nx
theorem om {tg e : Expr} {te : TE} {g : TG} (he : PE X e te) (hg : PG X tg g) (hs : swapsWithSole [tg] e pos.line X.env = pure false := by rfl) (hw : swappedStores [tg] e X.env = pure none := by rfl)
  (h1 : (assignEach [tg] X.env).map (·.2) = [assign tg X.env] := by rfl) : PS X (.Assign [tg] e pos) (dQ te g) := by
 intro pins s σ H D I h
 refine wpAny_Assign_stores (thn (he pins s σ H _ I h) fun v s1 zr1 => ?_) hs hw
 obtain ⟨x, H1, I1, r1, q1⟩ := zr1
 rw [h1]
 exact thn (hg pins s1 σ H1 x v _ I1 r1 q1) fun _ s2 q => q
theorem df {i : Nat} {x : Str} {e : Expr} {te : TE} {pos' : Pos} (hN : X.N.Nodup) (hi : X.N[i]? = some x) (hx : Loc X.env.scope x) (he : PE X e te) (hs : swapsWith e (some (.Name x pos')) pos.line X.env = pure false := by rfl) (hf : X.fn x = true \/ X.env.scope.names.lookup x = some .local := by first | exact .inl rfl | exact .inr rfl | assumption) :
  PS X (.Assign [.Name x pos'] e pos) (dQ te (bC i)) := by
 intro pins s σ H D I h
 refine wpAny_Assign_Name (thn (he pins s σ H _ I h) fun v s1 zr1 => ?_) hs
 obtain ⟨y, H1, I1, r1, q1⟩ := zr1
 exact eu I1 hN hi hx r1 (fun s2 I2 => ⟨_, H1, I2, q1⟩) hf
def BU (X : Cx) (t : V -> V -> Hp -> VK -> Prop) : Prop :=
 ∀ (pins : List (Addr × Obj)) (s : Shared) (σ : St) (H : Hp) (o i : V) (ov iv : Value) (Q : VK), Inv X pins σ H s -> RelV o ov -> RelV i iv -> t o i H Q ->
  wpAny (model X.prog X.w) X.A (getItem ov iv) (EP X pins σ Q) X.xe s
end
structure It where
 go : Nat -> Hp -> Prop
 yld : Nat -> Hp -> V -> Hp -> Prop
 stop : Nat -> Hp -> Prop
def gn (X : Cx) (pins : List (Addr × Obj)) (H : Hp) (b : Addr) : Prop :=
 H b = none /\ b ≠ X.env.locals /\ b ∉ X.fs /\ (b ∈ X.ex \/ X.s₀.heap.objs.size <= b) /\ (∀ x c, X.env.cells.lookup x = some c -> c ≠ b) /\ ∀ p ∈ X.pn ++ pins, p.1 ≠ b
theorem Inv.fpOk {X : Cx} {pins : List (Addr × Obj)} {σ : St} {H H' : Hp} {s : Shared} {b : Addr} (I : Inv X pins σ H s) (hb : s.heap.objs.size <= b) (hn : H' b = none) : gn X pins H' b := by
 refine ⟨hn, Nat.ne_of_gt (Nat.lt_of_lt_of_le I.lt hb), I.nofs hb, .inr (Nat.le_trans I.sz hb), fun x c e z => ?_, fun p hp z => ?_⟩
 ·obtain ⟨v, q⟩ := I.cell x c e
  exact absurd (Nat.lt_of_lt_of_le q.lt (by rw [z]; exact hb)) (Nat.lt_irrefl _)
 ·exact absurd (Nat.lt_of_lt_of_le (Heap.lt_size (I.pin p hp).1) (by rw [z]; exact hb)) (Nat.lt_irrefl _)
structure Turn (P : Program) (w : World) (K : PySem.W.Frag) (tg : Expr) (J : It) (fp : List Addr) (it : Addr) (tn : Nat -> Heap -> Prop) : Prop where
 mem : it ∈ fp
 obj : ∀ i h, tn i h -> ∀ b ∈ fp, ∃ o, h.get? b = some o /\ ∀ v, o.data ≠ .cell v
 keep : ∀ i h h', tn i h -> (∀ b ∈ fp, ∀ o, h.get? b = some o -> h'.get? b = some o) -> tn i h'
 item : ∀ (X : Cx), X.prog = P -> X.w = w -> X.K = K -> X.calm = true -> ∀ (i : Nat) (pins : List (Addr × Obj)) (s : Shared) (σ : St) (H : Hp) (E : Value -> Shared -> Prop), Inv X pins σ H s -> (∀ b ∈ fp, gn X pins H b) -> tn i s.heap -> J.go i H ->
  wpAny (model P w) X.A (pyNext (.ref it)) (fun r s1 => ∃ u, r = some u /\
   wpAny (model P w) X.A (letOwnedTupleGo tg (.ref it) u) (fun _ s2 => ∃ x H', Inv X pins σ H' s2 /\ RelV x u /\ J.yld i H x H' /\ tn (i + 1) s2.heap /\ ∀ b ∈ fp, H' b = none) E s1) E s
 done : ∀ (X : Cx), X.prog = P -> X.w = w -> X.K = K -> X.calm = true -> ∀ (i : Nat) (pins : List (Addr × Obj)) (s : Shared) (σ : St) (H : Hp) (E : Value -> Shared -> Prop), Inv X pins σ H s -> (∀ b ∈ fp, gn X pins H b) -> tn i s.heap -> J.stop i H ->
  wpAny (model P w) X.A (pyNext (.ref it)) (fun r s1 => r = none /\ Inv X pins σ H s1) E s
 self : ∀ (A : Around) (i : Nat) (s : Shared) (Q : Value -> Shared -> Prop) (E : Value -> Shared -> Prop), tn i s.heap -> Q (.ref it) s -> wpAny (model P w) A (pyIter (.ref it)) Q E s
abbrev TI := St -> Hp -> (It -> Hp -> Prop) -> Prop
def PIE (X : Cx) (pins : List (Addr × Obj)) (σ : St) (tg : Expr) (R : It -> Hp -> Prop) (itv : Value) (s2 : Shared) : Prop :=
 ∃ (it : Addr) (fp : List Addr) (tn : Nat -> Heap -> Prop) (J : It) (H' : Hp), itv = .ref it /\ Inv X pins σ H' s2 /\ Turn X.prog X.w X.K tg J fp it tn /\ tn 0 s2.heap /\ (∀ b ∈ fp, gn X pins H' b) /\ R J H'
def PI (X : Cx) (tg iter : Expr) (wi : TI) : Prop :=
 ∀ (pins : List (Addr × Obj)) (s : Shared) (σ : St) (H : Hp) (R : It -> Hp -> Prop), Inv X pins σ H s -> wi σ H R ->
  wpAny (model X.prog X.w) X.A (eval iter X.env) (fun v s1 => wpAny (model X.prog X.w) X.A (pyIter v) (PIE X pins σ tg R) X.xe s1) X.xe s
theorem lN {M : Model} {A : Around} {E : Value -> Shared -> Prop} {s : Shared} {tg : Expr} {it : Addr} {u : Value} {o : Obj} {n : String} {vs : Array Value} {Q : Unit -> Shared -> Prop} (ho : s.heap.get? it = some o) (hc : o.cls = .type n) (hd : o.data = .fields vs)
    (hn : ["enumerate", "zip", "dict_itemiterator", "dict_reverseitemiterator", "odict_iterator", "itertools.zip_longest", "itertools.pairwise"].contains n = false) (hQ : Q () s) : wpAny M A (letOwnedTupleGo tg (.ref it) u) Q E s := by
  unfold letOwnedTupleGo
  cases tg <;> first
    | exact wpAny_pure hQ
    | (cases u <;> first
        | exact wpAny_pure hQ
        | (refine wpAny_bind (wpAny_load ho ?_)
           rw [hc, hd]
           show wpAny M A (if (["enumerate", "zip", "dict_itemiterator", "dict_reverseitemiterator", "odict_iterator", "itertools.zip_longest", "itertools.pairwise"].contains n && vs[0]? == some (rawInt _)) = true then _ else _) Q E s
           rw [if_neg (by intro h; rw [hn, Bool.false_and] at h; cases h)]
           exact wpAny_pure hQ))
def Itl (K : PySem.W.Frag) (a : Addr) : It :=
 ⟨fun i H => ∃ xs x, SqL K H a xs /\ xs[i]? = some x, fun i H x H' => H' = H /\ ∀ xs, SqL K H a xs -> xs[i]? = some x, fun i H => ∃ xs, SqL K H a xs /\ xs.length <= i⟩
def Itt (K : PySem.W.Frag) (a : Addr) : It :=
 ⟨fun i H => ∃ xs x, SqT K H a xs /\ xs[i]? = some x, fun i H x H' => H' = H /\ ∀ xs, SqT K H a xs -> xs[i]? = some x, fun i H => ∃ xs, SqT K H a xs /\ xs.length <= i⟩
def Itr (lo : Int) (n : Nat) : It := ⟨fun i _ => i < n, fun i H x H' => H' = H /\ x = .int (lo + i), fun i _ => n <= i⟩
theorem mZ {P : Program} {w : World} {K : PySem.W.Frag} {tg : Expr} (a it : Addr) : Turn P w K tg (Itl K a) [it] it (fun i h => h.IsListIter it a i) where
 mem := by simp
 obj := fun i h st b hb => by
  have e : b = it := by simpa using hb
  subst e
  obtain ⟨o, e, c, d⟩ := st
  exact ⟨o, e, fun v z => by rw [d] at z; cases z⟩
 keep := fun i h h' st k => st.at fun o e => k it (by simp) o e
 item := by
  intro X hP hw hK hc i pins s σ H E I hf st hg
  subst hP hw hK
  obtain ⟨xs, x, hq, hx⟩ := hg
  obtain ⟨its, rv, p, hz⟩ := I.list hq
  obtain ⟨u, hu, ru⟩ := rv.get hx
  obtain ⟨f0, f1, f2, f3, f4, f5⟩ := hf it (by simp)
  refine wpAny_pyNext_list_item st p.isList (x := u) (by simpa using hu) fun h' st' sb => ?_
  have I1 : Inv X pins σ H { s with heap := h' } := I.turned (t' := s.toks) (fun b o hb e => (sb.2 b hb).trans e) f0 f1 f3 f4 f5
  obtain ⟨o, e, c, d⟩ := id st'
  exact ⟨u, rfl, lN (s := { s with heap := h' }) e c d (by decide) ⟨x, H, I1, ru, ⟨rfl, fun ys hy => by rw [I.list_inj hy hq]; exact hx⟩, st', fun b hb => (hf b hb).1⟩⟩
 done := by
  intro X hP hw hK hc i pins s σ H E I hf st hg
  subst hP hw hK
  obtain ⟨xs, hq, hx⟩ := hg
  obtain ⟨its, rv, p, hz⟩ := I.list hq
  obtain ⟨f0, f1, f2, f3, f4, f5⟩ := hf it (by simp)
  have hl := rv.length
  exact wpAny_pyNext_list_end (I.ok.hd hc) st p.isList (by simp; omega) fun h' eb => ⟨rfl, I.turned (t' := s.toks) (fun b o hb e => eb b o hb e) f0 f1 f3 f4 f5⟩
 self := fun _ _ _ _ _ st h => wpAny_pyIter_listiter st h
theorem kF {P : Program} {w : World} {K : PySem.W.Frag} {tg : Expr} (a it : Addr) : Turn P w K tg (Itt K a) [it] it (fun i h => h.IsTupleIter it a i) where
 mem := by simp
 obj := fun i h st b hb => by
  have e : b = it := by simpa using hb
  subst e
  obtain ⟨o, e, c, d⟩ := st
  exact ⟨o, e, fun v z => by rw [d] at z; cases z⟩
 keep := fun i h h' st k => st.at fun o e => k it (by simp) o e
 item := by
  intro X hP hw hK hc i pins s σ H E I hf st hg
  subst hP hw hK
  obtain ⟨xs, x, hq, hx⟩ := hg
  obtain ⟨its, rv, p, hz⟩ := I.tuple hq
  obtain ⟨u, hu, ru⟩ := rv.get hx
  obtain ⟨f0, f1, f2, f3, f4, f5⟩ := hf it (by simp)
  refine wpAny_pyNext_tuple_item st (show s.heap.IsTuple a its.toArray from p) (x := u) (by simpa using hu) fun h' st' sb => ?_
  have I1 : Inv X pins σ H { s with heap := h' } := I.turned (t' := s.toks) (fun b o hb e => (sb.2 b hb).trans e) f0 f1 f3 f4 f5
  obtain ⟨o, e, c, d⟩ := id st'
  exact ⟨u, rfl, lN (s := { s with heap := h' }) e c d (by decide) ⟨x, H, I1, ru, ⟨rfl, fun ys hy => by rw [I.tuple_inj hy hq]; exact hx⟩, st', fun b hb => (hf b hb).1⟩⟩
 done := by
  intro X hP hw hK hc i pins s σ H E I hf st hg
  subst hP hw hK
  obtain ⟨xs, hq, hx⟩ := hg
  obtain ⟨its, rv, p, hz⟩ := I.tuple hq
  obtain ⟨f0, f1, f2, f3, f4, f5⟩ := hf it (by simp)
  have hl := rv.length
  exact wpAny_pyNext_tuple_end (I.ok.hd hc) st (show s.heap.IsTuple a its.toArray from p) (by simp; omega) fun h' eb => ⟨rfl, I.turned (t' := s.toks) (fun b o hb e => eb b o hb e) f0 f1 f3 f4 f5⟩
 self := fun _ _ _ _ _ st h => wpAny_pyIter_tupleiter st h
theorem kG {P : Program} {w : World} {K : PySem.W.Frag} {tg : Expr} (it : Addr) (lo : Int) (n : Nat) : Turn P w K tg (Itr lo n) [it] it (fun i h => IsRangeIter h it (lo + (i : Nat) * 1) ((n : Int) - (i : Nat)) 1) where
 mem := by simp
 obj := fun i h st b hb => by
  have e : b = it := by simpa using hb
  subst e
  exact ⟨_, st, fun v z => by
   have z' : Data.fields _ = Data.cell v := z
   cases z'⟩
 keep := fun i h h' st k => k it (by simp) _ st
 item := by
  intro X hP hw hK hc i pins s σ H E I hf st hg
  subst hP hw hK
  obtain ⟨f0, f1, f2, f3, f4, f5⟩ := hf it (by simp)
  have W := Walks.range (prog := X.prog) (w := X.w) (I.ok.hd hc) it lo 1 n
  refine W.item i s _ _ hg st fun v h' tk hv st' kk => ?_
  obtain ⟨t, rfl⟩ := hv
  have I1 : Inv X pins σ H { s with heap := h', toks := tk } := I.turned (fun b o hb e => kk b o (by simpa using hb) e) f0 f1 f3 f4 f5
  refine ⟨_, rfl, lN (s := { s with heap := h', toks := tk }) (n := "range_iterator") st' rfl rfl (by decide) ⟨.int (lo + i), H, I1, ⟨t, ?_⟩, ⟨rfl, rfl⟩, st', fun b hb => (hf b hb).1⟩⟩
  rw [Int.mul_one]
 done := by
  intro X hP hw hK hc i pins s σ H E I hf st hg
  subst hP hw hK
  obtain ⟨f0, f1, f2, f3, f4, f5⟩ := hf it (by simp)
  exact wpAny_pyNext_range_end (I.ok.hd hc) st (by have : n <= i := hg; omega) fun h' eb => ⟨rfl, I.turned (t' := s.toks) (fun b o hb e => eb b o hb e) f0 f1 f3 f4 f5⟩
 self := fun _ _ _ _ _ st h => wpAny_pyIter_rangeiter st h
end L2
namespace L2
open PySem PySem.Spec PyProof.Rows
section
variable {X : Cx} {tg : Expr}
def uI (K : PySem.W.Frag) (tl : TE) : TI := fun σ H R => tl σ H fun x H1 => ∃ a, x = .ref a /\ (∃ xs, SqL K H1 a xs) /\ R (Itl K a) H1
def zt (K : PySem.W.Frag) (tl : TE) : TI := fun σ H R => tl σ H fun x H1 => ∃ a, x = .ref a /\ (∃ xs, SqT K H1 a xs) /\ R (Itt K a) H1
theorem rR {l : Expr} {tl : TE} (hl : PE X l tl) : PI X tg l (uI X.K tl) := by
 intro pins s σ H R I h
 refine thn (hl pins s σ H _ I h) fun v s1 zr1 => ?_
 obtain ⟨x, H1, I1, r1, q1⟩ := zr1
 obtain ⟨a, e, ⟨xs, hq⟩, q⟩ := q1
 subst e
 cases r1
 obtain ⟨its, rv, p, hz⟩ := I1.list hq
 refine wpAny_pyIter_list p.isList ?_
 refine ⟨s1.heap.objs.size, [s1.heap.objs.size], _, _, H1, rfl, I1.kept (t' := s1.toks) fun b o e => Heap.get?_push_of_some _ e, mZ a _, ⟨_, Heap.get?_push_size _ rfl, rfl, rfl⟩, fun b hb => ?_, q⟩
 have e : b = s1.heap.objs.size := by simpa using hb
 subst e
 exact I1.fpOk (Nat.le_refl _) (I1.hok.fresh (Nat.le_refl _))
theorem wD {l : Expr} {tl : TE} (hl : PE X l tl) : PI X tg l (zt X.K tl) := by
 intro pins s σ H R I h
 refine thn (hl pins s σ H _ I h) fun v s1 zr1 => ?_
 obtain ⟨x, H1, I1, r1, q1⟩ := zr1
 obtain ⟨a, e, ⟨xs, hq⟩, q⟩ := q1
 subst e
 cases r1
 obtain ⟨its, rv, p, hz⟩ := I1.tuple hq
 refine wpAny_pyIter_tuple (show s1.heap.IsTuple a its.toArray from p) ?_
 refine ⟨s1.heap.objs.size, [s1.heap.objs.size], _, _, H1, rfl, I1.kept (t' := s1.toks) fun b o e => Heap.get?_push_of_some _ e, kF a _, ⟨_, Heap.get?_push_size _ rfl, rfl, rfl⟩, fun b hb => ?_, q⟩
 have e : b = s1.heap.objs.size := by simpa using hb
 subst e
 exact I1.fpOk (Nat.le_refl _) (I1.hok.fresh (Nat.le_refl _))
theorem jE {pins : List (Addr × Obj)} {σ : St} {H : Hp} {s : Shared} {R : It -> Hp -> Prop} {E : Value -> Shared -> Prop} {lo hi : Int} {t u v : Tok} {tk : Nat} (I : Inv X pins σ H s) (h1 : -(2 ^ 62) <= lo) (h2 : lo < 2 ^ 62) (h3 : -(2 ^ 62) <= hi) (h4 : hi < 2 ^ 62)
  (q : R (Itr lo (hi - lo).toNat) H) : wpAny (model X.prog X.w) X.A (pyIter (.ref s.heap.objs.size)) (PIE X pins σ tg R) E { s with heap := s.heap.push { cls := .type "range", data := .fields #[.int lo t, .int hi u, .int 1 v] }, toks := tk } := by
 refine wpAny_pyIter_range (IsRange.new ..) (small_one h1 h2 h3 h4) ?_
 have I1 : Inv X pins σ H { s with heap := s.heap.push { cls := .type "range", data := .fields #[.int lo t, .int hi u, .int 1 v] }, toks := tk } := I.kept fun b o e => Heap.get?_push_of_some _ e
 refine ⟨(s.heap.push { cls := .type "range", data := .fields #[.int lo t, .int hi u, .int 1 v] }).objs.size, [(s.heap.push { cls := .type "range", data := .fields #[.int lo t, .int hi u, .int 1 v] }).objs.size], _, _, H, rfl,
  I1.kept (t' := tk) fun b o e => Heap.get?_push_of_some _ e, kG _ lo (hi - lo).toNat, ?_, fun b hb => ?_, q⟩
 ·have e1 : lo + ((0 : Nat) : Int) * 1 = lo := by simp
  have e2 : (((hi - lo).toNat : Nat) : Int) - ((0 : Nat) : Int) = Builtin.Range.rangeSize lo hi 1 := by rw [rangeSize_one]; split <;> omega
  show IsRangeIter _ _ (lo + ((0 : Nat) : Int) * 1) ((((hi - lo).toNat : Nat) : Int) - ((0 : Nat) : Int)) 1
  rw [e1, e2]
  exact Heap.get?_push_size _ rfl
 ·have e : b = (s.heap.push { cls := .type "range", data := .fields #[.int lo t, .int hi u, .int 1 v] }).objs.size := by simpa using hb
  subst e
  exact I1.fpOk (Nat.le_refl _) (I1.hok.fresh (Nat.le_refl _))
def uJ (ta : TA) : TI := fun σ H R => ta σ H fun vs H1 => ∃ j : Int, vs = [.int j] /\ -(2 ^ 62) <= j /\ j < 2 ^ 62 /\ R (Itr 0 j.toNat) H1
def uK (ta : TA) : TI := fun σ H R => ta σ H fun vs H1 => ∃ i j : Int, vs = [.int i, .int j] /\ (-(2 ^ 62) <= i /\ i < 2 ^ 62 /\ -(2 ^ 62) <= j /\ j < 2 ^ 62) /\ R (Itr i (j - i).toNat) H1
theorem m3 {a : Expr} {ta : TA} {p pos : Pos} (hg : Gl X "range") (hm : X.mg "range" = none) (ha : PA X [a] ta) (hs : starEach [a] X.env = [(false, eval a X.env)] := by rfl) : PI X tg (.Call (.Name "range" p) [a] [] pos) (uJ ta) := by
 intro pins s σ H R I h
 refine Call_ (dY I hg hm boot_range (PyProof.Rows.callWith_type1 (thn (ha pos pins s σ H _ I h) fun us s1 zr1 => ?_) hs rfl))
 obtain ⟨vs, H1, I1, r1, q1⟩ := zr1
 obtain ⟨j, e, q1, q2, q⟩ := q1
 subst e
 cases r1 with
 | cons r rr =>
  cases rr
  obtain ⟨t, rfl⟩ := r
  exact call_range_1 (jE I1 (by omega) (by omega) q1 q2 (by simpa using q))
theorem m4 {a b : Expr} {ta : TA} {p pos : Pos} (hg : Gl X "range") (hm : X.mg "range" = none) (ha : PA X [a, b] ta) (hs : starEach [a, b] X.env = [(false, eval a X.env), (false, eval b X.env)] := by rfl) (hs2 : starEach [b] X.env = [(false, eval b X.env)] := by rfl) :
  PI X tg (.Call (.Name "range" p) [a, b] [] pos) (uK ta) := by
 intro pins s σ H R I h
 refine Call_ (dY I hg hm boot_range (PyProof.Rows.callWith_type1 (thn (ha pos pins s σ H _ I h) fun us s1 ⟨vs, H1, I1, r1, q1⟩ => ?_) (by rw [hs, hs2]) (by rw [hs2]; rfl)))
 obtain ⟨i, j, e, ⟨q1, q2, q3, q4⟩, q⟩ := q1
 subst e
 cases r1 with
 | cons r rr =>
  cases rr with
  | cons r' rr =>
   cases rr
   obtain ⟨t, rfl⟩ := r
   obtain ⟨t', rfl⟩ := r'
   exact call_range_2 (jE I1 q1 q2 q3 q4 q)
def zu (wi : TI) (g : TG) (tb : TS) : TS := fun D σ H => wi σ H fun J H1 => ∃ W : Nat -> Nat -> St -> Hp -> Prop, (∃ m, W 0 m σ H1) /\ ∀ i m σ H, W i m σ H ->
 (J.stop i H /\ D.nx σ H) \/ (J.go i H /\ ∃ N : St -> Hp -> Prop, (∀ σ' H', N σ' H' -> ∃ m', m' < m /\ W (i + 1) m' σ' H') /\ ∀ x H', J.yld i H x H' -> g x σ H' fun σ2 H2 => tb { D with nx := N, ct := N, bk := D.nx } σ2 H2)
def gp (fp : List Addr) (h : Heap) : List (Addr × Obj) := fp.filterMap fun b => (h.get? b).map fun o => (b, o)
theorem cK {fp : List Addr} {h : Heap} {b : Addr} {o : Obj} (hb : b ∈ fp) (e : h.get? b = some o) : (b, o) ∈ gp fp h := List.mem_filterMap.mpr ⟨b, hb, by rw [e]; rfl⟩
theorem m5 {fp : List Addr} {h : Heap} {p : Addr × Obj} (hp : p ∈ gp fp h) : p.1 ∈ fp /\ h.get? p.1 = some p.2 := by
 obtain ⟨b, hb, e⟩ := List.mem_filterMap.mp hp
 cases q : h.get? b with
 | none => rw [q] at e; cases e
 | some o =>
  rw [q] at e
  have e' : (b, o) = p := Option.some.inj e
  subst e'
  exact ⟨hb, q⟩
theorem Inv.pinned {pins : List (Addr × Obj)} {σ : St} {H : Hp} {s : Shared} {fp : List Addr} (I : Inv X pins σ H s) (hf : ∀ b ∈ fp, gn X pins H b) (ho : ∀ b ∈ fp, ∃ o, s.heap.get? b = some o /\ ∀ v, o.data ≠ .cell v) : Inv X (pins ++ gp fp s.heap) σ H s :=
 I.pins_of fun p hp => (List.mem_append.mp hp).elim (fun z => I.pin p (List.mem_append_right _ z)) fun z => by
  obtain ⟨hb, e⟩ := m5 z
  obtain ⟨f0, f1, f2, _⟩ := hf p.1 hb
  obtain ⟨o, e', d⟩ := ho p.1 hb
  rw [e] at e'; cases e'
  exact ⟨e, f0, f1, f2, d⟩
theorem Inv.unpinned {pins pl : List (Addr × Obj)} {σ : St} {H : Hp} {s : Shared} (I : Inv X (pins ++ pl) σ H s) : Inv X pins σ H s := I.pins_of fun p hp => I.pin p (List.mem_append_right _ (List.mem_append_left _ hp))
theorem wF {iter : Expr} {body : List Stmt} {wi : TI} {g : TG} {tb : TS} {pos : Pos} (hp : PassesOwn (model X.prog X.w) X.A X.env X.xe) (hc : X.calm = true) (hi : PI X tg iter wi) (hg : PG X tg g) (hb : PSs X body tb)
  (hs : ∀ x, foldedSetIterable iter X.env x = pure x := by intro _; rfl) : PS X (.For tg iter body [] pos) (zu wi g tb) := by
 intro pins s σ H D I h
 refine wpAny_For (thn (hi pins s σ H _ I h) fun v s1 h1 => thn h1 fun itv s2 h2 => ?_) hs
 obtain ⟨it, fp, tn, J, H2, e, I2, T, st2, f2, W, ⟨m0, w0⟩, turn⟩ := h2
 subst e
 -- what stays true of the iterator's objects through the loop
 have stat : ∀ {H' : Hp}, (∀ b ∈ fp, H' b = none) -> ∀ b ∈ fp, gn X pins H' b := fun hn b hb => ⟨hn b hb, (f2 b hb).2⟩
 refine codeAny_forLoop_any (fun n s' => ∃ i σ' H', Inv X pins σ' H' s' /\ tn i s'.heap /\ (∀ b ∈ fp, H' b = none) /\ W i n σ' H') ?_ m0 ⟨0, σ, H2, I2, st2, fun b hb => (f2 b hb).1, w0⟩
 rintro n s3 ⟨i, σ3, H3, I3, st3, fr3, w3⟩
 rcases turn i n σ3 H3 w3 with ⟨stop, qn⟩ | ⟨go, N, hN, step⟩
 ·refine wpAny_passesOwn hp (thn (T.done X rfl rfl rfl hc i pins s3 σ3 H3 X.xe I3 (stat fr3) st3 stop) fun r s4 zr1 => ?_)
  obtain ⟨hr, I4⟩ := zr1
  subst hr
  exact wpAny_execs_nil ⟨σ3, H3, I4, qn⟩
 ·refine wpAny_passesOwn hp (thn (T.item X rfl rfl rfl hc i pins s3 σ3 H3 X.xe I3 (stat fr3) st3 go) fun r s4 zr1 => ?_)
  obtain ⟨u, hr, h4⟩ := zr1
  subst hr
  refine wpAny_passesOwn hp (thn h4 fun _ s5 zr1 => ?_)
  obtain ⟨x, H5, I5, r5, y5, st5, fr5⟩ := zr1
  have I5' := I5.pinned (stat fr5) (T.obj _ _ st5)
  refine wpAny_passesOwn hp (thn (hg _ s5 σ3 H5 x u _ I5' r5 (step x H5 y5)) fun _ s6 zr1 => ?_)
  obtain ⟨σ6, H6, I6, q6⟩ := zr1
  refine wpAny_passesOwn hp (thn (hb _ s6 σ6 H6 _ I6 q6) fun f s7 q7 => ?_)
  have again : ∀ {σ7 : St} {H7 : Hp}, Inv X (pins ++ gp fp s5.heap) σ7 H7 s7 -> N σ7 H7 -> ∃ m, m < n /\ ∃ i σ' H', Inv X pins σ' H' s7 /\ tn i s7.heap /\ (∀ b ∈ fp, H' b = none) /\ W i m σ' H' := fun {σ7 H7} I7 n7 => by
   obtain ⟨m', hm, w7⟩ := hN σ7 H7 n7
   refine ⟨m', hm, i + 1, σ7, H7, I7.unpinned, T.keep _ _ _ st5 fun b hb o e => (I7.pin (b, o) (List.mem_append_right _ (List.mem_append_right _ (cK hb e)))).1, fun b hb => ?_, w7⟩
   obtain ⟨o, e, d⟩ := T.obj _ _ st5 b hb
   exact (I7.pin (b, o) (List.mem_append_right _ (List.mem_append_right _ (cK hb e)))).2.1
  cases f with
  | next => obtain ⟨σ7, H7, I7, n7⟩ := q7; exact again I7 n7
  | cont => obtain ⟨σ7, H7, I7, n7⟩ := q7; exact again I7 n7
  | brk => obtain ⟨σ7, H7, I7, q7⟩ := q7; exact ⟨σ7, H7, I7.unpinned, q7⟩
  | ret v => obtain ⟨x7, σ7, H7, I7, r7, q7⟩ := q7; exact ⟨x7, σ7, H7, I7.unpinned, r7, q7⟩
end
end L2
namespace L2
open PySem PySem.Spec PyProof.Rows
abbrev R2 := V -> V -> Hp -> VK -> Prop
def OpR (X : Cx) (f : Value -> Value -> Sem Value) (r : R2) : Prop :=
 ∀ (pins : List (Addr × Obj)) (s : Shared) (σ : St) (H : Hp) (x y : V) (v u : Value) (Q : VK), Inv X pins σ H s -> RelV x v -> RelV y u -> r x y H Q ->
  wpAny (model X.prog X.w) X.A (f v u) (EP X pins σ Q) X.xe s
def UnR (X : Cx) (f : Value -> Sem Value) (r : V -> Hp -> VK -> Prop) : Prop :=
 ∀ (pins : List (Addr × Obj)) (s : Shared) (σ : St) (H : Hp) (x : V) (v : Value) (Q : VK), Inv X pins σ H s -> RelV x v -> r x H Q ->
  wpAny (model X.prog X.w) X.A (f v) (EP X pins σ Q) X.xe s
def bO (X : Cx) (f : Value) (r : List V -> Hp -> VK -> Prop) : Prop :=
 ∀ (pins : List (Addr × Obj)) (s : Shared) (σ : St) (H : Hp) (xs : List V) (us : List Value) (Q : VK), Inv X pins σ H s -> Vals xs us -> r xs H Q ->
  wpAny (model X.prog X.w) X.A (call f us) (EP X pins σ Q) X.xe s
def BV (X : Cx) (r : V -> Hp -> (Bool -> Hp -> Prop) -> Prop) : Prop :=
 ∀ (pins : List (Addr × Obj)) (s : Shared) (σ : St) (H : Hp) (x : V) (v : Value) (Q : Bool -> Hp -> Prop), Inv X pins σ H s -> RelV x v -> r x H Q ->
  wpAny (model X.prog X.w) X.A (truthy v) (TP X pins σ Q) X.xe s
def tOp (r : R2) (ta tb : TE) : TE := fun σ H Q => ta σ H fun x H1 => tb σ H1 fun y H2 => r x y H2 Q
def tUn (r : V -> Hp -> VK -> Prop) (ta : TE) : TE := fun σ H Q => ta σ H fun x H1 => r x H1 Q
def rI (C : Int -> Int -> Prop) (g : Int -> Int -> V) : R2 := fun x y H Q => ∃ i j, x = .int i /\ y = .int j /\ C i j /\ Q (g i j) H
def rI0 (g : Int -> Int -> V) : R2 := fun x y H Q => ∃ i j, x = .int i /\ y = .int j /\ Q (g i j) H
def rU (g : Int -> V) : V -> Hp -> VK -> Prop := fun x H Q => ∃ i, x = .int i /\ Q (g i) H
section
variable {X : Cx} {a b c : Expr} {ta tb tc : TE} {pos : Pos}
theorem wG (ha : PE X a ta) (hb : PE X b tb) {pins : List (Addr × Obj)} {s : Shared} {σ : St} {H : Hp} {R : V -> V -> Hp -> Prop} (I : Inv X pins σ H s)
  (h : ta σ H fun x H1 => tb σ H1 fun y H2 => R x y H2) {Q : Value -> Shared -> Prop} {f : Value -> Value -> Sem Value}
  (hf : ∀ v u s2 x y H2, Inv X pins σ H2 s2 -> RelV x v -> RelV y u -> R x y H2 -> wpAny (model X.prog X.w) X.A (f v u) Q X.xe s2) :
  wpAny (model X.prog X.w) X.A (eval a X.env) (fun v s₁ => wpAny (model X.prog X.w) X.A (eval b X.env) (fun u s₂ => wpAny (model X.prog X.w) X.A (f v u) Q X.xe s₂) X.xe s₁) X.xe s := by
 refine thn (ha pins s σ H _ I h) fun v s1 zr1 => ?_
 obtain ⟨x, H1, I1, r1, q1⟩ := zr1
 refine thn (hb pins s1 σ H1 _ I1 q1) fun u s2 zr1 => ?_
 obtain ⟨y, H2, I2, r2, q2⟩ := zr1
 exact hf v u s2 x y H2 I2 r1 r2 q2
theorem oo {op : Operator} {r : R2} (ho : OpR X (binaryOp op) r) (ha : PE X a ta) (hb : PE X b tb) : PE X (.BinOp a op b pos) (tOp r ta tb) := by
 intro pins s σ H Q I h
 exact wpAny_BinOp (wG ha hb I h fun v u s2 x y H2 I2 rx ry q => ho pins s2 σ H2 x y v u Q I2 rx ry q)
theorem zv {op : UnaryOp} {r : V -> Hp -> VK -> Prop} (ho : UnR X (unaryOp op) r) (ha : PE X a ta) : PE X (.UnaryOp op a pos) (tUn r ta) := by
 intro pins s σ H Q I h
 exact UnaryOp_ (thn (ha pins s σ H _ I h) fun v s1 zt1 => by obtain ⟨x, H1, I1, r1, q1⟩ := zt1; exact ho pins s1 σ H1 x v Q I1 r1 q1)
theorem opI {f : Value -> Value -> Sem Value} {C : Int -> Int -> Prop} {g : Int -> Int -> Int}
  (rule : ∀ (i j : Int) (t u : Tok) (s : Shared) (Q : Value -> Shared -> Prop) (E : Value -> Shared -> Prop), C i j -> Q (.int (g i j) s.toks) { s with toks := s.toks + 1 } -> wpAny (model X.prog X.w) X.A (f (.int i t) (.int j u)) Q E s) :
  OpR X f (rI C fun i j => .int (g i j)) := by
 intro pins s σ H x y v u Q I rx ry h
 obtain ⟨i, j, rfl, rfl, hc, q⟩ := h
 obtain ⟨t, rfl⟩ := rx
 obtain ⟨t', rfl⟩ := ry
 exact rule i j t t' s _ _ hc ⟨.int (g i j), H, I.tok _, ⟨_, rfl⟩, q⟩
theorem zw {f : Value -> Value -> Sem Value} {g : Int -> Int -> Int}
  (rule : ∀ (i j : Int) (t u : Tok) (s : Shared) (Q : Value -> Shared -> Prop) (E : Value -> Shared -> Prop), Q (.int (g i j) s.toks) { s with toks := s.toks + 1 } -> wpAny (model X.prog X.w) X.A (f (.int i t) (.int j u)) Q E s) :
  OpR X f (rI0 fun i j => .int (g i j)) := by
 intro pins s σ H x y v u Q I rx ry h
 obtain ⟨i, j, rfl, rfl, q⟩ := h
 obtain ⟨t, rfl⟩ := rx
 obtain ⟨t', rfl⟩ := ry
 exact rule i j t t' s _ _ ⟨.int (g i j), H, I.tok _, ⟨_, rfl⟩, q⟩
theorem wH {f : Value -> Value -> Sem Value} {g : Int -> Int -> Bool}
  (rule : ∀ (i j : Int) (t u : Tok) (s : Shared) (Q : Value -> Shared -> Prop) (E : Value -> Shared -> Prop), Q (.bool (g i j)) s -> wpAny (model X.prog X.w) X.A (f (.int i t) (.int j u)) Q E s) :
  OpR X f (rI0 fun i j => .bl (g i j)) := by
 intro pins s σ H x y v u Q I rx ry h
 obtain ⟨i, j, rfl, rfl, q⟩ := h
 obtain ⟨t, rfl⟩ := rx
 obtain ⟨t', rfl⟩ := ry
 exact rule i j t t' s _ _ ⟨.bl (g i j), H, I, rfl, q⟩
def BW (i j : Int) : Prop := 0 < j /\ j < 1073741824
def BX (i j : Int) : Prop := 0 <= j /\ j <= 1000000 /\ i.natAbs < 2 ^ 64
def wJ (i j : Int) : Prop := (-(2 ^ 64) < i /\ i < 2 ^ 64) \/ (-(2 ^ 64) < j /\ j < 2 ^ 64)
theorem wJ.ok {i j : Int} (h : wJ i j) : IntMulOk i j := by
 rcases h with ⟨h1, h2⟩ | ⟨h1, h2⟩
 ·exact .of_left (intBits_le_64 h1 h2)
 ·exact .of_right (intBits_le_64 h1 h2)
theorem aZ : OpR X (binaryOp .Add) (rI0 fun i j => .int (i + j)) := zw fun _ _ _ _ _ _ _ q => add_int q
theorem cL : OpR X (binaryOp .Sub) (rI0 fun i j => .int (i - j)) := zw fun _ _ _ _ _ _ _ q => sub_int q
theorem cM : OpR X (binaryOp .Mult) (rI wJ fun i j => .int (i * j)) := opI fun _ _ _ _ _ _ _ hc q => mul_int q hc.ok
theorem lO : OpR X (binaryOp .FloorDiv) (rI BW fun i j => .int (i / j)) := opI fun i j _ _ _ _ _ hc q => by
 have h1 : (0 : Int) < j := hc.1
 have h2 : j < 1073741824 := hc.2
 exact floordiv_int (by omega) (by rw [Int.fdiv_eq_ediv_of_nonneg i (by omega)]; exact q) (.inl (PyProof.noPylong_small (by omega)))
theorem cN : OpR X (binaryOp .Mod) (rI (fun _ j => 0 < j) fun i j => .int (i % j)) := opI fun i j _ _ _ _ _ hc q => by
 have h1 : (0 : Int) < j := hc
 exact mod_int' (by omega) (by rw [Int.fmod_eq_emod_of_nonneg i (by omega)]; exact q)
theorem gq : OpR X (binaryOp .Pow) (rI BX fun i j => .int (i ^ j.toNat)) := opI fun _ _ _ _ _ _ _ hc q => pow_int_small hc.1 hc.2.1 hc.2.2 q
theorem unI {f : Value -> Sem Value} {g : Int -> Int}
  (rule : ∀ (i : Int) (t : Tok) (s : Shared) (Q : Value -> Shared -> Prop) (E : Value -> Shared -> Prop), Q (.int (g i) s.toks) { s with toks := s.toks + 1 } -> wpAny (model X.prog X.w) X.A (f (.int i t)) Q E s) :
  UnR X f (rU fun i => .int (g i)) := by
 intro pins s σ H x v Q I rx h
 obtain ⟨i, rfl, q⟩ := h
 obtain ⟨t, rfl⟩ := rx
 exact rule i t s _ _ ⟨.int (g i), H, I.tok _, ⟨_, rfl⟩, q⟩
theorem dZ : UnR X (unaryOp .USub) (rU fun i => .int (-i)) := unI fun _ _ _ _ _ q => neg_int q
end
def rS : V -> V -> Bool
 | .non, .non => true | .non, .int _ => true | .int _, .non => true | .non, .bl _ => true | .bl _, .non => true | .non, .str _ => true | .str _, .non => true
 | .int _, .int _ => true | .bl _, .bl _ => true | .str _, .str _ => true | .byt _, .byt _ => true
 | .int _, .str _ => true | .str _, .int _ => true | .bl _, .str _ => true | .str _, .bl _ => true
 | _, _ => false
def rEq : R2 := fun x y H Q => rS x y = true /\ Q (.bl (decide (x = y))) H
def rNe : R2 := fun x y H Q => rS x y = true /\ Q (.bl (!decide (x = y))) H
theorem lP {i j : Int} : decide (V.int i = V.int j) = (i == j) := by
 rw [Bool.eq_iff_iff]
 simp
theorem oq {i j : Bool} : decide (V.bl i = V.bl j) = (i == j) := by
 rw [Bool.eq_iff_iff]
 simp
theorem lQ {i j : Str} : decide (V.str i = V.str j) = (i == j) := by
 rw [Bool.eq_iff_iff]
 simp
theorem lR {i j : Array UInt8} : decide (V.byt i = V.byt j) = (i.toList == j.toList) := by
 rw [Bool.eq_iff_iff]
 cases i
 cases j
 simp
section
variable {X : Cx} {a b c : Expr} {ta tb tc : TE} {pos : Pos}
theorem aB {pins : List (Addr × Obj)} {σ : St} {H : Hp} {s : Shared} {Q : VK} {k k' : Bool} (I : Inv X pins σ H s) (q : Q (.bl k) H) (e : k = k') : EP X pins σ Q (.bool k') s := by
 subst e
 exact ⟨.bl k, H, I, rfl, q⟩
theorem dh : OpR X (compareOp .Eq) rEq := by
 intro pins s σ H x y v u Q I rx ry h
 obtain ⟨hs, q⟩ := h
 cases x with
 | non =>
  cases rx
  cases y with
  | non => cases ry; exact PySem.EqNone.eq_none_none (aB I q (by simp))
  | bl j => cases ry; exact PySem.EqNone.eq_none_bool (aB I q (by simp))
  | int j => obtain ⟨t', rfl⟩ := ry; exact PySem.EqNone.eq_none_int (aB I q (by simp))
  | str j => obtain ⟨t', rfl⟩ := ry; exact PySem.EqNone.eq_none_str (aB I q (by simp))
  | _ => exact absurd (show false = true from hs) Bool.false_ne_true
 | bl i =>
  cases rx
  cases y with
  | non => cases ry; exact PySem.EqNone.eq_bool_none (aB I q (by simp))
  | bl j => cases ry; exact eq_bool (aB I q oq)
  | str j => obtain ⟨t', rfl⟩ := ry; exact PySem.EqMixed.eq_bool_str (aB I q (by simp))
  | _ => exact absurd (show false = true from hs) Bool.false_ne_true
 | int i =>
  obtain ⟨t, rfl⟩ := rx
  cases y with
  | non => cases ry; exact PySem.EqNone.eq_int_none (aB I q (by simp))
  | int j => obtain ⟨t', rfl⟩ := ry; exact eq_int (aB I q lP)
  | str j => obtain ⟨t', rfl⟩ := ry; exact PySem.EqMixed.eq_int_str (aB I q (by simp))
  | _ => exact absurd (show false = true from hs) Bool.false_ne_true
 | str i =>
  obtain ⟨t, rfl⟩ := rx
  cases y with
  | non => cases ry; exact PySem.EqNone.eq_str_none (aB I q (by simp))
  | bl j => cases ry; exact PySem.EqMixed.eq_str_bool (aB I q (by simp))
  | int j => obtain ⟨t', rfl⟩ := ry; exact PySem.EqMixed.eq_str_int (aB I q (by simp))
  | str j => obtain ⟨t', rfl⟩ := ry; exact eq_str (aB I q lQ)
  | _ => exact absurd (show false = true from hs) Bool.false_ne_true
 | byt i =>
  obtain ⟨t, rfl⟩ := rx
  cases y with
  | byt j => obtain ⟨t', rfl⟩ := ry; exact PySem.W.eq_bytes (aB I q lR)
  | _ => exact absurd (show false = true from hs) Bool.false_ne_true
 | _ => cases y <;> exact absurd (show false = true from hs) Bool.false_ne_true
theorem zx : OpR X (compareOp .NotEq) rNe := by
 intro pins s σ H x y v u Q I rx ry h
 obtain ⟨hs, q⟩ := h
 cases x with
 | non =>
  cases rx
  cases y with
  | non => cases ry; exact PySem.EqNone.ne_none_none (aB I q (by simp))
  | bl j => cases ry; exact PySem.EqNone.ne_none_bool (aB I q (by simp))
  | int j => obtain ⟨t', rfl⟩ := ry; exact PySem.EqNone.ne_none_int (aB I q (by simp))
  | str j => obtain ⟨t', rfl⟩ := ry; exact PySem.EqNone.ne_none_str (aB I q (by simp))
  | _ => exact absurd (show false = true from hs) Bool.false_ne_true
 | bl i =>
  cases rx
  cases y with
  | non => cases ry; exact PySem.EqNone.ne_bool_none (aB I q (by simp))
  | bl j => cases ry; exact ne_bool (aB I q (congrArg not oq))
  | str j => obtain ⟨t', rfl⟩ := ry; exact PySem.EqMixed.ne_bool_str (aB I q (by simp))
  | _ => exact absurd (show false = true from hs) Bool.false_ne_true
 | int i =>
  obtain ⟨t, rfl⟩ := rx
  cases y with
  | non => cases ry; exact PySem.EqNone.ne_int_none (aB I q (by simp))
  | int j => obtain ⟨t', rfl⟩ := ry; exact ne_int (aB I q (congrArg not lP))
  | str j => obtain ⟨t', rfl⟩ := ry; exact PySem.EqMixed.ne_int_str (aB I q (by simp))
  | _ => exact absurd (show false = true from hs) Bool.false_ne_true
 | str i =>
  obtain ⟨t, rfl⟩ := rx
  cases y with
  | non => cases ry; exact PySem.EqNone.ne_str_none (aB I q (by simp))
  | bl j => cases ry; exact PySem.EqMixed.ne_str_bool (aB I q (by simp))
  | int j => obtain ⟨t', rfl⟩ := ry; exact PySem.EqMixed.ne_str_int (aB I q (by simp))
  | str j => obtain ⟨t', rfl⟩ := ry; exact ne_str (aB I q (congrArg not lQ))
  | _ => exact absurd (show false = true from hs) Bool.false_ne_true
 | byt i =>
  obtain ⟨t, rfl⟩ := rx
  cases y with
  | byt j => obtain ⟨t', rfl⟩ := ry; exact PySem.W.ne_bytes (aB I q (congrArg not lR))
  | _ => exact absurd (show false = true from hs) Bool.false_ne_true
 | _ => cases y <;> exact absurd (show false = true from hs) Bool.false_ne_true
theorem uL : OpR X (compareOp .Lt) (rI0 fun i j => .bl (decide (i < j))) := wH fun _ _ _ _ _ _ _ q => lt_int q
theorem lS : OpR X (compareOp .Gt) (rI0 fun i j => .bl (decide (j < i))) := wH fun _ _ _ _ _ _ _ q => gt_int q
theorem zy : OpR X (compareOp .GtE) (rI0 fun i j => .bl (decide (j <= i))) := wH fun _ _ _ _ _ _ _ q => ge_int q
theorem wK : OpR X (compareOp .Is) (fun x y H Q => y = .non /\ Q (.bl (decide (x = .non))) H) := by
 intro pins s σ H x y v u Q I rx ry h
 obtain ⟨rfl, q⟩ := h
 cases ry
 refine is_none_gen (aB I q ?_)
 cases x <;> first
  | (cases rx; rfl)
  | (obtain ⟨t, rfl⟩ := rx; rfl)
theorem rT : OpR X (compareOp .IsNot) (fun x y H Q => y = .non /\ Q (.bl (!decide (x = .non))) H) := by
 intro pins s σ H x y v u Q I rx ry h
 obtain ⟨rfl, q⟩ := h
 cases ry
 refine isnot_none_gen (aB I q ?_)
 cases x <;> first
  | (cases rx; rfl)
  | (obtain ⟨t, rfl⟩ := rx; rfl)
theorem aH (b : Expr) {op : CmpOp} (h : op ≠ .In := by decide) (h2 : op ≠ .NotIn := by decide) : behindInMarks op b = false := by
 have e1 : (op == CmpOp.In) = false := by cases op <;> first | rfl | exact absurd rfl h
 have e2 : (op == CmpOp.NotIn) = false := by cases op <;> first | rfl | exact absurd rfl h2
 cases b <;> simp [behindInMarks, e1, e2]
theorem rV {op : CmpOp} {r : R2} (ho : OpR X (compareOp op) r) (ha : PE X a ta) (hb : PE X b tb) (hm : behindInMarks op b = false) : PE X (.Compare a [op] [b] pos) (tOp r ta tb) := by
 intro pins s σ H Q I h
 exact wpAny_Compare1 (wG ha hb I h fun v u s2 x y H2 I2 rx ry q => ho pins s2 σ H2 x y v u Q I2 rx ry q) hm
def lT (t : TE) : TT := fun σ H Q => t σ H fun x H' => ∃ k, x = .bl k /\ Q k H'
theorem lU {op : CmpOp} {r : R2} (ho : OpR X (compareOp op) r) (ha : PE X a ta) (hb : PE X b tb) (hm : behindInMarks op b = false) : PT X (.Compare a [op] [b] pos) (lT (tOp r ta tb)) := by
 intro pins s σ H Q I h
 refine wpAny_isTrue_Compare1 (thn (ha pins s σ H _ I h) fun v s1 ⟨x, H1, I1, r1, q1⟩ => thn (hb pins s1 σ H1 _ I1 q1) fun u s2 ⟨y, H2, I2, r2, q2⟩ =>
  thn (ho pins s2 σ H2 x y v u _ I2 r1 r2 q2) fun c s3 ⟨z, H3, I3, r3, k, e, q3⟩ => ?_) hm
 subst e
 cases r3
 exact wpAny_truthy_bool ⟨H3, I3, q3⟩
def TruV (K : PySem.W.Frag) (x : V) (H : Hp) (k : Bool) : Prop :=
 match x with
 | .non => k = false
 | .bl b => k = b
 | .int i => k = (i != 0)
 | .str y => y.length <= sizeLine /\ k = ((y.length : Int) != 0)
 | .byt y => y.size <= sizeLine /\ k = ((y.size : Int) != 0)
 | .ref p => (∃ xs, SqL K H p xs /\ k = !xs.isEmpty) \/ (∃ xs, SqT K H p xs /\ k = !xs.isEmpty) \/ ∃ kvs, H p = some (.dK kvs) /\ k = !kvs.isEmpty
 | _ => False
theorem kH {κ : Type} {kvs : List (κ × V)} {vs : List (κ × Value)} (r : KV kvs vs) : (!vs.isEmpty) = !kvs.isEmpty := by
 cases r <;> rfl
theorem gu {xs : List V} {its : List Value} (r : Vals xs its) : (!its.toArray.isEmpty) = !xs.isEmpty := by
 cases r <;> simp
theorem fj : (sizeLine : Nat) < 2 ^ 63 := by rw [sizeLine_eq]; decide
theorem wL : BV X (fun x H Q => ∃ k, TruV X.K x H k /\ Q k H) := by
 intro pins s σ H x v Q I rx h
 obtain ⟨k, e, q⟩ := h
 have hl := fj
 have hs : sizeLine = 16777216 := sizeLine_eq
 cases x with
 | non =>
  cases rx
  have e' : k = false := e
  subst e'
  exact truthy_none ⟨H, I, q⟩
 | bl b =>
  cases rx
  have e' : k = b := e
  subst e'
  exact wpAny_truthy_bool ⟨H, I, q⟩
 | int i =>
  obtain ⟨t, rfl⟩ := rx
  have e' : k = (i != 0) := e
  subst e'
  exact PySem.P.truthy_int ⟨H, I, q⟩
 | str y =>
  obtain ⟨t, rfl⟩ := rx
  obtain ⟨hy, e'⟩ : y.length <= sizeLine /\ k = ((y.length : Int) != 0) := e
  subst e'
  exact PySem.P.truthy_str (by omega) ⟨H, I.tok _, q⟩
 | byt y =>
  obtain ⟨t, rfl⟩ := rx
  obtain ⟨hy, e'⟩ : y.size <= sizeLine /\ k = ((y.size : Int) != 0) := e
  subst e'
  exact PySem.W.truthy_bytes (by omega) ⟨H, I.tok _, q⟩
 | ref p =>
  cases rx
  have e' : (∃ xs, SqL X.K H p xs /\ k = !xs.isEmpty) \/ (∃ xs, SqT X.K H p xs /\ k = !xs.isEmpty) \/ ∃ kvs, H p = some (.dK kvs) /\ k = !kvs.isEmpty := e
  rcases e' with ⟨xs, hx, e'⟩ | ⟨xs, hx, e'⟩ | ⟨kvs, hx, e'⟩
  ·subst e'
   obtain ⟨its, r, pl, hz⟩ := I.list hx
   have hlen := r.length
   exact wpAny_truthy_list pl.isList (by simp only [List.size_toArray]; omega) ⟨H, I.tok _, by rw [gu r]; exact q⟩
  ·subst e'
   obtain ⟨its, r, pl, hz⟩ := I.tuple hx
   have hlen := r.length
   exact truthy_tuple pl (by simp only [List.size_toArray]; omega) ⟨H, I.tok _, by rw [gu r]; exact q⟩
  ·subst e'
   obtain ⟨hz, hS, vs, r, m⟩ : kvs.length <= sizeLine /\ (p == sysModules) = false /\ ∃ vs, KV kvs vs /\ s.heap.DictOf (i6 X.prog X.w) p vs := I.hok p _ hx
   have hlen : kvs.length = vs.length := Paired.length r
   exact wpAny_truthy_dict hS m (by omega) ⟨H, I.tok _, by rw [kH r]; exact q⟩
 | _ => exact (show False from e).elim
theorem ot (ha : PE X a ta) (he : ∀ whole, isTrue a X.env whole = (do let v <- whole; standAt a.pos; holding [v] (truthy v))) :
  PT X a (fun σ H Q => ta σ H fun x H' => ∃ k, TruV X.K x H' k /\ Q k H') := by
 intro pins s σ H Q I h
 exact isTrue_plain (thn (ha pins s σ H _ I h) fun v s1 zt1 => by obtain ⟨x, H1, I1, r1, q1⟩ := zt1; exact wL pins s1 σ H1 x v Q I1 r1 q1) (he _)
theorem vals1 {x : V} {us : List Value} (r : Vals [x] us) : ∃ u, us = [u] /\ RelV x u := by
 cases r with
 | cons r1 r2 => cases r2; exact ⟨_, rfl, r1⟩
theorem vals2 {x y : V} {us : List Value} (r : Vals [x, y] us) : ∃ u w', us = [u, w'] /\ RelV x u /\ RelV y w' := by
 cases r with
 | cons r1 r2 =>
  cases r2 with
  | cons r3 r4 => cases r4; exact ⟨_, _, rfl, r1, r3⟩
theorem iz (hc : X.calm = true) : bO X (.builtin "max") (fun xs H Q => ∃ i j, xs = [.int i, .int j] /\ Q (.int (if j > i then j else i)) H) := by
 intro pins s σ H xs us Q I r h
 obtain ⟨i, j, rfl, q⟩ := h
 obtain ⟨u, w', rfl, ⟨t, rfl⟩, ⟨t', rfl⟩⟩ := vals2 r
 refine max_two_ints (I.ok.hd hc) fun h' tk k => ⟨_, H, I.kept k, ?_, q⟩
 by_cases hj : j > i
 ·rw [if_pos hj, if_pos hj]; exact ⟨_, rfl⟩
 ·rw [if_neg hj, if_neg hj]; exact ⟨_, rfl⟩
theorem m6 : bO X (.type "int") (fun xs H Q => (∃ i, xs = [.int i] /\ Q (.int i) H) \/ ∃ k, xs = [.bl k] /\ Q (.int (if k then 1 else 0)) H) := by
 intro pins s σ H xs us Q I r h
 rcases h with ⟨i, rfl, q⟩ | ⟨k, rfl, q⟩
 ·obtain ⟨u, rfl, t, rfl⟩ := vals1 r
  exact call_int_int ⟨.int i, H, I, ⟨_, rfl⟩, q⟩
 ·obtain ⟨u, rfl, r1⟩ := vals1 r
  cases r1
  exact call_int_bool ⟨.int (if k then 1 else 0), H, I.tok _, ⟨_, rfl⟩, q⟩
end
end L2
namespace L2
open PySem PySem.Spec PyProof.Rows
structure ObjM (h : Heap) (x dx C : Addr) (mA : Str -> Option Value) : Prop where
 obj : h.get? x = some (PySem.W.instObj C dx)
 ns : h.Ns1 dx mA
 ne : dx ≠ x
theorem m7 {h : Heap} {dx : Addr} {mA : Str -> Option Value} (n : h.Ns1 dx mA) : ∃ od, h.get? dx = some od /\ ∀ name, PySem.W.lookIn name od = some (mA name) := by
 obtain ⟨o, es, ep, ho, hd, hk, _, hm⟩ := n
 refine ⟨o, ho, fun name => ?_⟩
 have e := hm name
 unfold nsFind findBy at e
 rw [<- Array.find?_toList] at e
 unfold PySem.W.lookIn
 rw [hd]
 dsimp only
 split
 ·rename_i y q
  rw [q] at e
  exact congrArg some e
 ·rename_i q
  rw [q] at e
  have a : es.toList.any (·.refKey) = false := by
   rw [List.any_eq_false]
   intro y hy
   obtain ⟨z, t, hkey⟩ := hk y (Array.mem_toList_iff.mp hy)
   simp [DictEntry.refKey, hkey]
  have a' : ¬ es.toList.any (·.refKey) = true := by rw [a]; exact Bool.false_ne_true
  rw [if_neg a']
  exact congrArg some e
theorem ObjM.look {h : Heap} {x dx C : Addr} {mA : Str -> Option Value} (I : ObjM h x dx C mA) : ∃ od, PySem.W.InstAt h x (PySem.W.instObj C dx) C (some od) /\ ∀ name, PySem.W.lookIn name od = some (mA name) :=
 let ⟨od, ho, hl⟩ := m7 I.ns
 ⟨od, ⟨I.obj, rfl, rfl, ho⟩, hl⟩
section
variable {P : Program} {w : World} {H H' : Hp} {h h' : Heap} {a C dx : Addr} {fs fs' : List (Str × V)}
theorem rW (hok : HOk P w H h) (e : H a = some (.ins C dx fs)) : ∃ mA, ObjM h a dx C mA /\ (∀ f, RelO (fs.lookup f) (mA f)) /\ PySem.Within mA (fs.map (·.1)) /\ fs.length <= 1000 /\ H dx = some (.own a) := by
 obtain ⟨d, z, ne, ob, mA, n, r, q⟩ := (show ObjOk P w H h a (.ins C dx fs) from hok a _ e)
 exact ⟨mA, ⟨ob, n, ne⟩, r, q, z, d⟩
end
structure Cls (K : PySem.W.Frag) (C : Addr) : Prop where
 pg : PySem.W.plainGet K C Str.empty = true
 hd : PySem.W.hasDictIn K C = true
 po : PySem.W.plainOver K C = true
 sa : PySem.W.findIn K (.ref C) "__setattr__" = some (some (.builtin "object.__setattr__"))
theorem Cls.get {K : PySem.W.Frag} {C : Addr} (c : Cls K C) (f : Str) : PySem.W.plainGet K C f = true := c.pg
section
variable {X : Cx} {pins : List (Addr × Obj)} {σ : St} {H : Hp} {s : Shared} {A : Around} {E : Value -> Shared -> Prop} {Q : Value -> Shared -> Prop} {c : Value} {b : Bool}
inductive fM (K : PySem.W.Frag) (H : Hp) : V -> Value -> Prop where
 | non : fM K H .non (.type "NoneType")
 | bl (x : Bool) : fM K H (.bl x) (.type "bool")
 | int (i : Int) : fM K H (.int i) (.type "int")
 | str (x : Str) : fM K H (.str x) (.type "str")
 | flt (x : UInt64) : fM K H (.flt x) (.type "float")
 | lst {a : Addr} {xs : List V} (e : H a = some (.lst xs)) : fM K H (.ref a) (.type "list")
 | frz {a : Addr} {o : Obj} {xs : List V} (e : H a = some (.frz o (.lst xs))) : fM K H (.ref a) (.type "list")
 | tup {a : Addr} {xs : List V} (e : H a = some (.tup xs)) : fM K H (.ref a) (.type "tuple")
 | dK {a : Addr} {kvs : List (Key × V)} (e : H a = some (.dK kvs)) : fM K H (.ref a) (.type "dict")
 | dT {a : Addr} {kvs : List (List Key × V)} (e : H a = some (.dT kvs)) : fM K H (.ref a) (.type "dict")
 | ins {a C dx : Addr} {fs : List (Str × V)} (e : H a = some (.ins C dx fs)) (cl : Cls K C) (ha : PySem.W.findIn K (.ref C) "__class__" = some (some (.builtin "object.__class__")))
   (hn : PySem.W.specialIn K (.builtin "object.__class__") "__get__" = some (some (.builtin "getset_descriptor.__get__"))) (htk : PySem.W.takesIn K (.builtin "object.__class__") = some true)
   (hm : PySem.W.mroIn K C (.type "object") = some true) : fM K H (.ref a) (.ref C)
theorem bS {x : V} {u t : Value} (I : Inv X pins σ H s) (rx : RelV x u) (ty : fM X.K H x t) (e : PySem.W.kitOne X.K t c = some b) (h : ∀ tk, Q (.bool b) { s with toks := tk }) :
  wpAny (model X.prog X.w) A (call (.builtin "isinstance") [u, c]) Q E s := by
 cases ty with
 | non => cases (show u = Value.none from rx); exact PySem.W.kia_one PySem.W.kitx_none I.kIn True.intro e (fun z => nomatch z) h
 | bl y => cases (show u = Value.bool y from rx); exact PySem.W.kia_one PySem.W.kitx_bool I.kIn True.intro e (fun z => nomatch z) h
 | int i => obtain ⟨t, q⟩ := (show ∃ t, u = Value.int i t from rx); cases q; exact PySem.W.kia_one PySem.W.kitx_int I.kIn True.intro e (fun z => nomatch z) h
 | str y => obtain ⟨t, q⟩ := (show ∃ t, u = Value.str y t from rx); cases q; exact PySem.W.kia_one PySem.W.kitx_str I.kIn True.intro e (fun z => nomatch z) h
 | flt y => obtain ⟨t, q⟩ := (show ∃ t, u = Value.float y t from rx); cases q; exact PySem.W.kia_one PySem.W.kitx_float I.kIn True.intro e (fun z => nomatch z) h
 | @lst a xs ea =>
  cases (show u = Value.ref a from rx)
  obtain ⟨_, _, n, _, h1⟩ := (show ObjOk X.prog X.w H s.heap a (.lst xs) from I.hok a _ ea)
  exact PySem.W.kia_one PySem.W.kitx_list I.kIn ⟨_, h1, rfl⟩ e (fun z => nomatch z) h
 | @frz a ob xs ea =>
  cases (show u = Value.ref a from rx)
  obtain ⟨_, _, _, n, _, h1⟩ := (show ObjOk X.prog X.w H s.heap a (.frz ob (.lst xs)) from I.hok a _ ea)
  exact PySem.W.kia_one PySem.W.kitx_list I.kIn ⟨_, h1, rfl⟩ e (fun z => nomatch z) h
 | @tup a xs ea =>
  cases (show u = Value.ref a from rx)
  obtain ⟨_, _, _, p⟩ := (show ObjOk X.prog X.w H s.heap a (.tup xs) from I.hok a _ ea)
  obtain ⟨o, h1, h2, _⟩ := p
  exact PySem.W.kia_one PySem.W.kitx_tuple I.kIn ⟨o, h1, h2⟩ e (fun z => nomatch z) h
 | @dK a kvs ea =>
  cases (show u = Value.ref a from rx)
  obtain ⟨_, _, vs, _, p⟩ := (show ObjOk X.prog X.w H s.heap a (.dK kvs) from I.hok a _ ea)
  obtain ⟨o, es, ep, h1, h2, _⟩ := p
  exact PySem.W.kia_one PySem.W.kitx_dict I.kIn ⟨o, h1, h2.1⟩ e (fun z => nomatch z) h
 | @dT a kvs ea =>
  cases (show u = Value.ref a from rx)
  obtain ⟨_, _, xs, _, o, es, ep, h1, h2, _⟩ := (show ObjOk X.prog X.w H s.heap a (.dT kvs) from I.hok a _ ea)
  exact PySem.W.kia_one PySem.W.kitx_dict I.kIn ⟨o, h1, h2.1⟩ e (fun z => nomatch z) h
 | @ins a C dx fs ea cl ha hn htk hm =>
  cases (show u = Value.ref a from rx)
  obtain ⟨mA, O, _⟩ := rW I.hok ea
  obtain ⟨od, J, _⟩ := O.look
  exact PySem.W.kia_one (PySem.W.kitx_own (cl.get _) cl.hd ha hn htk hm) I.kIn J e (fun z => nomatch z) h
end
end L2
namespace L2
open PySem PySem.Spec PyProof.Rows
structure aQ (k : Nat) (A : Around) : Prop where
 hd : A.handled = none
 dp : A.depth + 3 * k + 5 < recursionLimit
 un : A.units + 16 * k + 200 < cLine
 gd : A.guards = some []
theorem aQ.mono {j k : Nat} {A : Around} (r : aQ k A) (h : j <= k) : aQ j A := ⟨r.hd, by have := r.dp; omega, by have := r.un; omega, r.gd⟩
theorem aQ.deeper {k : Nat} {A : Around} (r : aQ (k + 1) A) (env : Env) : aQ k (A.deeper env) :=
 ⟨r.hd, by have := r.dp; show A.depth + 1 + 3 * k + 5 < _; omega, by have := r.un; show A.units + 3 + 16 * k + 200 < _; omega, r.gd⟩
theorem aQ.in1 {k : Nat} {A : Around} (r : aQ (k + 1) A) : aQ k A.in1 :=
 ⟨r.hd, by have := r.dp; show A.depth + 3 * k + 5 < _; omega, by have := r.un; show A.units + 1 + 16 * k + 200 < _; omega, r.gd⟩
theorem aQ.depth {k : Nat} {A : Around} (r : aQ k A) : A.depth < recursionLimit := by have := r.dp; omega
theorem aQ.units {k : Nat} {A : Around} (r : aQ k A) : A.units + 64 < cLine := by have := r.un; omega
theorem aQ.units0 {k : Nat} {A : Around} (r : aQ k A) : A.units < cLine := by have := r.un; omega
def jF : TA := fun _ H Q => Q [] H
def dS (ta : TE) (tr : TA) : TA := fun σ H Q => ta σ H fun x H1 => tr σ H1 fun xs H2 => Q (x :: xs) H2
section
variable {X : Cx} {e : Expr} {es : List Expr} {te : TE} {t : TA} {pos : Pos}
theorem fq : PA X [] jF := fun _ _ _ _ H Q I h => Calls.spliced_nil ⟨[], H, I, .nil, h⟩
theorem bR (ha : PE X e te) (hr : PA X es t) (hs : starEach (e :: es) X.env = (false, eval e X.env) :: starEach es X.env := by rfl) : PA X (e :: es) (dS te t) := by
 intro pos pins s σ H Q I h
 rw [hs]
 show wpAny _ _ (spliced ((false, eval e X.env) :: backTo pos (starEach es X.env))) _ _ s
 refine Calls.spliced_cons (thn (ha pins s σ H _ I h) fun u s1 zr1 => ?_)
 obtain ⟨x, H1, I1, r1, q1⟩ := zr1
 exact thn (hr pos pins s1 σ H1 _ I1 q1) fun us s2 zt1 => by obtain ⟨xs, H2, I2, r2, q2⟩ := zt1; exact ⟨x :: xs, H2, I2, .cons r1 r2, q2⟩
def wM (t : TA) : TE := fun σ H Q => t σ H fun xs H1 => xs.length <= sizeLine /\ ∀ p, H1 p = none -> Q (.ref p) (upd H1 p (.tup xs))
def zz (t : TA) : TE := fun σ H Q => t σ H fun xs H1 => xs.length <= sizeLine /\ ∀ p, H1 p = none -> Q (.ref p) (upd H1 p (.lst xs))
theorem ou {x1} (h : PA X es t) : PE X (.Tuple es x1 pos) (wM t) := by
 intro pins s σ H Q I hq
 refine wpAny_Tuple_spliced (thn (h pos pins s σ H _ I hq) fun us s1 ⟨xs, H1, I1, r, z, q⟩ => ⟨by rw [<- r.length]; exact z, ?_⟩)
 have hf : H1 s1.heap.objs.size = none := I1.hok.fresh (Nat.le_refl _)
 refine ⟨.ref s1.heap.objs.size, upd H1 s1.heap.objs.size (.tup xs), I1.laid (t' := s1.toks) (fun b u e => Heap.get?_push_of_some _ e) (Nat.le_refl _) ?_, rfl, q _ hf⟩
 exact ⟨z, us, r, ⟨_, Heap.get?_push_size _ rfl, rfl, _, rfl⟩⟩
theorem wN (h : PA X es t) : PE X (.List es pos) (zz t) := by
 intro pins s σ H Q I hq
 refine wpAny_List_spliced (thn (h pos pins s σ H _ I hq) fun us s1 ⟨xs, H1, I1, r, z, q⟩ => ⟨by rw [<- r.length]; exact z, ?_⟩)
 have hf : H1 s1.heap.objs.size = none := I1.hok.fresh (Nat.le_refl _)
 refine ⟨.ref s1.heap.objs.size, upd H1 s1.heap.objs.size (.lst xs), I1.laid (t' := s1.toks) (fun b u e => Heap.get?_push_of_some _ e) (Nat.le_refl _) ?_, rfl, q _ hf⟩
 exact ⟨z, us, 0, r, Heap.get?_push_size _ rfl⟩
end
abbrev Sp := List V -> Hp -> VK -> XK -> Prop
abbrev CXT := List Env -> Hp -> Shared -> XK -> Value -> Shared -> Prop
structure Env0 (P : Program) (w : World) (K : PySem.W.Frag) (mg : Str -> Option Value) (base : Heap) (A : Around) (outer : List Env) (s : Shared) (H : Hp) : Prop where
 frames : A.frames = some outer
 mod : Mod K mg base
 bs : ∀ b o, base.get? b = some o -> s.heap.get? b = some o /\ H b = none
 bsz : base.objs.size <= s.heap.objs.size
 funs : s.heap.FunFrames base outer
 frf : ∀ b ∈ frs outer, H b = none
 hok : HOk P w H s.heap
 bare : AllBare s.gens
def CE (outer : List Env) (P : Program) (w : World) (H : Hp) (s : Shared) (Q : VK) (u : Value) (s' : Shared) : Prop :=
 ∃ v H', s'.os = s.os /\ AllBare s'.gens /\ Un (frs outer) [] H H' s.heap s'.heap /\ HOk P w H' s'.heap /\ RelV v u /\ Q v H'
def CR (CX : CXT) (outer : List Env) (P : Program) (w : World) (H : Hp) (s : Shared) (Q : VK) (E : XK) (r : Result) (s' : Shared) : Prop :=
 match r with
 | .ok (.ret u) => CE outer P w H s Q u s'
 | .ok _ => False
 | .error e => CX outer H s E e s'
structure fN (P : Program) (w : World) (K : PySem.W.Frag) (mg : Str -> Option Value) (base : Heap) (CX : CXT) (k : Nat) (f : Addr) (fd : FuncData) (ps : List Str) (sp : Sp) : Prop where
 len : ∀ vs H Q E, sp vs H Q E -> vs.length = ps.length
 run : ∀ (A : Around) (outer : List Env) (s : Shared) (H : Hp) (args : Args) (us : List Value) (vs : List V) (Q : VK) (E : XK), aQ k A -> Env0 P w K mg base A outer s H -> BindsTo s fd args (ps.zip us) -> Vals vs us -> sp vs H Q E ->
  codeAny (model P w) A (.call (.ref f) args) (CR CX outer P w H s Q E) s
section
variable {X : Cx} {pins : List (Addr × Obj)} {σ : St} {H : Hp} {s s' : Shared}
theorem Inv.env0 (I : Inv X pins σ H s) : Env0 X.prog X.w X.K X.mg X.base X.A X.stack s H :=
 ⟨I.ok.frames, I.ok.mod, I.bs, Nat.le_trans I.ok.bsz I.sz, I.stack, I.stkFree, I.hok, I.bare⟩
theorem Inv.after {Q : VK} {u : Value} (I : Inv X pins σ H s) (h : CE X.stack X.prog X.w H s Q u s') : EP X pins σ Q u s' := by
 obtain ⟨v, H', os, bare, un, hok, r, q⟩ := h
 obtain ⟨hh, g, d, t, os'⟩ := s'
 obtain rfl : os' = s.os := os
 exact ⟨v, H', I.call (h' := hh) (g' := g) (d' := d) (t' := t) (ch := []) un hok bare (fun b z => absurd z (by simp)), r, q⟩
end
def dU (sp : Sp) (dvs : List V) (E : XK) (t : TA) : TE := fun σ H Q => t σ H fun vs H1 => sp (vs ++ dvs) H1 Q E
def Binds (K : PySem.W.Frag) (fd : FuncData) (ps : List Str) (ds : List Value) : Prop :=
 ∀ (s : Shared) (us : List Value), K.In s.heap -> (us ++ ds).length = ps.length -> BindsTo s fd ⟨us, []⟩ (ps.zip (us ++ ds))
theorem Binds.all {K : PySem.W.Frag} {fd : FuncData} {ps : List Str} (h : ∀ us : List Value, us.length = ps.length -> bindArgs fd ⟨us, []⟩ = pure (ps.zip us)) : Binds K fd ps [] := fun s us _ hl => by
 rw [List.append_nil] at hl ⊢
 exact .of_eq (h us hl)
def kI (CX : CXT) (X : Cx) (E : XK) : Prop := ∀ (pins : List (Addr × Obj)) (σ : St) (H : Hp) (s : Shared) (e : Value) (s' : Shared), Inv X pins σ H s -> CX X.stack H s E e s' -> X.xe e s'
section
variable {X : Cx} {CX : CXT} {k : Nat} {f C : Addr} {fd : FuncData} {ps : List Str} {sp : Sp} {dvs : List V} {ds : List Value} {E : XK} {x m : Str} {p pos apos : Pos} {e o : Expr} {es : List Expr} {ta : TE} {t : TA}
theorem ow {pins : List (Addr × Obj)} {σ : St} {H : Hp} {s : Shared} {Q : VK} {us : List Value} {vs : List V} (F : fN X.prog X.w X.K X.mg X.base CX k f fd ps sp) (hr : aQ k X.A) (hb : Binds X.K fd ps ds) (hd : Vals dvs ds) (hx : kI CX X E)
  (I : Inv X pins σ H s) (r : Vals vs us) (h : sp (vs ++ dvs) H Q E) : wpAny (model X.prog X.w) X.A (call (.ref f) us) (EP X pins σ Q) X.xe s := by
 have r2 : Vals (vs ++ dvs) (us ++ ds) := r.append hd
 have hl : (us ++ ds).length = ps.length := by rw [<- r2.length]; exact F.len _ _ _ _ h
 refine wpAny_call (codeAny_mono (F.run X.A X.stack s H ⟨us, []⟩ (us ++ ds) (vs ++ dvs) Q E hr I.env0 (hb s us I.kIn hl) r2 h) fun r s' hq => ?_)
 cases r with
 | error e => exact hx pins σ H s e s' I hq
 | ok fl =>
  cases fl with
  | ret u => exact I.after hq
  | next => exact False.elim hq
  | brk => exact False.elim hq
  | cont => exact False.elim hq
theorem i8 (F : fN X.prog X.w X.K X.mg X.base CX k f fd ps sp) (hr : aQ k X.A) (hg : Gl X x) (hm : X.mg x = some (.ref f)) (hk : PySem.W.keepIn X.K (.ref f) = true) (hb : Binds X.K fd ps ds) (hd : Vals dvs ds) (hx : kI CX X E)
  (ha : PA X (e :: es) t) (hdb : (x == ("__debug__" : Str)) = false := by decide) (he : starEach (e :: es) X.env = (false, eval e X.env) :: starEach es X.env := by rfl) (hpl : (backTo pos (starEach es X.env)).any (·.1) = false := by rfl) :
  PE X (.Call (.Name x p) (e :: es) [] pos) (dU sp dvs E t) := by
 intro pins s σ H Q I h
 refine wpAny_Call_Name_kw (dH I hg hm ?_ hdb)
 refine PySem.W.callWith_K (h₀ := X.base) I.ok.mod.kin hk (thn (ha pos pins s σ H _ I h) fun us s1 ⟨vs, H1, I1, r, q⟩ => ⟨I1.kIn, ?_⟩) he hpl
 exact ow F hr hb hd hx I1 r q
end
structure aA (N P : List Str) (sc : Scope) : Prop where
 kind : sc.kind = .function
 co : sc.isCoroutine = false
 gen : sc.isGenerator = false
 nd : N.Nodup
 pre : N.take P.length = P
 par : ∀ x ∈ P, sc.names.lookup x = some .local \/ sc.names.lookup x = some .cell
 nofree : ∀ y ∈ sc.names, y.2 ≠ .free
theorem iA {kindOf : Str -> Option NameKind} {x : Str} : ∀ {binds : List (Str × Value)} {m : Str -> Option Value}, (∀ v, (x, v) ∉ binds) -> bindL kindOf binds m x = m x
 | [], _, _ => rfl
 | (n, v) :: r, m, h => by
  unfold bindL
  rw [iA fun w hw => h w (List.mem_cons_of_mem _ hw)]
  split
  ·have : x ≠ n := by rintro rfl; exact h v List.mem_cons_self
   simp [this]
  ·rfl
theorem iB {kindOf : Str -> Option NameKind} {x : Str} : ∀ {binds : List (Str × Value)} {m : Str -> Option Value}, (∀ v, (x, v) ∉ binds) -> bindC kindOf binds m x = m x
 | [], _, _ => rfl
 | (n, v) :: r, m, h => by
  unfold bindC
  rw [iB fun w hw => h w (List.mem_cons_of_mem _ hw)]
  split
  ·rfl
  ·have : x ≠ n := by rintro rfl; exact h v List.mem_cons_self
   simp [this]
theorem iC {kindOf : Str -> Option NameKind} {x : Str} {v : Value} : ∀ {P : List Str} {vs : List Value} {i : Nat} {m : Str -> Option Value}, P.Nodup -> P[i]? = some x -> vs[i]? = some v -> kindOf x = some .local ->
  bindL kindOf (P.zip vs) m x = some v
 | [], _, _, _, _, h, _, _ => by simp at h
 | _ :: _, [], _, _, _, _, h, _ => by simp at h
 | p :: P, w :: vs, 0, m, nd, h1, h2, hk => by
  simp at h1 h2; subst h1; subst h2
  show bindL kindOf ((p, w) :: P.zip vs) m p = _
  unfold bindL
  rw [iA fun v hv => (List.nodup_cons.mp nd).1 (List.of_mem_zip hv).1, if_pos hk]
  simp
 | p :: P, w :: vs, i + 1, m, nd, h1, h2, hk => by
  show bindL kindOf ((p, w) :: P.zip vs) m x = _
  unfold bindL
  exact iC (i := i) (List.nodup_cons.mp nd).2 (by simpa using h1) (by simpa using h2) hk
theorem iD {kindOf : Str -> Option NameKind} {x : Str} {v : Value} : ∀ {P : List Str} {vs : List Value} {i : Nat} {m : Str -> Option Value}, P.Nodup -> P[i]? = some x -> vs[i]? = some v -> kindOf x ≠ some .local ->
  bindC kindOf (P.zip vs) m x = some v
 | [], _, _, _, _, h, _, _ => by simp at h
 | _ :: _, [], _, _, _, _, h, _ => by simp at h
 | p :: P, w :: vs, 0, m, nd, h1, h2, hk => by
  simp at h1 h2; subst h1; subst h2
  show bindC kindOf ((p, w) :: P.zip vs) m p = _
  unfold bindC
  rw [iB fun v hv => (List.nodup_cons.mp nd).1 (List.of_mem_zip hv).1, if_neg hk]
  simp
 | p :: P, w :: vs, i + 1, m, nd, h1, h2, hk => by
  show bindC kindOf ((p, w) :: P.zip vs) m x = _
  unfold bindC
  exact iD (i := i) (List.nodup_cons.mp nd).2 (by simpa using h1) (by simpa using h2) hk
def start (N : List Str) (vs : List V) : St := vs.map some ++ List.replicate (N.length - vs.length) none
def ft (CX : CXT) (P : Program) (w : World) (K : PySem.W.Frag) (mg : Str -> Option Value) (base : Heap) (N : List Str) (qual : Str) (scope : Scope) (f : Addr) (cd : Value) (A : Around) (outer : List Env) (s : Shared) (H : Hp) (E : XK) : Cx where
 prog := P
 w := w
 K := K
 mg := mg
 base := base
 A := A.deeper (envOfC qual scope s.heap.objs.size f cd)
 N := N
 s₀ := s
 H₀ := H
 env := envOfC qual scope s.heap.objs.size f cd
 outer := outer
 stack := envOfC qual scope s.heap.objs.size f cd :: outer
 ex := []
 calm := true
 fn := fun _ => true
 pn := []
 xe := fun e s' => wpAny (model P w) (A.deeper (envOfC qual scope s.heap.objs.size f cd)) (leaving (envOfC qual scope s.heap.objs.size f cd) e) (fun _ s'' => CX outer H s E e s'') (fun e' s'' => CX outer H s E e' s'') s'
theorem jG {sc : Scope} {n : Nat} {x : Str} (h : sc.names.lookup x = some .cell) : ∃ c, (cellsFrom n sc.names []).lookup x = some c := by
 have q := PySem.W.cellsFrom_some sc.names n [] (.inl h)
 exact Option.isSome_iff_exists.mp q
theorem m8 {CX : CXT} {P : Program} {w : World} {K : PySem.W.Frag} {mg : Str -> Option Value} {base : Heap} {N ps : List Str} {qual : Str} {scope : Scope} {f : Addr} {cd : Value} {A : Around} {outer : List Env} {s s1 : Shared} {H : Hp} {E : XK} {us : List Value} {vs : List V}
  (S : aA N ps scope) (hd : A.handled = none) (e0 : Env0 P w K mg base A outer s H) (hl : vs.length = ps.length) (r : Vals vs us)
  (x : InCallC s s.heap.objs.size (bindL (envOfC qual scope s.heap.objs.size f cd).kindOf (ps.zip us) fun _ => none) (cellsFrom (s.heap.objs.size + 1) scope.names []) (bindC (envOfC qual scope s.heap.objs.size f cd).kindOf (ps.zip us) fun _ => none) s1) :
  Inv (ft CX P w K mg base N qual scope f cd A outer s H E) [] (start N vs) H s1 := by
 have hpl : ps.length <= N.length := by have := congrArg List.length S.pre; rw [List.length_take] at this; omega
 obtain ⟨h1, tk, rfl, hk⟩ := x.done
 have noA : ∀ b : Addr, b ∉ (ft CX P w K mg base N qual scope f cd A outer s H E).ex := fun b z => absurd (show b ∈ ([] : List Addr) from z) (by simp)
 refine ⟨⟨e0.mod, S.kind, rfl, rfl, Nat.le_refl _, fun y z c h1 h2 => ?_, fun y hy => ?_, fun y c _ h => ?_, fun _ => hd, Around.frames_deeper e0.frames, .inr ⟨rfl, rfl⟩, fun b z => absurd z (noA b), e0.bs, e0.bsz, fun b _ _ => noA b, fun b z => absurd z (noA b), e0.funs, e0.frf⟩,
  rfl, e0.bare, Un.kept hk, ⟨_, x.toInCall.ns, fun i y v h1 h2 h3 => ?_⟩, fun y c h => ⟨_, x.cell y c h⟩, e0.hok.fresh (Nat.le_refl _), fun y c h => ?_, fun p hp => absurd (show p ∈ ([] : List (Addr × Obj)) from hp) (by simp), e0.hok.kept hk, ?_⟩
 ·exact name_of_addr x.apart (PySem.mem_of_lookup h1) (PySem.mem_of_lookup h2)
 ·have hy : scope.names.lookup y = some .cell \/ scope.names.lookup y = some .free := hy
  rcases hy with hy | hy
  ·exact jG hy
  ·exact absurd rfl (S.nofree _ (PySem.mem_of_lookup hy))
 ·exact Nat.le_of_lt (x.above y c (PySem.mem_of_lookup h))
 ·have hi : i < vs.length := by
   unfold start at h2
   by_cases hi : i < vs.length
   ·exact hi
   ·rw [List.getElem?_append_right (by simpa using hi)] at h2
    rw [List.getElem?_replicate] at h2
    split at h2 <;> cases h2
  have ha : vs[i]? = some v := by
   unfold start at h2
   rw [List.getElem?_append_left (by simpa using hi), List.getElem?_map] at h2
   cases e : vs[i]? with
   | none => rw [e] at h2; cases h2
   | some a => rw [e] at h2; cases h2; rfl
  obtain ⟨u, hu, rv⟩ := r.get ha
  have hp : ps[i]? = some y := by
   rw [<- S.pre, List.getElem?_take_of_lt (by omega)]; exact h1
  have ndP : ps.Nodup := by rw [<- S.pre]; exact S.nd.sublist (List.take_sublist _ _)
  refine ⟨u, rv, ?_⟩
  rcases S.par y (List.mem_of_getElem? hp) with k | k
  ·exact .inl ⟨k, iC ndP hp hu k⟩
  ·obtain ⟨c, e⟩ := jG (n := s.heap.objs.size + 1) k
   refine .inr ⟨.inl k, c, e, ?_⟩
   have q := x.cell y c e
   rw [iD ndP hp hu (by show scope.names.lookup y ≠ _; rw [k]; decide)] at q
   exact q
 ·exact e0.hok.fresh (Nat.le_of_lt (x.above y c (PySem.mem_of_lookup h)))
 ·unfold start
  show _ = N.length
  rw [List.length_append, List.length_map, List.length_replicate]
  omega
theorem ox {CX : CXT} {P : Program} {w : World} {K : PySem.W.Frag} {mg : Str -> Option Value} {base : Heap} {k : Nat} {f : Addr} {name qual : Str} {params : Arguments} {body : List Stmt} {scope : Scope} {dV kV doc pm cdv ct oc : Value} {an od : Option Addr}
  {osl : Array (Option Value)} {N ps : List Str} {sp : Sp} (lk : K.lookup f = some ⟨oc, od, .func (PySem.W.fnOf name qual params body scope dV kV doc pm an cdv ct), osl⟩) (hcd : PySem.W.codeIn K cdv qual = true) (S : aA N ps scope)
  (len : ∀ vs H Q E, sp vs H Q E -> vs.length = ps.length)
  (hbody : ∀ (A : Around) (outer : List Env) (s : Shared) (H : Hp) (vs : List V) (Q : VK) (E : XK), aQ k (A.deeper (envOfC qual scope s.heap.objs.size f cdv)) -> sp vs H Q E ->
   ∃ t, PSs (ft CX P w K mg base N qual scope f cdv A outer s H E) body t /\ t { nx := fun _ H' => Q .non H', rt := Q } (start N vs) H) :
  fN P w K mg base CX (k + 1) f (PySem.W.fnOf name qual params body scope dV kV doc pm an cdv ct) ps sp := by
 refine ⟨len, fun A outer s H args us vs Q E hr e0 hb r hsp => ?_⟩
 have hl := len _ _ _ _ hsp
 have KX : K.In s.heap := e0.mod.kin.keeps fun b o e => (e0.bs b o e).1
 have lim : s.heap.NoLimit := e0.mod.nolimit.keeps fun b o e => (e0.bs b o e).1
 have hkind : ∀ y ∈ ps.zip us, scope.names.lookup y.1 = some .local \/ (scope.names.lookup y.1 = some .cell /\ ((cellsFrom (s.heap.objs.size + 1) scope.names []).lookup y.1).isSome = true) := fun ⟨n, v⟩ hy => by
  rcases S.par n (List.of_mem_zip hy).1 with q | q
  ·exact .inl q
  ·exact .inr ⟨q, PySem.W.cellsFrom_some _ _ _ (.inl q)⟩
 refine codeAny_call_function hr.depth (KX _ _ lk) rfl S.co S.gen rfl (PySem.W.codeRec_of KX hcd) (hb _ _ _ _ ?_)
 refine wpAny_newFunctionEnv_cells S.kind hkind fun env he s1 x => ?_
 subst he
 refine ⟨lim.keeps x.toInCall.keep, codeAny_func ?_⟩
 obtain ⟨t, ht, hq⟩ := hbody A outer s H vs Q E (hr.deeper _) hsp
 have I : Inv (ft CX P w K mg base N qual scope f cdv A outer s H E) [] (start N vs) H s1 := m8 S hr.hd e0 hl r x
 refine wpAny_mono (ht [] s1 (start N vs) H _ I hq) (fun fl s' hs => ?_) fun e s' hs => hs
 have fin : ∀ {σ' : St} {H' : Hp} {v : V} {u : Value}, Inv (ft CX P w K mg base N qual scope f cdv A outer s H E) [] σ' H' s' -> RelV v u -> Q v H' -> CE outer P w H s Q u s' :=
  fun {σ' H' v u} J rv q => ⟨v, H', J.os, J.bare, J.base, J.hok, rv, q⟩
 cases fl with
 | ret u =>
  obtain ⟨v, σ', H', J, rv, q⟩ := hs
  exact fin J rv q
 | next =>
  obtain ⟨σ', H', J, q⟩ := hs
  exact fin (v := V.non) (u := Value.none) J rfl q
 | brk =>
  obtain ⟨_, _, _, q⟩ := hs
  exact False.elim q
 | cont =>
  obtain ⟨_, _, _, q⟩ := hs
  exact False.elim q
end L2
namespace L2
open PySem PySem.Spec PyProof.Rows
section
variable {X : Cx} {x : Str} {p pos : Pos} {e : Expr} {es : List Expr} {t : TA} {id T : String} {r : List V -> Hp -> VK -> Prop}
def tCB (r : List V -> Hp -> VK -> Prop) (t : TA) : TE := fun σ H Q => t σ H fun vs H1 => r vs H1 Q
theorem di (hc : bO X (.builtin id) r) (hg : Gl X x) (hm : X.mg x = none) (hv : bootBuiltins x = some (.builtin id)) (ha : PA X (e :: es) t) (hn : x ≠ "__name__" := by decide) (hdb : (x == ("__debug__" : Str)) = false := by decide)
  (he : starEach (e :: es) X.env = (false, eval e X.env) :: starEach es X.env := by rfl) (hpl : (backTo pos (starEach es X.env)).any (·.1) = false := by rfl) : PE X (.Call (.Name x p) (e :: es) [] pos) (tCB r t) := by
 intro pins s σ H Q I h
 refine wpAny_Call_Name_kw (dY I hg hm hv ?_ hn hdb)
 exact PyProof.Rows.callWith_builtin1 (thn (ha pos pins s σ H _ I h) fun us s1 zt1 => by obtain ⟨vs, H1, I1, r1, q1⟩ := zt1; exact hc pins s1 σ H1 vs us Q I1 r1 q1) he hpl
theorem fu (hc : bO X (.type T) r) (hg : Gl X x) (hm : X.mg x = none) (hv : bootBuiltins x = some (.type T)) (ha : PA X (e :: es) t) (hn : x ≠ "__name__" := by decide) (hdb : (x == ("__debug__" : Str)) = false := by decide)
  (he : starEach (e :: es) X.env = (false, eval e X.env) :: starEach es X.env := by rfl) (hpl : (backTo pos (starEach es X.env)).any (·.1) = false := by rfl) : PE X (.Call (.Name x p) (e :: es) [] pos) (tCB r t) := by
 intro pins s σ H Q I h
 refine wpAny_Call_Name_kw (dY I hg hm hv ?_ hn hdb)
 exact PyProof.Rows.callWith_type1 (thn (ha pos pins s σ H _ I h) fun us s1 zt1 => by obtain ⟨vs, H1, I1, r1, q1⟩ := zt1; exact hc pins s1 σ H1 vs us Q I1 r1 q1) he hpl
end
end L2
namespace HT
open PySem PyProof.Rows
def lexLt : List Int -> List Int -> Bool
 | [], [] => false
 | [], _ :: _ => true
 | _ :: _, [] => false
 | x :: xs, y :: ys => if x = y then lexLt xs ys else decide (x < y)
theorem bT (x y : Int) (xs ys : List Int) : lexLt (x :: xs) (y :: ys) = if x = y then lexLt xs ys else decide (x < y) := rfl
theorem ij : lexLt [] [] = false := rfl
theorem gv (y : Int) (ys : List Int) : lexLt [] (y :: ys) = true := rfl
theorem gw (x : Int) (xs : List Int) : lexLt (x :: xs) [] = false := rfl
theorem oy (A : Around) (s : Shared) (a : Int) (t : Tok) (c : Int) (u : Tok) : ∃ e, SeqAt.EqAt A s (.int a t) (.int c u) e /\ (e = true ↔ a = c) :=
 ⟨(a == c), SeqAt.EqAt.int_int a t c u, by simp⟩
theorem oz (A : Around) (s : Shared) (a : Int) (t : Tok) (c : Int) (u : Tok) (prog : Program) (w : World) (E : Value -> Shared -> Prop) (Q : Value -> Shared -> Prop) (h : Q (.bool (decide (a < c))) s) :
  wpAny (model prog w) A (richCompare .Lt (.int a t) (.int c u)) Q E s :=
 (PyProof.Rows.lt_int h : wpAny (model prog w) A (compareOp .Lt (.int a t) (.int c u)) Q E s)
section
open PySem.SeqAt
open PySem.AutoSeq1 (wpAny_loadPart')
open PySem.MeetsSeq PySem.MeetsSeq2 PySem.MeetsSeq3
theorem ik (l b : Addr) (items items2 : Array Value) (n n2 : Nat) (dd dd2 : Option Addr) (sl sl2 : Array (Option Value)) (ns ms : List Int) (hi : IntsAre items.toList ns) (hj : IntsAre items2.toList ms) :
  Meets (Builtin.«tuple.__lt__» ⟨[.ref l, .ref b], []⟩)
   (fun _ R s => s.heap.get? l = some { cls := .type "tuple", dict := dd, data := .seq items n, slots := sl } /\ s.heap.get? b = some { cls := .type "tuple", dict := dd2, data := .seq items2 n2, slots := sl2 } /\
    R (.ok (.ret (.bool (lexLt ns ms)))) s) :=
 .of_wp fun prog w A R s h => by
  obtain ⟨hp, g, d, tk, os⟩ := s; obtain ⟨hl, hb, h⟩ := h
  have f2 := AutoSeq1.sub_tuple_tuple
  have z1 : items.size = ns.length := by rw [<- hi.length]; simp
  have z2 : items2.size = ms.length := by rw [<- hj.length]; simp
  wp_walk using wpAny_loadPart' hl, wpAny_loadPart' hb, wpAny_forIn_list _ (fun rest b s' => b.1 = none /\ s' = ⟨hp, g, d, tk, os⟩ /\ ∃ (vs ws : List Value) (ns' ms' : List Int), rest = vs.zip ws /\
   IntsAre vs ns' /\ IntsAre ws ms' /\ ns'.length + items2.size = ms'.length + items.size /\ R (.ok (.ret (.bool (lexLt ns' ms')))) ⟨hp, g, d, tk, os⟩) _
  case turn =>
   rintro ⟨y, x⟩ rest b s' ⟨hb', rfl, vs, ws, ns', ms', hz, hvi, hwi, hlen, hR⟩
   cases hvi with
   | nil => rw [List.zip_nil_left] at hz; cases hz
   | cons a t hvi' =>
    cases hwi with
    | nil => rw [List.zip_nil_right] at hz; cases hz
    | cons c u hwi' =>
     rw [List.zip_cons_cons] at hz
     injection hz with hyx hrest
     injection hyx with hy hx
     subst hy hx
     rw [bT] at hR
     simp only [List.length_cons] at hlen
     obtain ⟨e, he, hiff⟩ := oy A.in1 ⟨hp, g, d, tk, os⟩ a t c u
     refine wpAny_bind (he prog w _ _ ?_)
     cases e with
     | true =>
      rw [if_pos (hiff.mp rfl)] at hR
      wp_walk
      exact ⟨rfl, rfl, _, _, _, _, hrest, hvi', hwi', by omega, hR⟩
     | false =>
      rw [if_neg (fun q => absurd (hiff.mpr q) Bool.false_ne_true)] at hR
      have hri := oz A.in1 ⟨hp, g, d, tk, os⟩ a t c u prog w
      wp_walk using hri
      exact ⟨_, rfl, by simpa using hR⟩
  case fin =>
   rintro ⟨b1, b2⟩ s' ⟨hb', rfl, vs, ws, ns', ms', hz, hvi, hwi, hlen, hR⟩
   simp only at hb'
   subst hb'
   have hv : lexLt ns' ms' = decide (items.size < items2.size) := by
    cases hvi with
    | nil =>
     cases hwi with
     | nil =>
      simp only [List.length_nil] at hlen
      rw [ij]
      exact (decide_eq_false (by omega)).symm
     | cons c u hw =>
      simp only [List.length_nil, List.length_cons] at hlen
      rw [gv]
      exact (decide_eq_true (by omega)).symm
    | cons a t hv =>
     cases hwi with
     | nil =>
      simp only [List.length_nil, List.length_cons] at hlen
      rw [gw]
      exact (decide_eq_false (by omega)).symm
     | cons c u hw =>
      rw [List.zip_cons_cons] at hz
      cases hz
   rw [hv] at hR
   wp_walk
   exact ⟨_, rfl, by simpa [Builtin.Tuple.tupleCompareSizes] using hR⟩
  case h =>
   exact ⟨rfl, rfl, items.toList, items2.toList, ns, ms, rfl, hi, hj, by omega, h⟩
end
section
variable {prog : Program} {w : World} {A : Around} {E : Value -> Shared -> Prop} {s : Shared}
theorem kJ {l b : Addr} {items items2 : Array Value} {ns ms : List Int} {Q : Value -> Shared -> Prop} (hl : IsTup s.heap l items) (hb : IsTup s.heap b items2) (hi : IntsAre items.toList ns) (hj : IntsAre items2.toList ms)
  (hu : A.units < cLine) (h : Q (.bool (lexLt ns ms)) s) : wpAny (model prog w) A (compareOp .Lt (.ref l) (.ref b)) Q E s := by
 obtain ⟨⟨cls, dd, data, sl⟩, ho, hc, n, hd⟩ := id hl
 obtain ⟨⟨cls2, dd2, data2, sl2⟩, ho2, hc2, n2, hd2⟩ := id hb
 simp only at hc hd hc2 hd2
 subst hc hd hc2 hd2
 exact richCompare_meets_room (op := .Lt) ⟨_, ho, rfl⟩ ⟨_, ho2, rfl⟩ PySem.F.slot_tuple_lt PySem.F.entry_tuple_lt (PySem.F.args_tuple_lt_2 _ _) (ik l b items items2 n n2 dd dd2 sl sl2 ns ms hi hj)
  ⟨ho, ho2, show Value.bool (lexLt ns ms) ≠ Value.notImplemented /\ Q (.bool (lexLt ns ms)) s from ⟨(fun x => nomatch x), h⟩⟩ hu
theorem rX {t b : Addr} {vs ws : List Value} {Q : Value -> Shared -> Prop} (ht : IsTup s.heap t vs.toArray) (hb : IsTup s.heap b ws.toArray) (hv : vs ≠ [])
  (h1 : ws = [] -> Q (.ref t) s) (h2 : ws ≠ [] -> Q (.ref s.heap.objs.size) { s with heap := s.heap.push { cls := .type "tuple", data := .seq (vs ++ ws).toArray } })
  (hsz : vs.length + ws.length <= sizeLine) : wpAny (model prog w) A (binaryOp .Add (.ref t) (.ref b)) Q E s := by
 obtain ⟨⟨cls, dd, data, sl⟩, ho, hc, n, hd⟩ := id ht
 obtain ⟨⟨cls2, dd2, data2, sl2⟩, ho2, hc2, n2, hd2⟩ := id hb
 simp only at hc hd hc2 hd2
 subst hc hd hc2 hd2
 have e : vs.toArray ++ ws.toArray = (vs ++ ws).toArray := by simp
 by_cases hw : ws = []
 ·exact concat_meets ⟨_, ho, rfl⟩ ⟨_, ho2, rfl⟩ noFill_tuple_add seq_tuple_add PySem.F.slot_tuple_add PySem.F.entry_tuple_add (PySem.F.args_tuple_add_2 _ _)
   (tuple_addW1 t b vs.toArray ws.toArray n n2 dd dd2 sl sl2 (by simpa using hv) (by simp [hw])) ⟨ho, ho2, h1 hw⟩
 ·refine concat_meets ⟨_, ho, rfl⟩ ⟨_, ho2, rfl⟩ noFill_tuple_add seq_tuple_add PySem.F.slot_tuple_add PySem.F.entry_tuple_add (PySem.F.args_tuple_add_2 _ _)
   (tuple_addW2 t b vs.toArray ws.toArray n n2 dd dd2 sl sl2 (by simpa using hv) (by simpa using hw) (by rw [List.size_toArray, List.size_toArray]; exact hsz)) ⟨ho, ho2, ?_⟩
  rw [e]
  exact h2 hw
def sIx (n d : Nat) : Option Int -> Nat
 | none => d
 | some v => if v < 0 then (v + (n : Int)).toNat else min v.toNat n
theorem oA (n d : Nat) : sIx n d none = d := rfl
theorem rY (n d k : Nat) : sIx n d (some (k : Int)) = min k n := by
 show (if (k : Int) < 0 then ((k : Int) + (n : Int)).toNat else min (k : Int).toNat n) = min k n
 rw [if_neg (by omega), Int.toNat_natCast]
end
end HT
namespace L2
open PySem PySem.Spec PyProof.Rows
abbrev TO := St -> Hp -> (Option Int -> Hp -> Prop) -> Prop
def PO (X : Cx) (e : Option Expr) (t : TO) : Prop :=
 ∀ (pins : List (Addr × Obj)) (s : Shared) (σ : St) (H : Hp) (Q : Option Int -> Hp -> Prop), Inv X pins σ H s -> t σ H Q ->
  wpAny (model X.prog X.w) X.A (evalPart e X.env) (fun u s' => ∃ o H', Inv X pins σ H' s' /\ IsPart u o /\ Q o H') X.xe s
def lV : TO := fun _ H Q => Q none H
def uM (t : TE) : TO := fun σ H Q => t σ H fun x H1 => ∃ i, x = .int i /\ Q (some i) H1
theorem intsAre_of {ns : List Int} : ∀ {us : List Value}, Vals (ns.map V.int) us -> IntsAre us ns := by
 induction ns with
 | nil => intro us r; rw [List.map_nil] at r; cases r; exact .nil
 | cons n ns ih =>
  intro us r
  rw [List.map_cons] at r
  cases r with
  | cons r1 r2 =>
   obtain ⟨t, e⟩ := r1
   subst e
   exact .cons n t (ih r2)
section
variable {X : Cx} {e : Expr} {te : TE} {lo hi : Option Expr} {tl th : TO} {pos p2 : Pos}
theorem rZ : PO X none lV := by
 intro pins s σ H Q I h
 rw [evalPart_none]
 exact wpAny_pure ⟨none, H, I, .none, h⟩
theorem sd (h : PE X e te) : PO X (some e) (uM te) := by
 intro pins s σ H Q I hw
 rw [evalPart_some]
 refine thn (h pins s σ H _ I hw) fun u s1 zr1 => ?_
 obtain ⟨x, H1, I1, r1, q1⟩ := zr1
 obtain ⟨i, rfl, q⟩ := q1
 obtain ⟨t, rfl⟩ := r1
 exact ⟨some i, H1, I1, .int i t, q⟩
def SlR (X : Cx) (r : V -> Option Int -> Option Int -> Hp -> VK -> Prop) : Prop :=
 ∀ (pins : List (Addr × Obj)) (s : Shared) (σ : St) (H : Hp) (x : V) (v vl vu : Value) (lo hi : Option Int) (sl : Addr) (Q : VK), Inv X pins σ H s -> RelV x v -> s.heap.IsSliceOf sl vl vu .none -> IsPart vl lo -> IsPart vu hi -> r x lo hi H Q ->
  ∃ T id, typeLookup (.type T) "__getitem__" = pure (some (.builtin id)) /\ s.TypeIs v T /\ wpAny (model X.prog X.w) X.A (getItem v (.ref sl)) (EP X pins σ Q) X.xe s
def tSl (r : V -> Option Int -> Option Int -> Hp -> VK -> Prop) (te : TE) (tl th : TO) : TE := fun σ H Q => te σ H fun x H1 => tl σ H1 fun l H2 => th σ H2 fun u H3 => r x l u H3 Q
theorem oB {r : V -> Option Int -> Option Int -> Hp -> VK -> Prop} (hr : SlR X r) (he : PE X e te) (hl : PO X lo tl) (hu : PO X hi th) : PE X (.Subscript e (.Slice lo hi none p2) pos) (tSl r te tl th) := by
 intro pins s σ H Q I h
 refine Subscript_ (thn (he pins s σ H _ I h) fun v s1 zr1 => ?_)
 obtain ⟨x, H1, I1, r1, q1⟩ := zr1
 refine wpAny_Slice (thn (hl pins s1 σ H1 _ I1 q1) fun vl s2 ⟨l, H2, I2, pl, q2⟩ => thn (hu pins s2 σ H2 _ I2 q2) fun vu s3 zr1 => ?_)
 obtain ⟨u, H3, I3, pu, q3⟩ := zr1
 rw [evalPart_none]
 refine wpAny_pure ?_
 have I4 : Inv X pins σ H3 { s3 with heap := s3.heap.push { cls := .type "slice", data := .fields #[vl, vu, .none] } } := I3.kept (t' := s3.toks) fun b ob q => Heap.get?_push_of_some _ q
 obtain ⟨T, id, hT, ht, hg⟩ := hr pins { s3 with heap := s3.heap.push { cls := .type "slice", data := .fields #[vl, vu, .none] } } σ H3 x v vl vu l u s3.heap.objs.size Q I4 r1 (Heap.IsSliceOf.new ..) pl pu q3
 show wpAny (model X.prog X.w) X.A (subscriptTail e (.Slice lo hi none p2) v (.ref s3.heap.objs.size)) (EP X pins σ Q) X.xe { s3 with heap := s3.heap.push { cls := .type "slice", data := .fields #[vl, vu, .none] } }
 exact tail_any (ops := [.ref s3.heap.objs.size, v]) ht hT hg (by with_unfolding_all rfl)
def m9 (xs : List V) (lo hi : Option Int) : List V := (xs.drop (HT.sIx xs.length 0 lo)).take (HT.sIx xs.length xs.length hi - HT.sIx xs.length 0 lo)
theorem jH (xs : List V) (lo hi : Option Int) : (m9 xs lo hi).length <= xs.length := by
 unfold m9
 rw [List.length_take, List.length_drop]
 omega
def zA (K : PySem.W.Frag) : R2 := fun x y H Q => ∃ a b ns ms, x = .ref a /\ y = .ref b /\ SqT K H a (ns.map V.int) /\ SqT K H b (ms.map V.int) /\ Q (.bl (HT.lexLt ns ms)) H
theorem wO (hu : X.A.units < cLine) : OpR X (compareOp .Lt) (zA X.K) := by
 intro pins s σ H x y v u Q I rx ry h
 obtain ⟨a, b, ns, ms, rfl, rfl, ha, hb, q⟩ := h
 cases rx
 cases ry
 obtain ⟨its, r1, p1, _⟩ := I.tuple ha
 obtain ⟨its2, r2, p2, _⟩ := I.tuple hb
 have i1 : IntsAre its.toArray.toList ns := intsAre_of r1
 have i2 : IntsAre its2.toArray.toList ms := intsAre_of r2
 exact HT.kJ p1 p2 i1 i2 hu ⟨.bl (HT.lexLt ns ms), H, I, rfl, q⟩
def uN (K : PySem.W.Frag) : R2 := fun x y H Q => ∃ a b xs ys, x = .ref a /\ y = .ref b /\ SqT K H a xs /\ SqT K H b ys /\ xs ≠ [] /\ xs.length + ys.length <= sizeLine /\
 (ys = [] -> Q (.ref a) H) /\ (ys ≠ [] -> ∀ p, H p = none -> Q (.ref p) (upd H p (.tup (xs ++ ys))))
theorem Vals.nil_iff {xs : List V} {us : List Value} (r : Vals xs us) : us = [] ↔ xs = [] := by
 cases r with
 | nil => simp
 | cons _ _ => simp
theorem sf : OpR X (binaryOp .Add) (uN X.K) := by
 intro pins s σ H x y v u Q I rx ry h
 obtain ⟨a, b, xs, ys, rfl, rfl, ha, hb, hx, hz, q1, q2⟩ := h
 cases rx
 cases ry
 obtain ⟨its, r1, p1, _⟩ := I.tuple ha
 obtain ⟨its2, r2, p2, _⟩ := I.tuple hb
 refine HT.rX p1 p2 (fun z => hx (r1.nil_iff.mp z)) (fun z => ⟨.ref a, H, I, rfl, q1 (r2.nil_iff.mp z)⟩) (fun z => ?_) (by rw [<- r1.length, <- r2.length]; exact hz)
 refine ⟨.ref s.heap.objs.size, _, I.laid (t' := s.toks) (o := .tup (xs ++ ys)) (fun b ob q => Heap.get?_push_of_some _ q) (Nat.le_refl _) ?_, rfl, q2 (fun w => z (r2.nil_iff.mpr w)) _ (I.hok.fresh (Nat.le_refl _))⟩
 exact ⟨by rw [List.length_append]; exact hz, _, r1.append r2, IsTup.new _ _⟩
end
end L2
namespace L2
open PySem PySem.Spec PyProof.Rows
def ixN (n : Nat) (i : Int) : Option Nat := if 0 <= i then (if i < n then some i.toNat else none) else if -(n : Int) <= i then some (i + n).toNat else none
def atI {α : Type} (xs : List α) (i : Int) : Option α := (ixN xs.length i).bind fun j => xs[j]?
theorem lW {n : Nat} {i : Int} {j : Nat} (h : ixN n i = some j) : seqIndex? i n = some j /\ j < n /\ -(n : Int) <= i /\ i < n := by
 unfold ixN at h
 by_cases h0 : 0 <= i
 ·rw [if_pos h0] at h
  by_cases h1 : i < n
  ·rw [if_pos h1] at h
   have e : i.toNat = j := Option.some.inj h
   exact ⟨by rw [seqIndex_of h0 h1, e], by omega, by omega, h1⟩
  ·rw [if_neg h1] at h; cases h
 ·rw [if_neg h0] at h
  by_cases h1 : -(n : Int) <= i
  ·rw [if_pos h1] at h
   have e : (i + n).toNat = j := Option.some.inj h
   exact ⟨by rw [seqIndex_neg (by omega) h1, e], by omega, h1, by omega⟩
  ·rw [if_neg h1] at h; cases h
theorem i9 {α : Type} {xs : List α} {i : Int} {v : α} (h : atI xs i = some v) : ∃ j, seqIndex? i xs.length = some j /\ xs[j]? = some v /\ j < xs.length /\ -(xs.length : Int) <= i /\ i < xs.length := by
 unfold atI at h
 cases e : ixN xs.length i with
 | none => rw [e] at h; cases h
 | some j =>
  rw [e] at h
  obtain ⟨h1, h2, h3, h4⟩ := lW e
  exact ⟨j, h1, h, h2, h3, h4⟩
theorem ja {α : Type} {xs : List α} {j : Nat} {v : α} (h : xs[j]? = some v) : atI xs (j : Int) = some v := by
 have hj : j < xs.length := (List.getElem?_eq_some_iff.mp h).1
 have e : ixN xs.length (j : Int) = some j := by
  unfold ixN
  rw [if_pos (by omega), if_pos (by omega)]; simp
 unfold atI; rw [e]; exact h
def fQ (b : Expr) : Prop := ∀ o i, subscripted b false o i = operate [o, i] (getItem o i)
def IxR (X : Cx) (r : R2) : Prop :=
 ∀ (value slice : Expr) (pins : List (Addr × Obj)) (s : Shared) (σ : St) (H : Hp) (x y : V) (v u : Value) (Q : VK), Inv X pins σ H s -> RelV x v -> RelV y u -> r x y H Q ->
  subscripted slice false v u = operate [v, u] (getItem v u) -> wpAny (model X.prog X.w) X.A (subscriptTail value slice v u) (EP X pins σ Q) X.xe s
def MtR (X : Cx) (id : String) (r : V -> List V -> Hp -> VK -> Prop) : Prop :=
 ∀ (pins : List (Addr × Obj)) (s : Shared) (σ : St) (H : Hp) (x : V) (xs : List V) (v : Value) (us : List Value) (Q : VK), Inv X pins σ H s -> RelV x v -> Vals xs us -> r x xs H Q ->
  wpAny (model X.prog X.w) X.A (call (.builtin id) (v :: us)) (EP X pins σ Q) X.xe s
section
variable {X : Cx} {a b : Expr} {ta tb : TE} {pos : Pos}
theorem IxR.or {r r' : R2} (h : IxR X r) (h' : IxR X r') : IxR X (fun x y H Q => r x y H Q \/ r' x y H Q) := by
 intro value slice pins s σ H x y v u Q I rx ry q hs
 rcases q with q | q
 ·exact h value slice pins s σ H x y v u Q I rx ry q hs
 ·exact h' value slice pins s σ H x y v u Q I rx ry q hs
theorem oC {r : R2} (hr : IxR X r) (ha : PE X a ta) (hb : PE X b tb) (hs : fQ b) : PE X (.Subscript a b pos) (tOp r ta tb) := by
 intro pins s σ H Q I h
 exact Subscript_ (wG ha hb I h fun v u s2 x y H2 I2 rx ry q => hr a b pins s2 σ H2 x y v u Q I2 rx ry q (hs _ _))
def zB (K : PySem.W.Frag) : R2 := fun x y H Q => ∃ p xs i v, x = .ref p /\ y = .int i /\ SqL K H p xs /\ atI xs i = some v /\ Q v H
def zC (K : PySem.W.Frag) : R2 := fun x y H Q => ∃ p xs i v, x = .ref p /\ y = .int i /\ SqT K H p xs /\ atI xs i = some v /\ Q v H
def zD : R2 := fun x y H Q => ∃ z i c, x = .str z /\ y = .int i /\ z.length <= sizeLine /\ atI z.cps.toList i = some c /\ Q (.str ⟨#[c]⟩) H
theorem sh : IxR X (zB X.K) := by
 intro value slice pins s σ H x y v u Q I rx ry h hs
 obtain ⟨p, xs, i, z, rfl, rfl, hq, he, q⟩ := h
 cases rx
 obtain ⟨t, rfl⟩ := ry
 obtain ⟨its, r, pl, hz⟩ := I.list hq
 obtain ⟨j, h1, h2, h3, h4, h5⟩ := i9 he
 obtain ⟨w, ew, rw'⟩ := r.get h2
 have hl := r.length
 have hn := fj
 have fin : EP X pins σ Q w s := ⟨z, H, I, rw', q⟩
 by_cases h0 : 0 <= i
 ·have hj : i.toNat = j := by
   rw [seqIndex_of h0 h5] at h1
   exact Option.some.inj h1
  exact item_listR pl.isList h0 (by omega) (by rw [hj]; simpa using ew) fin hs
 ·have hj : (i + (its.toArray.size : Int)).toNat = j := by
   rw [seqIndex_neg (by omega) h4] at h1
   rw [List.size_toArray, <- hl]
   exact Option.some.inj h1
  exact subscriptTail_builtinR (x := w) pl.isList.typeIs slot_list_getitem.lookup
   (wpAny_getItem_list_neg (Q := fun r s' => r = w /\ EP X pins σ Q r s') pl.isList (by omega) (by rw [List.size_toArray] <;> omega) (by omega) (by rw [hj]; simpa using ew) ⟨rfl, fin⟩) hs
theorem wQ : IxR X (zC X.K) := by
 intro value slice pins s σ H x y v u Q I rx ry h hs
 obtain ⟨p, xs, i, z, rfl, rfl, hq, he, q⟩ := h
 cases rx
 obtain ⟨t, rfl⟩ := ry
 obtain ⟨its, r, pl, hz⟩ := I.tuple hq
 obtain ⟨j, h1, h2, h3, h4, h5⟩ := i9 he
 obtain ⟨w, ew, rw'⟩ := r.get h2
 have hl := r.length
 have hn := fj
 have fin : EP X pins σ Q w s := ⟨z, H, I, rw', q⟩
 exact subscriptTail_builtinR (x := w) pl.typeIs slot_tuple_getitem.lookup
  (getItem_tuple (j := j) (Q := fun r s' => r = w /\ EP X pins σ Q r s') pl (by omega) (by omega) (by rw [List.size_toArray, <- hl]; exact h1) (by simpa using ew) ⟨rfl, fin⟩) hs
theorem wR : IxR X zD := by
 intro value slice pins s σ H x y v u Q I rx ry h hs
 obtain ⟨z, i, c, rfl, rfl, hz, he, q⟩ := h
 obtain ⟨t, rfl⟩ := rx
 obtain ⟨t', rfl⟩ := ry
 obtain ⟨j, h1, h2, h3, h4, h5⟩ := i9 he
 have hl : z.cps.toList.length = z.length := by simp [Str.length]
 rw [hl] at h1 h4 h5
 have hn := fj
 exact tail_any (typeIs_str s z t) slot_str_getitem.lookup (getItem_str (c := c) (by
  have e1 : decide (i < -(2 ^ 63 : Int)) = false := decide_eq_false (by omega)
  have e2 : decide (i >= 2 ^ 63) = false := decide_eq_false (by omega)
  rw [e1, e2, Bool.or_false]) (by rw [h1]; simpa using h2) ⟨.str ⟨#[c]⟩, H, I.tok _, ⟨_, rfl⟩, q⟩) hs
def rIx (K : PySem.W.Frag) : R2 := fun x y H Q => zB K x y H Q \/ zC K x y H Q \/ zD x y H Q
theorem wU : IxR X (rIx X.K) := sh.or (wQ.or wR)
theorem kK (its : List Value) (n j : Nat) (u : Value) : Obj.mapSeq (·.setIfInBounds j u) { cls := .type "list", data := .seq its.toArray n } = { cls := .type "list", data := .seq (its.set j u).toArray n } := by
 simp [Obj.mapSeq]
theorem Inv.lst {pins : List (Addr × Obj)} {σ : St} {H : Hp} {s : Shared} {p : Addr} {xs : List V} (I : Inv X pins σ H s) (h : H p = some (.lst xs)) :
  ∃ (its : List Value) (n : Nat), Vals xs its /\ s.heap.get? p = some { cls := .type "list", data := .seq its.toArray n } /\ xs.length <= sizeLine := by
 obtain ⟨z, its, n, r, e⟩ := I.hok p _ h
 exact ⟨its, n, r, e, z⟩
theorem Inv.lstUpd {pins : List (Addr × Obj)} {σ : St} {H : Hp} {s : Shared} {p : Addr} {xs ys : List V} {its its' : List Value} {n n' : Nat} {f : Obj -> Obj} (I : Inv X pins σ H s) (h : H p = some (.lst xs))
  (ho : s.heap.get? p = some { cls := .type "list", data := .seq its.toArray n }) (hf : f { cls := .type "list", data := .seq its.toArray n } = { cls := .type "list", data := .seq its'.toArray n' }) (r : Vals ys its') (hz : ys.length <= sizeLine) (t : Nat) :
  Inv X pins σ (upd H p (.lst ys)) { s with heap := s.heap.update p f, toks := t } := by
 have e : (s.heap.update p f).get? p = some { cls := .type "list", data := .seq its'.toArray n' } := by
  rw [Heap.get?_update_self f ho (by rw [hf] <;> rfl), hf]
 refine I.write (x := p) (e := p) (by rw [h]; trivial) (.inl rfl) (fun b u hb q => (Heap.get?_update_other _ _ (Ne.symm hb)).trans q) ⟨_, e⟩ ?_
 exact ⟨hz, its', n', r, e⟩
def oE : V -> V -> V -> Hp -> (Hp -> Prop) -> Prop := fun o i v H Q => ∃ p xs k j, o = .ref p /\ i = .int k /\ H p = some (.lst xs) /\ ixN xs.length k = some j /\ Q (upd H p (.lst (xs.set j v)))
theorem set_list : zr X oE := by
 intro pins s σ H o i v ov iv u Q I ro ri rv h
 obtain ⟨p, xs, k, j, rfl, rfl, hp, hj, q⟩ := h
 cases ro
 obtain ⟨t, rfl⟩ := ri
 obtain ⟨its, n, r, ho, hz⟩ := I.lst hp
 obtain ⟨h1, h2, h3, h4⟩ := lW hj
 have hl := r.length
 have hn := fj
 have I' : Inv X pins σ (upd H p (.lst (xs.set j v))) { s with heap := s.heap.update p (Obj.mapSeq (·.setIfInBounds j u)) } :=
  I.lstUpd hp ho (kK its n j u) (r.set rv j) (by rw [List.length_set]; exact hz) s.toks
 by_cases h0 : 0 <= k
 ·have hk : k.toNat = j := by
   rw [seqIndex_of h0 h4] at h1
   exact Option.some.inj h1
  exact PySem.W.ki_setAt ho h0 (by omega) (by rw [List.size_toArray, <- hl]; exact h4) (by rw [hk]; exact ⟨_, I', q⟩)
 ·have hk : (k + (its.toArray.size : Int)).toNat = j := by
   rw [seqIndex_neg (by omega) h3] at h1
   rw [List.size_toArray, <- hl]
   exact Option.some.inj h1
  exact PySem.W.ki_setBack ho (by omega) (by rw [List.size_toArray, <- hl]; exact h3) (by omega) (by rw [hk]; exact ⟨_, I', q⟩)
theorem jb (lo hi : Option Int) (n : Nat) : (sliceBounds lo hi none n).1 = ((HT.sIx n 0 lo : Nat) : Int) /\ (sliceBounds lo hi none n).2.1 = ((HT.sIx n n hi : Nat) : Int) /\ (sliceBounds lo hi none n).2.2 = 1 := by
 refine ⟨?_, ?_, rfl⟩
 ·cases lo with
  | none => simp [sliceBounds, HT.sIx]
  | some i =>
   simp only [sliceBounds, HT.sIx, Option.getD_none, show (1 : Int) > 0 by decide, if_true]
   by_cases h : i < 0
   ·simp only [h, if_true] <;> omega
   ·simp only [h, if_false] <;> omega
 ·cases hi with
  | none => simp [sliceBounds, HT.sIx]
  | some i =>
   simp only [sliceBounds, HT.sIx, Option.getD_none, show (1 : Int) > 0 by decide, if_true]
   by_cases h : i < 0
   ·simp only [h, if_true] <;> omega
   ·simp only [h, if_false] <;> omega
theorem il (its : List Value) (lo hi : Option Int) : slicePick its.toArray lo hi none = ((its.drop (HT.sIx its.length 0 lo)).take (HT.sIx its.length its.length hi - HT.sIx its.length 0 lo)).toArray := by
 obtain ⟨h1, h2, h3⟩ := jb lo hi its.toArray.size
 unfold slicePick
 rw [h1, h2, h3]
 simp only [sliceRange_one, pick_run, List.size_toArray] <;> rfl
def zE (K : PySem.W.Frag) : V -> Option Int -> Option Int -> Hp -> VK -> Prop := fun x lo hi H Q => ∃ a xs, x = .ref a /\ SqL K H a xs /\ ∀ p, H p = none -> Q (.ref p) (upd H p (.lst (m9 xs lo hi)))
theorem si : SlR X (zE X.K) := by
 intro pins s σ H x v vl vu lo hi sl Q I rx hs pl pu h
 obtain ⟨a, xs, rfl, hx, q⟩ := h
 cases rx
 obtain ⟨its, r, ht, hz⟩ := I.list hx
 have hlen := r.length
 refine ⟨"list", _, slot_list_getitem.lookup, ht.isList.typeIs, ?_⟩
 refine wpAny_getItem_list_slice ht.isList hs pl pu .none (by simp) ?_ (by rw [List.size_toArray] <;> omega)
 rw [il, <- hlen]
 refine ⟨.ref s.heap.objs.size, _, I.laid (t' := s.toks) (o := .lst (m9 xs lo hi)) (fun b ob q => Heap.get?_push_of_some _ q) (Nat.le_refl _) ?_, rfl, q _ (I.hok.fresh (Nat.le_refl _))⟩
 exact ⟨Nat.le_trans (jH xs lo hi) hz, _, 0, (r.drop (HT.sIx xs.length 0 lo)).take (HT.sIx xs.length xs.length hi - HT.sIx xs.length 0 lo), Heap.get?_push_size _ rfl⟩
theorem jc : bO X (.builtin "len") (fun xs H Q => ∃ p ys, xs = [.ref p] /\ (SqL X.K H p ys \/ SqT X.K H p ys) /\ Q (.int ys.length) H) := by
 intro pins s σ H xs us Q I r h
 obtain ⟨p, ys, rfl, hq, q⟩ := h
 obtain ⟨u, rfl, rx⟩ := vals1 r
 cases rx
 have hn := fj
 rcases hq with hq | hq
 ·obtain ⟨its, r', pl, hz⟩ := I.list hq
  have hlen := r'.length
  exact Calls.call_len_list pl.isList (by simp only [List.size_toArray] <;> omega) ⟨.int ys.length, H, I.tok _, ⟨s.toks + 1, by rw [List.size_toArray, hlen]⟩, q⟩
 ·obtain ⟨its, r', pl, hz⟩ := I.tuple hq
  have hlen := r'.length
  exact len_tuple pl (by simp only [List.size_toArray] <;> omega) ⟨.int ys.length, H, I.tok _, ⟨s.toks + 1, by rw [List.size_toArray, hlen]⟩, q⟩
theorem jd : bO X (.type "list") (fun xs H Q => ∃ p ys, xs = [.ref p] /\ (SqL X.K H p ys \/ SqT X.K H p ys) /\ ∀ l, H l = none -> Q (.ref l) (upd H l (.lst ys))) := by
 intro pins s σ H xs us Q I r h
 obtain ⟨p, ys, rfl, hq, q⟩ := h
 obtain ⟨u, rfl, rx⟩ := vals1 r
 cases rx
 have fin : ∀ (its : List Value), Vals ys its -> ys.length <= sizeLine -> ∀ (h' : Heap) (c' : Nat), (∀ b o', s.heap.get? b = some o' -> h'.get? b = some o') ->
   h'.get? s.heap.objs.size = some { cls := .type "list", dict := none, data := .seq its.toArray c', slots := #[] } -> EP X pins σ Q (.ref s.heap.objs.size) { s with heap := h' } := fun its r' hz h' c' kp e =>
  ⟨.ref s.heap.objs.size, _, I.laid (t' := s.toks) kp (Nat.le_refl _) (show ObjOk X.prog X.w _ h' _ (.lst ys) from ⟨hz, its, c', r', e⟩), rfl, q _ (I.hok.fresh (Nat.le_refl _))⟩
 rcases hq with hq | hq
 ·obtain ⟨its, r', pl, hz⟩ := I.list hq
  have hlen := r'.length
  obtain ⟨o, ho, hc, n, hd⟩ := pl.isList
  exact call_list_seq p (.inl rfl) ho hc hd (fun h' c' kp e => fin its r' hz h' c' kp e) (by simp only [List.size_toArray] <;> omega)
 ·obtain ⟨its, r', pl, hz⟩ := I.tuple hq
  have hlen := r'.length
  obtain ⟨o, ho, hc, n, hd⟩ := pl
  exact call_list_seq p (.inr rfl) ho hc hd (fun h' c' kp e => fin its r' hz h' c' kp e) (by simp only [List.size_toArray] <;> omega)
theorem ip : bO X (.type "tuple") (fun xs H Q => ∃ p ys, xs = [.ref p] /\ ((SqL X.K H p ys /\ ∀ l, H l = none -> Q (.ref l) (upd H l (.tup ys))) \/ (SqT X.K H p ys /\ Q (.ref p) H))) := by
 intro pins s σ H xs us Q I r h
 obtain ⟨p, ys, rfl, h⟩ := h
 obtain ⟨u, rfl, rx⟩ := vals1 r
 cases rx
 rcases h with ⟨hq, q⟩ | ⟨hq, q⟩
 ·obtain ⟨its, r', pl, hz⟩ := I.list hq
  have hlen := r'.length
  refine call_tuple_list pl.isList (fun h' kp => ?_) (by simp only [List.size_toArray] <;> omega)
  have I1 : Inv X pins σ H { s with heap := h' } := I.kept (t' := s.toks) kp
  have I2 : Inv X pins σ (upd H h'.objs.size (.tup ys)) { s with heap := h'.push { cls := .type "tuple", data := .seq its.toArray } } :=
   I1.laid (t' := s.toks) (fun b o e => Heap.get?_push_of_some _ e) (Nat.le_refl _) (show ObjOk X.prog X.w _ _ _ (.tup ys) from ⟨hz, its, r', IsTup.new _ _⟩)
  exact ⟨.ref h'.objs.size, _, I2, rfl, q _ (I1.hok.fresh (Nat.le_refl _))⟩
 ·obtain ⟨its, r', pl, hz⟩ := I.tuple hq
  exact call_tuple_same pl ⟨.ref p, H, I, rfl, q⟩
def tyV (K : PySem.W.Frag) (T : String) (x : V) (H : Hp) : Prop := match x with
 | .str _ => T = "str"
 | .int _ => T = "int"
 | .ref p => (T = "list" /\ ∃ xs, SqL K H p xs) \/ (T = "tuple" /\ ∃ o, K.lookup p = some o /\ o.cls = .type "tuple" /\ o.dict = none) \/
   (T = "dict" /\ ((∃ kvs, H p = some (.dK kvs)) \/ ∃ kvs, H p = some (.dT kvs))) \/ (T = "set" /\ ∃ S n, H p = some (.set S n))
 | _ => False
theorem wV {pins : List (Addr × Obj)} {σ : St} {H : Hp} {s : Shared} {T : String} {x : V} {v : Value} (I : Inv X pins σ H s) (r : RelV x v) (ty : tyV X.K T x H) :
  s.TypeIs v T /\ ∀ a, v = .ref a -> ∃ ob, s.heap.get? a = some ob /\ ob.dict = none := by
 cases x with
 | str z =>
  obtain ⟨t, rfl⟩ := r
  cases (show T = "str" from ty)
  exact ⟨typeIs_str s z t, fun _ e => nomatch e⟩
 | int i =>
  obtain ⟨t, rfl⟩ := r
  cases (show T = "int" from ty)
  exact ⟨typeIs_int s i t, fun _ e => nomatch e⟩
 | ref p =>
  cases r
  rcases ty with ⟨rfl, xs, hq⟩ | ⟨rfl, o, hk, hc, hd⟩ | ⟨rfl, hk⟩ | ⟨rfl, S, n, hk⟩
  ·obtain ⟨its, _, pl, _⟩ := I.list hq
   refine ⟨pl.isList.typeIs, fun a e => ?_⟩
   cases e
   obtain ⟨o, n, e, c, hd, _⟩ := pl
   exact ⟨o, e, hd⟩
  ·refine ⟨⟨o, I.kIn p o hk, hc⟩, fun a e => ?_⟩
   cases e
   exact ⟨o, I.kIn _ o hk, hd⟩
  ·have z : ∃ o, s.heap.get? p = some o /\ o.ExactDict := by
    rcases hk with ⟨kvs, hk⟩ | ⟨kvs, hk⟩
    ·obtain ⟨_, _, _, _, o, _, _, e, ex, _⟩ := I.hok p _ hk
     exact ⟨o, e, ex⟩
    ·obtain ⟨_, _, _, _, o, _, _, e, ex, _⟩ := I.hok p _ hk
     exact ⟨o, e, ex⟩
   obtain ⟨o, e, ex⟩ := z
   refine ⟨⟨o, e, ex.1⟩, fun a e2 => ?_⟩
   cases e2
   exact ⟨o, e, ex.2.1⟩
  ·obtain ⟨o, _, _, _, e, ex, _⟩ := I.hok p _ hk
   refine ⟨⟨o, e, ex.1⟩, fun a e2 => ?_⟩
   cases e2
   exact ⟨o, e, ex.2.1⟩
 | _ => exact False.elim ty
def tBM (K : PySem.W.Frag) (T : String) (r : V -> List V -> Hp -> VK -> Prop) (to : TE) (t : TA) : TE := fun σ H Q => to σ H fun x H1 => tyV K T x H1 /\ t σ H1 fun xs H2 => r x xs H2 Q
variable {o e : Expr} {es : List Expr} {to : TE} {t : TA} {name : Str} {apos cpos : Pos} {T id : String} {r : V -> List V -> Hp -> VK -> Prop}
theorem zF (pa : PlainAttrs T) (slot : Slot T name id) (hty : typeOf (.builtin id) = pure (.type "method_descriptor")) (hm : MtR X id r) (ho : PE X o to) (ha : PA X (e :: es) t)
  (hbase : attributeBase o name X.env (eval o X.env) = eval o X.env := by rfl)
  (hfew : ((backTo cpos (starEach (e :: es) X.env)).all (fun x => !x.1) && (backToKw cpos (keywordEach [] X.env)).all (fun x => x.1.isSome)
   && decide ((e :: es).length + ([] : List Keyword).length + (if ([] : List Keyword).isEmpty then 0 else 1) < 30)) = true := by rfl)
  (hline : (apos.endLine == cpos.line) = true := by rfl) (hs : starEach (e :: es) X.env = (false, eval e X.env) :: starEach es X.env := by rfl) (hplain : (backTo cpos (starEach es X.env)).any (·.1) = false := by rfl) :
  PE X (.Call (.Attribute o name apos) (e :: es) [] cpos) (tBM X.K T r to t) := by
 intro pins s σ H Q I h
 refine wpAny_Call_method_late hbase hfew hline rfl (thn (ho pins s σ H _ I h) fun v s1 zr1 => ?_)
 obtain ⟨x, H1, I1, r1, ty, q1⟩ := zr1
 obtain ⟨h1, h2⟩ := wV I1 r1 ty
 refine ⟨T, id, pa, slot, hty, h1, h2, ?_⟩
 have hA := ha cpos pins s1 σ H1 _ I1 q1
 rw [hs] at hA ⊢
 refine Calls.callWith_builtin (by show (false || (backTo cpos (starEach es X.env)).any (·.1)) = false; rw [hplain] <;> rfl) (Calls.evalArgs_plain ?_)
 exact thn hA fun us s2 zt1 => by obtain ⟨vs, H2, I2, r2, q2⟩ := zt1; exact hm pins s2 σ H2 x vs v us Q I2 r1 r2 q2
end
end L2
namespace L2
open PySem PySem.Spec PyProof.Rows
def MtM (X : Cx) (id : String) (r : V -> List V -> Hp -> VK -> Prop) : Prop :=
 ∀ (pins : List (Addr × Obj)) (s : Shared) (σ : St) (H : Hp) (x : V) (xs : List V) (v : Value) (us : List Value) (Q : VK), Inv X pins σ H s -> RelV x v -> Vals xs us -> r x xs H Q ->
  wpAny (model X.prog X.w) X.A (call (.builtin id) (v :: us)) (EP X pins σ Q) X.xe s
theorem Vals.one : ∀ {x : V} {us : List Value}, Vals [x] us -> ∃ u, us = [u] /\ RelV x u := by
 intro x us h
 cases h with
 | cons r h => cases h; exact ⟨_, rfl, r⟩
theorem Vals.two : ∀ {x y : V} {us : List Value}, Vals [x, y] us -> ∃ u v, us = [u, v] /\ RelV x u /\ RelV y v := by
 intro x y us h
 cases h with
 | cons r h =>
  cases h with
  | cons q h => cases h; exact ⟨_, _, rfl, r, q⟩
section
variable {X : Cx} {pins : List (Addr × Obj)} {σ : St} {H : Hp} {s : Shared} {l b : Addr} {xs ys zs : List V}
theorem Inv.lset {its its' : List Value} {n : Nat} {f : Array Value -> Array Value} {t' : Nat} (I : Inv X pins σ H s) (hH : H l = some (.lst xs))
  (e : s.heap.get? l = some { cls := .type "list", data := .seq its.toArray n }) (hf : f its.toArray = its'.toArray) (hv : Vals ys its') (hz : ys.length <= sizeLine) :
  Inv X pins σ (upd H l (.lst ys)) { s with heap := s.heap.update l (Obj.mapSeq f), toks := t' } := by
 have q := PySem.IsL.update e f
 rw [hf] at q
 refine I.write (x := l) (e := l) (by rw [hH]; exact trivial) (.inl rfl) (fun b' u hb hu => (Heap.get?_update_other s.heap (Obj.mapSeq f) (Ne.symm hb)).trans hu) ⟨_, q⟩ ?_
 exact ⟨hz, its', _, hv, q⟩
theorem Inv.lnew {its : List Value} {t' : Nat} (I : Inv X pins σ H s) (hv : Vals ys its) (hz : ys.length <= sizeLine) :
  Inv X pins σ (upd H s.heap.objs.size (.lst ys)) { s with heap := s.heap.push { cls := .type "list", data := .seq its.toArray }, toks := t' } :=
 I.laid (fun _ _ q => Heap.get?_push_of_some _ q) (Nat.le_refl _) ⟨hz, its, 0, hv, Heap.get?_push_size _ rfl⟩
theorem Inv.fresh (I : Inv X pins σ H s) : H s.heap.objs.size = none := I.hok.fresh (Nat.le_refl _)
theorem Inv.lstM (I : Inv X pins σ H s) (hH : H l = some (.lst xs)) : xs.length <= sizeLine /\ ∃ (its : List Value) (n : Nat), Vals xs its /\ xs.length = its.length /\ s.heap.get? l = some { cls := .type "list", data := .seq its.toArray n } := by
 obtain ⟨z, its, n, r, e⟩ := I.hok l _ hH
 exact ⟨z, its, n, r, r.length, e⟩
end
section
variable {X : Cx}
def fR : V -> List V -> Hp -> VK -> Prop := fun x vs H Q => ∃ l xs y, x = .ref l /\ vs = [y] /\ H l = some (.lst xs) /\ xs.length < sizeLine /\ Q .non (upd H l (.lst (xs ++ [y])))
theorem ng : MtM X "list.append" fR := by
 intro pins s σ H x vs v us Q I rx rv h
 obtain ⟨l, xs, y, rfl, rfl, hH, hz, q⟩ := h
 cases rx
 obtain ⟨u, rfl, ru⟩ := rv.one
 obtain ⟨z, its, n, r, hl, e⟩ := I.lstM hH
 refine call_meets F.slot_list_append ⟨_, e, rfl⟩ F.entry_list_append (F.args_list_append_2 _ _) (PySem.list_append l its.toArray n u (by rw [List.size_toArray]; omega)) ⟨e, ?_⟩
 refine ⟨.non, _, I.lset (its' := its ++ [u]) hH e (by simp) (r.append (.cons ru .nil)) ?_, rfl, q⟩
 rw [List.length_append, List.length_singleton]
 omega
def zG : R2 := fun x y H Q => ∃ l b xs zs, x = .ref l /\ y = .ref b /\ H l = some (.lst xs) /\ H b = some (.lst zs) /\ xs.length + zs.length <= sizeLine /\ ∀ p, H p = none -> Q (.ref p) (upd H p (.lst (xs ++ zs)))
theorem wW : OpR X (binaryOp .Add) zG := by
 intro pins s σ H x y v u Q I rx ry h
 obtain ⟨l, b, xs, zs, rfl, rfl, hH, hB, hz, q⟩ := h
 cases rx
 cases ry
 obtain ⟨z, its, n, r, hl, e⟩ := I.lstM hH
 obtain ⟨z2, its2, n2, r2, hl2, e2⟩ := I.lstM hB
 refine PySem.P.add_list e e2 ?_ (by rw [List.size_toArray, List.size_toArray]; omega)
 have ea : its.toArray ++ its2.toArray = (its ++ its2).toArray := by simp
 rw [ea]
 exact ⟨.ref _, _, I.lnew (t' := s.toks) (r.append r2) (by rw [List.length_append]; omega), rfl, q _ I.fresh⟩
end
end L2
namespace Att
open PySem PySem.W PySem.Calls PyProof.Rows
theorem fO {P : Params} {h : Heap} : ∀ (ns : List Int) (vs : List Value), WellAll P h vs (ns.map WData.int) -> IntsAre vs ns := by
 intro ns
 induction ns with
 | nil =>
  intro vs w
  rw [List.map_nil] at w
  cases w
  exact .nil
 | cons n ns ih =>
  intro vs w
  rw [List.map_cons] at w
  cases w with
  | cons a b =>
   cases a
   exact .cons _ _ (ih _ b)
theorem nh {l : OpenLaw} {n : Nat} (hn : l.most = some n) {P : Params} {h : Heap} {args : List WData} {vals : List Value}
  (hpre : l.row.toRowW.claim.pre args = true) (hwl : WellAll P h vals args) :
  ∃ a vs ns, vals = [Value.ref a] /\ args = [WData.list (ns.map WData.int)] /\ h.get? a = some { cls := .type "list", data := .seq vs.toArray } /\ IntsAre vs ns /\ ns.length <= n := by
 have hsh : WShape.hasAll [] args [.list .int] = true := (pre_splitW hpre).1
 have hc : l.pre.holds [] { args := args } = true := (pre_splitW hpre).2
 obtain ⟨d, r, rfl, h1, h2⟩ := hasAllW_cons hsh
 obtain rfl := hasAllW_nil h2
 obtain ⟨xs, rfl, h3⟩ := hasW_list h1
 obtain ⟨ns, rfl⟩ := items_int h3
 have hlen : ns.length <= n := by
  unfold OpenLaw.pre at hc
  have h4 : (WTm.not (.lt (.lit (.int (n : Int))) (.len (.arg 0)))).holds [] { args := [.list (ns.map .int)] } = true := by
   have h4 := (holds_andW hc).1
   rw [hn] at h4
   exact h4
  have h5 := condW_of h4 (w_not (w_lt w_lit (w_len_list (w_arg rfl))))
  rw [List.length_map] at h5
  refine Nat.le_of_not_lt fun q => ?_
  have q' : (n : Int) < ((ns.length : Nat) : Int) := by omega
  first
   | (rw [decide_eq_true q'] at h5; exact absurd h5 (by decide))
   | (simp at h5; omega)
 cases hwl with
 | cons w1 w2 =>
  cases w2
  cases w1 with
  | list ho hall => exact ⟨_, _, ns, rfl, rfl, ho, fO ns _ hall, hlen⟩
theorem nj (l : OpenLaw) (args : List WData) : l.row.toRowW.claim.post args (.bool true) args = true :=
 postW_of (r := l.row.toRowW) (X := (true == true))
  (show WShape.has [] (.bool true) .bool = true by first | rfl | decide | simp [WShape.has, WShape.arms, WShape.armsAll])
  (show (WTm.eq .res (.lit (.bool true))).value [] { args := args, res := some (.bool true), after := args } = some (.bool (true == true)) from w_eq_bool (w_res rfl) w_lit) rfl
theorem jI {l : OpenLaw} {n : Nat} {q : Program} {loose : List Str} {XP : (Str -> Option Value) -> Heap -> Prop} {YP : World -> Heap -> Prop} {d : DefRec}
  (hn : l.most = some n) (hdf : d.params.defaults = [])
  (call : ∀ (w : World) (s₀ s₁ : Shared) (mg mb : Str -> Option Value) (fa : Addr) (o : Obj) (pm cd doc : Value) (a : Addr) (vs : List Value) (ns : List Int),
   Ground q loose [] XP w s₀ mg mb s₁.heap -> YP w s₁.heap ->
   s₁.heap.get? fa = some o -> o.data = .func (docDef d.name d.params d.body d.scope pm cd doc) -> s₁.heap.CodeRec cd d.name -> mg d.name = some (.ref fa) ->
   s₁.heap.get? a = some { cls := .type "list", data := .seq vs.toArray } -> IntsAre vs ns -> ns.length <= n -> s₁.gens = #[] ->
   codeAny (model l.prog w) callerA (.call (.ref fa) ⟨[.ref a], []⟩) (fun r s' => r = .ok (.ret (.bool true)) /\ OldK s₁.heap s'.heap /\ s'.os = s₁.os /\ AllBare s'.gens) s₁) :
  WalkO q loose XP YP l.row.toRowW d [] (fun f vs => PySem.call f vs) := by
 intro w s₀ s₁ mg mb G Y fa o pm cd doc dV kV ho hd hcd hD hmg hg args vals as hpre hlay hrd hwl hlo
 obtain rfl : dV = .none := Dflts.none hD hdf
 obtain rfl : kV = .none := Dflts.noKw hD
 obtain ⟨a, vs, ns, rfl, rfl, hobj, hints, hlen⟩ := nh hn hpre hwl
 refine enter_call (codeAny_mono (call w s₀ s₁ mg mb fa o pm cd doc a vs ns G Y ho (fd_plain hd) hcd hmg hobj hints hlen hg) fun r s' hq => ?_)
 obtain ⟨rfl, h2, h3, h4⟩ := hq
 exact ⟨.inl ⟨.bool true, .bool true, [], rfl, fun _ => rfl, .bool true, nj l _, fun _ => ⟨List.Pairwise.nil, fun _ hm => (nomatch hm)⟩⟩, h2, h3, h4⟩
end Att
namespace L2
open PySem PySem.Spec PyProof.Rows
theorem iE : ∀ {vs : List Value} {ns : List Int}, IntsAre vs ns -> Vals (ns.map V.int) vs
 | _, _, .nil => .nil
 | _, _, .cons n t h => .cons ⟨t, rfl⟩ (iE h)
end L2
namespace L2
open PySem PySem.Spec PyProof.Rows
def bz (s : Stmt) : Arguments := match s with
 | .FunctionDef _ a _ _ _ _ _ _ _ _ => a
 | _ => { posonlyargs := [], args := [], vararg := none, kwonlyargs := [], kw_defaults := [], kwarg := none, defaults := [] }
def aS (s : Stmt) : List Stmt := match s with
 | .FunctionDef _ _ b _ _ _ _ _ _ _ => b
 | _ => []
def ai (s : Stmt) : Scope := match s with
 | .FunctionDef _ _ _ _ _ _ sc _ _ _ => sc
 | _ => { kind := .function, names := [], isGenerator := false, isCoroutine := false }
abbrev CX0 : CXT := fun _ _ _ _ _ _ => False
abbrev E0 : XK := fun _ _ _ => False
theorem uO {X : Cx} : kI CX0 X E0 := fun _ _ _ _ _ _ _ h => h.elim
structure Fun (K : PySem.W.Frag) (x qual : Str) (st : Stmt) (f : Addr) (fd : FuncData) : Prop where
 ex : ∃ (oc : Value) (od : Option Addr) (kV doc pm : Value) (an : Option Addr) (cdv ct : Value) (osl : Array (Option Value)),
  fd = PySem.W.fnOf x qual (bz st) (aS st) (ai st) .none kV doc pm an cdv ct /\ K.lookup f = some ⟨oc, od, .func fd, osl⟩ /\ PySem.W.codeIn K cdv qual = true
 kp : PySem.W.keepIn K (.ref f) = true
section
variable {P : Program} {w : World} {K : PySem.W.Frag} {mg : Str -> Option Value} {base : Heap}
theorem Fun.ok {x qual : Str} {st : Stmt} {f : Addr} {fd : FuncData} {N ps : List Str} {k : Nat} {sp : Sp} (F : Fun K x qual st f fd) (S : aA N ps (ai st)) (len : ∀ vs H Q E, sp vs H Q E -> vs.length = ps.length)
  (hbody : ∀ (cdv : Value) (A : Around) (outer : List Env) (s : Shared) (H : Hp) (vs : List V) (Q : VK) (E : XK), aQ k (A.deeper (envOfC qual (ai st) s.heap.objs.size f cdv)) -> sp vs H Q E ->
   ∃ t, PSs (ft CX0 P w K mg base N qual (ai st) f cdv A outer s H E).nox (aS st) t /\ t { nx := fun _ H' => Q .non H', rt := Q } (start N vs) H) : fN P w K mg base CX0 (k + 1) f fd ps sp := by
 obtain ⟨oc, od, kV, doc, pm, an, cdv, ct, osl, rfl, lk, hcd⟩ := F.ex
 refine ox lk hcd S len fun A outer s H vs Q E hr hsp => ?_
 obtain ⟨t, h, q⟩ := hbody cdv A outer s H vs Q E hr hsp
 exact ⟨t, h.nox, q⟩
theorem Fun.binds {x qual : Str} {st : Stmt} {f : Addr} {fd : FuncData} {ps : List Str} (F : Fun K x qual st f fd)
  (h : ∀ (kV doc pm : Value) (an : Option Addr) (cdv ct : Value) (us : List Value), us.length = ps.length -> bindArgs (PySem.W.fnOf x qual (bz st) (aS st) (ai st) .none kV doc pm an cdv ct) ⟨us, []⟩ = pure (ps.zip us)) : Binds K fd ps [] := by
 obtain ⟨oc, od, kV, doc, pm, an, cdv, ct, osl, rfl, lk, hcd⟩ := F.ex
 exact .all (h kV doc pm an cdv ct)
theorem wX {x qual : Str} {st : Stmt} {f : Addr} {oc : Value} {od an : Option Addr} {osl : Array (Option Value)} {kV doc pm cdv ct : Value} (l : K.lookup f = some ⟨oc, od, .func (PySem.W.fnOf x qual (bz st) (aS st) (ai st) .none kV doc pm an cdv ct), osl⟩)
  (c : PySem.W.codeIn K cdv qual = true) (k : PySem.W.keepIn K (.ref f) = true) : Fun K x qual st f (PySem.W.fnOf x qual (bz st) (aS st) (ai st) .none kV doc pm an cdv ct) := ⟨⟨oc, od, kV, doc, pm, an, cdv, ct, osl, rfl, l, c⟩, k⟩
end
section
variable {X : Cx}
theorem pv (i : Nat) {x : Str} {pos : Pos} (hN : X.N[i]? = some x := by rfl) (hv : Vis X.env.scope x := by first | exact Or.inl rfl | exact Or.inr (Or.inl rfl) | exact Or.inr (Or.inr rfl)) (hd : (x == ("__debug__" : Str)) = false := by decide)
  (hcd : (x == ("__classdict__" : Str)) = false := by decide) : PE X (.Name x pos) (cY i) := kE hN hv hd hcd
end
end L2
section
namespace L2
open PySem PySem.Spec PyProof.Rows
theorem oF : bootBuiltins "int" = some (.type "int") := by decide +kernel
theorem sj : bootBuiltins "bool" = some (.type "bool") := by decide +kernel
theorem lX : bootBuiltins "list" = some (.type "list") := by decide +kernel
theorem jJ : bootBuiltins "tuple" = some (.type "tuple") := by decide +kernel
theorem je : bootBuiltins "len" = some (.builtin "len") := by decide +kernel
theorem aY : bootBuiltins "isinstance" = some (.builtin "isinstance") := by decide +kernel
def Has (P : Program) (w : World) (K : PySem.W.Frag) (mg : Str -> Option Value) (base : Heap) (k : Nat) (x : Str) (ps : List Str) (sp : Sp) : Prop :=
 ∃ (f : Addr) (fd : FuncData), fN P w K mg base CX0 k f fd ps sp /\ mg x = some (.ref f) /\ PySem.W.keepIn K (.ref f) = true /\ Binds K fd ps [] /\ ∃ (oc : Value) (od : Option Addr) (osl : Array (Option Value)), K.lookup f = some ⟨oc, od, .func fd, osl⟩
theorem oG {X : Cx} {j k : Nat} {x : Str} {ps : List Str} {sp : Sp} {e : Expr} {es : List Expr} {t : TA} {p pos : Pos} (E : Has X.prog X.w X.K X.mg X.base k x ps sp) (hr : aQ j X.A) (ha : PA X (e :: es) t)
  (hk : k <= j := by decide) (hg : Gl X x := by rfl) (hdb : (x == ("__debug__" : Str)) = false := by decide) (he : starEach (e :: es) X.env = (false, eval e X.env) :: starEach es X.env := by rfl)
  (hpl : (backTo pos (starEach es X.env)).any (·.1) = false := by rfl) : PE X (.Call (.Name x p) (e :: es) [] pos) (dU sp [] E0 t) := by
 obtain ⟨f, fd, F, hm, kp, hb, _⟩ := E
 exact i8 F (hr.mono hk) hg hm kp hb .nil uO ha hdb he hpl
def Src (K : PySem.W.Frag) (mg : Str -> Option Value) (x : Str) (st : Stmt) : Prop := ∃ (f : Addr) (fd : FuncData), Fun K x x st f fd /\ mg x = some (.ref f)
theorem Src.has {P : Program} {w : World} {K : PySem.W.Frag} {mg : Str -> Option Value} {base : Heap} {x : Str} {st : Stmt} {N ps : List Str} {k : Nat} {sp : Sp} (S : Src K mg x st) (sc : aA N ps (ai st))
  (hb : ∀ (kV doc pm : Value) (an : Option Addr) (cdv ct : Value) (us : List Value), us.length = ps.length -> bindArgs (PySem.W.fnOf x x (bz st) (aS st) (ai st) .none kV doc pm an cdv ct) ⟨us, []⟩ = pure (ps.zip us))
  (len : ∀ vs H Q E, sp vs H Q E -> vs.length = ps.length)
  (hbody : ∀ (f : Addr) (cdv : Value) (A : Around) (outer : List Env) (s : Shared) (H : Hp) (vs : List V) (Q : VK) (E : XK), aQ k (A.deeper (envOfC x (ai st) s.heap.objs.size f cdv)) -> sp vs H Q E ->
   ∃ t, PSs (ft CX0 P w K mg base N x (ai st) f cdv A outer s H E).nox (aS st) t /\ t { nx := fun _ H' => Q .non H', rt := Q } (start N vs) H) : Has P w K mg base (k + 1) x ps sp := by
 obtain ⟨f, fd, F, hm⟩ := S
 exact ⟨f, fd, F.ok sc len fun cdv A outer s H vs Q E hr h => hbody f cdv A outer s H vs Q E hr h, hm, F.kp, F.binds hb, by obtain ⟨oc, od, kV, doc, pm, an, cdv, ct, osl, _, lk, _⟩ := F.ex; exact ⟨oc, od, osl, lk⟩⟩
theorem aN {K : PySem.W.Frag} {h : Heap} {mg : Str -> Option Value} {x : Str} {st : Stmt} {f : Addr} {oc : Value} {od an : Option Addr} {osl : Array (Option Value)} {kV doc pm cdv ct : Value} (X : K.In h) (G : h.Ns mainGlobals mg)
  (a : PySem.W.nsIn K mainGlobals x = some (some (.ref f))) (l : K.lookup f = some ⟨oc, od, .func (PySem.W.fnOf x x (bz st) (aS st) (ai st) .none kV doc pm an cdv ct), osl⟩)
  (c : PySem.W.codeIn K cdv x = true) (k : PySem.W.keepIn K (.ref f) = true) : Src K mg x st := ⟨f, _, wX l c k, PySem.W.mg_of X G a⟩
def tH (ms : List Int) : Int := reduceHash (Builtin.Tuple.tupleHashOf (ms.map hashInt))
def wY (x : List Int × Addr × Value) : DictEntry := ⟨tH x.1, .ref x.2.1, x.2.2⟩
abbrev EV : List (List Int × Addr × V) -> List (List Int × Addr × Value) -> Prop := Paired fun p q => p.1 = q.1 /\ p.2.1 = q.2.1 /\ RelV p.2.2 q.2.2
def jK (a : Addr) (es : List (List Int × Addr × V)) (h : Heap) : Prop :=
 es.length <= sizeLine /\ (a == sysModules) = false /\ (es.map (·.1)).Nodup /\ ∃ xs, EV es xs /\ ∃ o ds ep, h.get? a = some o /\ o.ExactDict /\ o.data = .dict ds ep /\ ds.toList = xs.map wY
def bK (a : Addr) (ob : Obj) (es : List (List Int × Addr × V)) : HO := .ext fun h => jK a es h /\ h.get? a = some ob
theorem jK.ok {P : Program} {w : World} {H : Hp} {h : Heap} {a : Addr} {ob : Obj} {es : List (List Int × Addr × V)} (d : jK a es h) (q : h.get? a = some ob) : ObjOk P w H h a (bK a ob es) :=
 ⟨⟨d, q⟩, ⟨ob, q⟩, fun _ _ zt1 k => by obtain ⟨⟨z, m, nd, xs, ev, o, ds, ep, e, r⟩, q⟩ := zt1; exact ⟨⟨z, m, nd, xs, ev, o, ds, ep, k o e, r⟩, k ob q⟩⟩
theorem fS {X : Cx} {pins : List (Addr × Obj)} {σ : St} {H : Hp} {s : Shared} {a : Addr} {ob : Obj} {es : List (List Int × Addr × V)} (I : Inv X pins σ H s) (e : H a = some (bK a ob es)) : jK a es s.heap /\ s.heap.get? a = some ob :=
 (show ObjOk X.prog X.w H s.heap a (.ext fun h => jK a es h /\ h.get? a = some ob) from I.hok a _ e).1
theorem fT {X : Cx} {pins : List (Addr × Obj)} {σ : St} {H : Hp} {s : Shared} {a : Addr} {ob : Obj} {es : List (List Int × Addr × V)} (I : Inv X pins σ H s) (e : H a = some (bK a ob es)) : jK a es s.heap := (fS I e).1
inductive TyO (K : PySem.W.Frag) (H : Hp) : V -> String -> Prop where
 | non : TyO K H .non "NoneType"
 | bl (x : Bool) : TyO K H (.bl x) "bool"
 | int (i : Int) : TyO K H (.int i) "int"
 | str (x : Str) : TyO K H (.str x) "str"
 | lst {a : Addr} {xs : List V} (e : SqL K H a xs) : TyO K H (.ref a) "list"
 | tup {a : Addr} {xs : List V} (e : SqT K H a xs) : TyO K H (.ref a) "tuple"
 | dK {a : Addr} {kvs : List (Key × V)} (e : H a = some (.dK kvs)) : TyO K H (.ref a) "dict"
 | dT {a : Addr} {kvs : List (List Key × V)} (e : H a = some (.dT kvs)) : TyO K H (.ref a) "dict"
 | dE {a : Addr} {ob : Obj} {es : List (List Int × Addr × V)} (e : H a = some (bK a ob es)) : TyO K H (.ref a) "dict"
def nq (t c : String) : Option Bool := PySem.W.kitOne [] (.type t) (.type c)
theorem oH {K : PySem.W.Frag} {t c : String} : PySem.W.kitOne K (.type t) (.type c) = nq t c := rfl
theorem jf : nq "int" "int" = some true := by decide +kernel
theorem iq : nq "int" "bool" = some false := by decide +kernel
def wZ (K : PySem.W.Frag) : List V -> Hp -> VK -> Prop := fun xs H Q => ∃ x t c b, xs = [x, .ty c] /\ TyO K H x t /\ nq t c = some b /\ Q (.bl b) H
theorem oI {X : Cx} : bO X (.builtin "isinstance") (wZ X.K) := by
 intro pins s σ H xs us Q I r h
 obtain ⟨x, t, c, b, rfl, ty, e, q⟩ := h
 obtain ⟨u, w', rfl, rx, rc⟩ := vals2 r
 obtain rfl : w' = Value.type c := rc
 have e' : PySem.W.kitOne X.K (.type t) (.type c) = some b := by rw [oH]; exact e
 have fin : ∀ tk, EP X pins σ Q (.bool b) { s with toks := tk } := fun tk => ⟨.bl b, H, I.tok tk, rfl, q⟩
 cases ty with
 | non => exact bS I rx (.non) e' fin
 | bl y => exact bS I rx (.bl y) e' fin
 | int i => exact bS I rx (.int i) e' fin
 | str y => exact bS I rx (.str y) e' fin
 | dK ea => exact bS I rx (.dK ea) e' fin
 | dT ea => exact bS I rx (.dT ea) e' fin
 | @dE a ob es ea =>
  cases rx
  obtain ⟨_, _, _, _, _, o, _, _, h1, h2, _⟩ := fT I ea
  exact PySem.W.kia_one PySem.W.kitx_dict I.kIn ⟨o, h1, h2.1⟩ e' (fun z => nomatch z) fin
 | lst ea =>
  cases rx
  obtain ⟨its, _, pl, _⟩ := I.list ea
  obtain ⟨o, h1, h2, _⟩ := pl.isList
  exact PySem.W.kia_one PySem.W.kitx_list I.kIn ⟨o, h1, h2⟩ e' (fun z => nomatch z) fin
 | tup ea =>
  cases rx
  obtain ⟨its, _, p, _⟩ := I.tuple ea
  obtain ⟨o, h1, h2, _⟩ := p
  exact PySem.W.kia_one PySem.W.kitx_tuple I.kIn ⟨o, h1, h2⟩ e' (fun z => nomatch z) fin
section
variable {X : Cx}
def Tups (K : PySem.W.Frag) (H : Hp) (ps : List Addr) (mss : List (List Int)) : Prop := Paired (fun p ms => SqT K H p (List.map V.int ms)) ps mss
end
def lY : List Value -> Option (List Int)
 | [] => some []
 | .int i _ :: r => (lY r).map (i :: ·)
 | _ :: _ => none
theorem jL : ∀ {us : List Value} {ns : List Int}, lY us = some ns -> Vals (ns.map V.int) us
 | [], ns, e => by cases e; exact .nil
 | u :: r, ns, e => by
  cases u with
  | int i t =>
   obtain ⟨ms, h1, rfl⟩ := Option.map_eq_some_iff.mp (show (lY r).map (i :: ·) = some ns from e)
   exact .cons ⟨t, rfl⟩ (jL h1)
  | _ => cases e
def kL (K : PySem.W.Frag) (a : Addr) : Option (List Value) := match K.lookup a with
 | some ⟨.type "tuple", _, .seq its _, _⟩ => if its.toList.length <= 1000 then some its.toList else none
 | _ => none
theorem lZ {K : PySem.W.Frag} {H : Hp} {a : Addr} {us : List Value} {xs : List V} (e : kL K a = some us) (r : Vals xs us) : SqT K H a xs := by
  unfold kL at e
  split at e
  · rename_i c its n sl lk
    split at e
    · rename_i hz
      cases e
      have hs : sizeLine = 16777216 := sizeLine_eq
      exact .inr ⟨_, its, n, lk, rfl, rfl, by have : its.toList.length = its.size := by simp
                                              lia, r⟩
    · cases e
  · cases e
def okT (K : PySem.W.Frag) (v : Value) (ns : List Int) : Bool := match v with
 | .ref a => (match kL K a with | some us => decide (lY us = some ns) | none => false)
 | _ => false
theorem w9 {K : PySem.W.Frag} {H : Hp} {v : Value} {ns : List Int} (e : okT K v ns = true) : ∃ a, v = .ref a /\ SqT K H a (ns.map V.int) := by
 unfold okT at e
 split at e
 ·rename_i a
  split at e
  ·rename_i us h
   exact ⟨a, rfl, lZ h (jL (of_decide_eq_true e))⟩
  ·cases e
 ·cases e
def sk (K : PySem.W.Frag) : List Value -> List (List Int) -> Bool
 | [], [] => true
 | v :: r, ns :: s => okT K v ns && sk K r s
 | _, _ => false
theorem jg {K : PySem.W.Frag} {H : Hp} : ∀ {us : List Value} {nss : List (List Int)}, sk K us nss = true -> ∃ ps, Vals (ps.map V.ref) us /\ Tups K H ps nss
 | [], [], _ => ⟨[], .nil, .nil⟩
 | u :: r, ns :: s, e => by
  rw [sk, Bool.and_eq_true] at e
  obtain ⟨a, rfl, h⟩ := w9 (H := H) e.1
  obtain ⟨ps, h1, h2⟩ := jg e.2
  exact ⟨a :: ps, .cons rfl h1, .cons h h2⟩
 | [], _ :: _, e => by cases e
 | _ :: _, [], e => by cases e
def sm (K : PySem.W.Frag) (v : Value) (nss : List (List Int)) : Bool := match v with
 | .ref a => (match kL K a with | some us => sk K us nss | none => false)
 | _ => false
def TTup (K : PySem.W.Frag) (v : V) (nss : List (List Int)) : Prop := ∃ a ps, v = .ref a /\ ∀ H : Hp, SqT K H a (ps.map V.ref) /\ Tups K H ps nss
theorem sq {K : PySem.W.Frag} {v : Value} {nss : List (List Int)} (e : sm K v nss = true) : ∃ x, RelV x v /\ TTup K x nss := by
 unfold sm at e
 split at e
 ·rename_i a
  split at e
  ·rename_i us h
   obtain ⟨ps, h1, h2⟩ := jg (H := fun _ => none) e
   refine ⟨.ref a, rfl, a, ps, rfl, fun H => ⟨lZ h h1, ?_⟩⟩
   obtain ⟨ps', h1', h2'⟩ := jg (H := H) e
   have := h1.inj h1'
   have e2 : ps = ps' := by
    have := congrArg (List.map (fun v => match v with | V.ref i => i | _ => 0)) this
    simpa [List.map_map, Function.comp_def] using this
   rw [e2]
   exact h2'
  ·cases e
 ·cases e
def su (K : PySem.W.Frag) : List DictEntry -> List (Int × List (List Int)) -> Bool
 | [], [] => true
 | e :: r, p :: s => Value.isInt p.1 e.key && decide (e.hash = hashInt p.1) && sm K e.val p.2 && su K r s
 | _, _ => false
def okD (K : PySem.W.Frag) (d : Addr) (rows : List (Int × List (List Int))) : Bool := match K.lookup d with
 | some ⟨.type "dict", none, .dict es _, sl⟩ => sl.size == 0 && su K es.toList rows && decide (rows.map (·.1)).Nodup
 | _ => false
theorem md {P : Program} {w : World} {K : PySem.W.Frag} : ∀ {es : List DictEntry} {rows : List (Int × List (List Int))}, su K es rows = true ->
  ∃ kvs : List (Int × Value), Pairs (intKind P w) es kvs /\ (∀ e ∈ es, ∃ k, (intKind P w).is k e.key = true /\ e.hash = (intKind P w).hash k) /\ kvs.map (·.1) = rows.map (·.1) /\
   ∀ k nss, (k, nss) ∈ rows -> (rows.map (·.1)).Nodup -> ∃ v, valueAt kvs k = some v /\ sm K v nss = true
 | [], [], _ => ⟨[], .nil, (fun _ h => nomatch h), rfl, (fun _ _ h => nomatch h)⟩
 | e :: r, p :: s, h => by
  rw [su, Bool.and_eq_true, Bool.and_eq_true, Bool.and_eq_true] at h
  obtain ⟨⟨⟨h1, h2⟩, h3⟩, h4⟩ := h
  obtain ⟨kvs, g1, g2, g3, g4⟩ := md (P := P) (w := w) h4
  refine ⟨(p.1, e.val) :: kvs, .cons h1 rfl g1, fun x hx => ?_, by simp [g3], fun k nss hk nd => ?_⟩
  ·rcases List.mem_cons.mp hx with rfl | hx
   ·exact ⟨p.1, h1, of_decide_eq_true h2⟩
   ·exact g2 x hx
  ·rw [List.map_cons, List.nodup_cons] at nd
   rcases List.mem_cons.mp hk with rfl | hk
   ·exact ⟨e.val, by simp [valueAt], h3⟩
   ·obtain ⟨v, e1, e2⟩ := g4 k nss hk nd.2
    refine ⟨v, ?_, e2⟩
    have ne : ¬ p.1 = k := fun z => nd.1 (List.mem_map.mpr ⟨(k, nss), hk, z.symm⟩)
    unfold valueAt at e1 ⊢
    rw [List.find?_cons_of_neg (by simpa using ne)]
    exact e1
 | [], _ :: _, h => by cases h
 | _ :: _, [], h => by cases h
def zH (K : PySem.W.Frag) (rows : List (Int × List (List Int))) : R2 := fun x y H Q => ∃ d k nss, x = .ref d /\ y = .int k /\ okD K d rows = true /\ (k, nss) ∈ rows /\ ∀ v, TTup K v nss -> Q v H
theorem sv {X : Cx} {rows : List (Int × List (List Int))} : IxR X (zH X.K rows) := by
 intro value slice pins s σ H x y v u Q I rx ry h hs
 obtain ⟨d, k, nss, rfl, rfl, hd, hk, q⟩ := h
 cases rx
 obtain ⟨t, rfl⟩ := ry
 unfold okD at hd
 split at hd
 ·rename_i es n sl lk
  rw [Bool.and_eq_true, Bool.and_eq_true] at hd
  obtain ⟨⟨h1, h2⟩, h3⟩ := hd
  obtain ⟨kvs, g1, g2, g3, g4⟩ := md (P := X.prog) (w := X.w) h2
  have nd := of_decide_eq_true h3
  obtain ⟨v, e1, e2⟩ := g4 k nss hk nd
  have sl0 : sl = #[] := by
   have : sl.size = 0 := by simpa using h1
   exact Array.eq_empty_of_size_eq_zero this
  have D : s.heap.DictOf (intKind X.prog X.w) d kvs := ⟨_, es, n, I.kIn d _ lk, ⟨rfl, rfl, sl0⟩, rfl, fun e he => g2 e (by simpa using he), g1, by rw [g3]; exact nd⟩
  obtain ⟨x, rx, tt⟩ := sq e2
  exact tail_any D.typeIs slot_dict_getitem.lookup (wpAny_getItem_of (k := k) (by show Value.isInt k (.int k t) = true; simp [Value.isInt]) D.mapOf e1 ⟨x, H, I.tok _, rx, q x tt⟩) hs
 ·cases hd
end L2
end
variable {H : L2.Hp} {vs : List L2.V} {es : List (List Int × PySem.Addr × L2.V)} {σ : L2.St} {pins : List (PySem.Addr × PySem.Obj)} {ix : List Nat} {v : L2.V} {K : PySem.W.Frag} {ns : List Int} {ms : List Int} {mss : List (List Int)} {tg : List PySem.Str} {cs : List PySem.Str} {bo : List Int}
section
namespace L2
open PySem PySem.Spec PyProof.Rows
def cO (env : Env) : List (Str × NameKind) -> List (Str × Addr) -> List (Str × Addr)
 | [], acc => acc
 | (n, k) :: r, acc => cO env r (if (k == NameKind.free) = true then (match env.cells.lookup n with | some c => (n, c) :: acc | none => acc) else acc)
theorem gx {env : Env} : ∀ {l : List (Str × NameKind)} {acc : List (Str × Addr)} {n : Str} {c : Addr}, (n, c) ∈ cO env l acc -> (n, c) ∈ acc \/ env.cells.lookup n = some c
 | [], _, _, _, h => .inl h
 | (m, k) :: r, acc, n, c, h => by
  unfold cO at h
  rcases gx h with h | h
  ·split at h
   ·split at h
    ·rename_i c' e
     rcases List.mem_cons.mp h with h | h
     ·cases h; exact .inr e
     ·exact .inl h
    ·exact .inl h
   ·exact .inl h
  ·exact .inr h
theorem iF {env : Env} : ∀ {l : List (Str × NameKind)} {acc : List (Str × Addr)} {p : Str × Addr}, p ∈ acc -> p ∈ cO env l acc
 | [], _, _, h => h
 | (m, k) :: r, acc, p, h => by
  unfold cO
  refine iF ?_
  split
  ·split
   ·exact List.mem_cons_of_mem _ h
   ·exact h
  ·exact h
theorem jM {env : Env} : ∀ {l : List (Str × NameKind)} {acc : List (Str × Addr)} {n : Str} {c : Addr}, (n, NameKind.free) ∈ l -> env.cells.lookup n = some c -> (n, c) ∈ cO env l acc
 | (m, k) :: r, acc, n, c, h, e => by
  unfold cO
  rcases List.mem_cons.mp h with h | h
  ·cases h
   refine iF ?_
   rw [if_pos (show (NameKind.free == NameKind.free) = true from rfl), e]
   exact List.mem_cons_self
  ·exact jM h e
theorem cellOf_eq {env : Env} {n : Str} {c : Addr} (h : env.cells.lookup n = some c) : cellOf env n = pure c := by
 unfold cellOf
 rw [h]
theorem kM {env : Env} {scope : Scope} (h : ∀ n, (n, NameKind.free) ∈ scope.names -> ∃ c, env.cells.lookup n = some c) : closureFor scope env = pure (cO env scope.names []) := by
 have all : ∀ (l : List (Str × NameKind)) (acc : List (Str × Addr)), (∀ n, (n, NameKind.free) ∈ l -> ∃ c, env.cells.lookup n = some c) ->
   (forIn l acc fun (x : Str × NameKind) (cs : List (Str × Addr)) => (if (x.2 == NameKind.free) = true then (do let c <- cellOf env x.1; pure (ForInStep.yield ((x.1, c) :: cs))) else pure (ForInStep.yield cs) : Sem (ForInStep (List (Str × Addr))))) = pure (cO env l acc) := by
  intro l
  induction l with
  | nil => intro acc _; rfl
  | cons x r ih =>
   intro acc hl
   obtain ⟨n, k⟩ := x
   rw [List.forIn_cons]
   unfold cO
   cases hk : (k == NameKind.free) with
   | true =>
    have hk' : k = NameKind.free := by simpa using hk
    subst hk'
    obtain ⟨c, e⟩ := hl n List.mem_cons_self
    simp only [if_true, cellOf_eq e, pure_bind, e]
    exact ih _ fun m hm => hl m (List.mem_cons_of_mem _ hm)
   | false =>
    simp only [Bool.false_eq_true, if_false, pure_bind]
    exact ih _ fun m hm => hl m (List.mem_cons_of_mem _ hm)
 have q := all scope.names [] h
 unfold closureFor
 first
  | (simp only [bind_pure_comp, map_pure] at q ⊢; rw [q]; rfl)
  | (rw [q]; rfl)
  | exact q
def aI (X : Cx) (scope : Scope) (N : List Str) (C : Addr) (fp : List Addr) (s₀ : Shared) (H₀ : Hp) : Cx :=
 { X with N := N, s₀ := s₀, H₀ := H₀, env := compEnvC scope (cO X.env scope.names []) C X.env, outer := X.stack, stack := X.stack, ex := fp, fn := fun _ => false, pn := [], xe := fun _ _ => False }
def capt (n : Nat) (ix : List Nat) (σ : St) : St := List.replicate n none ++ ix.map fun i => (σ[i]?).getD none
structure bD (X : Cx) (scope : Scope) (tg cs : List Str) (ix : List Nat) : Prop where
 kind : scope.kind = .function
 nocell : ∀ y ∈ scope.names, y.2 ≠ .cell
 names : ∀ y ∈ scope.names, y.2 = .local -> scope.names.lookup y.1 = some .local
 nd : (tg ++ cs).Nodup
 at_ : ix.map (fun i => X.N[i]?) = cs.map some
 free : ∀ x ∈ cs, (x, NameKind.free) ∈ scope.names /\ scope.names.lookup x = some .free
 out : ∀ x, (x, NameKind.free) ∈ scope.names -> X.env.scope.names.lookup x = some .cell \/ X.env.scope.names.lookup x = some .free
theorem eG {f : Str × NameKind -> Str × NameKind} (hf : ∀ p, (f p).1 = p.1) : ∀ (names : List (Str × NameKind)) (x : Str), (names.map f).lookup x = (names.lookup x).map fun k => (f (x, k)).2
 | [], _ => rfl
 | p :: r, x => by
  have e : f p = (p.1, (f p).2) := by rw [<- hf p]
  rw [List.map_cons, e, List.lookup_cons, List.lookup_cons, eG hf r x]
  cases q : x == p.1 with
  | false => rfl
  | true =>
   have z : x = p.1 := by simpa using q
   subst z
   rfl
def freed (env : Env) (p : Str × NameKind) : Bool := p.2 == NameKind.free && env.scope.kind == .function && env.kindOf p.1 == some .cell
theorem eH {env : Env} {names : List (Str × NameKind)} {x : Str} :
  (names.map fun (n, k) => if (k == NameKind.free && env.scope.kind == .function && env.kindOf n == some .cell) then (n, NameKind.cell) else (n, k)).lookup x = (names.lookup x).map fun k => if freed env (x, k) = true then .cell else k := by
 refine (eG (fun p => ?_) names x).trans ?_
 ·dsimp only
  split <;> rfl
 ·congr 1
  funext k
  unfold freed
  dsimp only
  split <;> rfl
theorem bP {env : Env} {names : List (Str × NameKind)} {x : Str} {k : NameKind}
  (h : (names.map fun (n, k) => if (k == NameKind.free && env.scope.kind == .function && env.kindOf n == some .cell) then (n, NameKind.cell) else (n, k)).lookup x = some k) (hk : k = .cell \/ k = .free) (nc : ∀ y ∈ names, y.2 ≠ .cell) : (x, NameKind.free) ∈ names := by
 rw [eH] at h
 cases q : names.lookup x with
 | none => rw [q] at h; cases h
 | some k0 =>
  have hm := PySem.mem_of_lookup q
  suffices z : k0 = .free by rw [<- z]; exact hm
  rw [q] at h
  by_cases c : freed env (x, k0) = true
  ·unfold freed at c
   simp only [Bool.and_eq_true, beq_iff_eq] at c
   exact c.1.1
  ·have h2 : k0 = k := by simpa [c] using h
   rcases hk with e | e
   ·exact absurd (h2.trans e) (nc _ hm)
   ·exact h2.trans e
theorem dR {env : Env} {names : List (Str × NameKind)} {x : Str} (h : names.lookup x = some .free) :
  (names.map fun (n, k) => if (k == NameKind.free && env.scope.kind == .function && env.kindOf n == some .cell) then (n, NameKind.cell) else (n, k)).lookup x = some .cell \/
  (names.map fun (n, k) => if (k == NameKind.free && env.scope.kind == .function && env.kindOf n == some .cell) then (n, NameKind.cell) else (n, k)).lookup x = some .free := by
 rw [eH, h]
 by_cases c : freed env (x, .free) = true
 ·exact .inl (by simp [c])
 ·exact .inr (by simp [c])
section
variable {X : Cx} {pins : List (Addr × Obj)} {σ : St} {H H1 : Hp} {s : Shared}
theorem Inv.track {D : Addr} {o : HO} (I : Inv X pins σ H s) (hn : H D = none) (hs : X.s₀.heap.objs.size <= D) (hL : D ≠ X.env.locals) (hc : ∀ x c, X.env.cells.lookup x = some c -> c ≠ D) (hp : ∀ p ∈ X.pn ++ pins, p.1 ≠ D)
  (new : ObjOk X.prog X.w (upd H D o) s.heap D o) : Inv X pins σ (upd H D o) s := by
 have nb : ∀ b ob, X.s₀.heap.get? b = some ob -> b ≠ D := fun b ob e z => by subst z; exact absurd (Nat.lt_of_lt_of_le (Heap.lt_size e) hs) (Nat.lt_irrefl _)
 refine ⟨I.ok, I.os, I.bare, ⟨I.base.keep, I.base.slot, fun b ob e n hx => ?_, I.base.there, fun b xs e => ?_, fun b ob u e => ?_, fun b ps e => ?_⟩, I.loc, I.cell, ?_, fun x c e => ?_, fun p hpp => ?_, fun b u e => ?_, I.len⟩
 ·rw [ao (nb b ob e)]; exact I.base.free b ob e n hx
 ·have q := I.base.tups b xs e
  rw [ao (au q hn)]; exact q
 ·have q := I.base.frzs b ob u e
  rw [ao (au q hn)]; exact q
 ·obtain ⟨more, q⟩ := I.base.tbls b ps e
  exact ⟨more, by rw [ao (au q hn)]; exact q⟩
 ·rw [ao hL.symm]; exact I.free
 ·rw [ao (hc x c e)]; exact I.freeC x c e
 ·obtain ⟨a, b, c, d, e⟩ := I.pin p hpp
  exact ⟨a, by rw [ao (hp p hpp)]; exact b, c, d, e⟩
 ·by_cases hb : b = D
  ·subst hb; rw [aq] at e; cases e; exact new
  ·rw [ao hb] at e
   exact (I.hok b u e).stay (fun _ _ _ q => q) (fun c q => by rw [ao (au q hn)]; exact q) fun c xs q => by rw [ao (au q hn)]; exact q
theorem cE {X : Cx} {tg cs : List Str} (hat : ix.map (fun i => X.N[i]?) = cs.map some) {i : Nat} {x : Str} (h1 : (tg ++ cs)[i]? = some x) (h2 : (capt tg.length ix σ)[i]? = some (some v)) :
  x ∈ cs /\ ∃ k : Nat, X.N[k]? = some x /\ σ[k]? = some (some v) := by
 unfold capt at h2
 by_cases hi : i < tg.length
 ·rw [List.getElem?_append_left (by simpa using hi), List.getElem?_replicate, if_pos hi] at h2
  cases h2
 ·rw [List.getElem?_append_right (by simpa using hi), List.length_replicate, List.getElem?_map] at h2
  rw [List.getElem?_append_right (by lia)] at h1
  cases e : ix[i - tg.length]? with
  | none => rw [e] at h2; cases h2
  | some k =>
   rw [e] at h2
   have h2 : (σ[k]?).getD none = some v := Option.some.inj h2
   have q := congrArg (fun l => l[i - tg.length]?) hat
   simp only [List.getElem?_map, e, h1, Option.map_some] at q
   refine ⟨List.mem_of_getElem? h1, k, Option.some.inj q, ?_⟩
   cases z : σ[k]? with
   | none => rw [z] at h2; cases h2
   | some y => rw [z] at h2; exact congrArg some h2
end
def PTs (X : Cx) (ifs : List Expr) (t : TT) : Prop :=
 ∀ (pins : List (Addr × Obj)) (s : Shared) (σ : St) (H : Hp) (Q : Bool -> Hp -> Prop), Inv X pins σ H s -> t σ H Q ->
  wpAny (model X.prog X.w) X.A (forIn ifs true fun c r => if r = true then do let ok <- isTrue c X.env (eval c X.env); pure (ForInStep.yield ok) else pure (ForInStep.yield r)) (TP X pins σ Q) X.xe s
def uP : TT := fun _ H Q => Q true H
theorem sC {X : Cx} : PTs X [] uP := fun _ _ _ H _ I h => wpAny_tests_nil ⟨H, I, h⟩
theorem sE {X : Cx} {c : Expr} {t : TT} (h : PT X c t) : PTs X [c] t := fun pins s σ H Q I hw => wpAny_tests_one (h pins s σ H Q I hw)
def d0 (n : Nat) (ix : List Nat) (g : TG) : Prop := ∀ x σ H Q, g x (capt n ix σ) H Q -> g x (capt n ix σ) H fun σ2 H2 => (σ2.length = (capt n ix σ).length /\ ∀ (i : Nat) (v : V), (capt n ix σ)[i]? = some (some v) -> σ2[i]? = some (some v)) /\ Q σ2 H2
theorem fv {n : Nat} {j : Nat} (h : j < n) (e : (capt n ix σ)[j]? = some (some v)) : False := by
 unfold capt at e
 rw [List.getElem?_append_left (by simpa using h), List.getElem?_replicate, if_pos h] at e
 cases e
theorem bU {n : Nat} {j : Nat} (h : j < n) : d0 n ix (bC j) := fun x σ H Q q => ⟨⟨by simp, fun i v e => by
 by_cases hi : j = i
 ·subst hi; exact (fv h e).elim
 ·rw [List.getElem?_set_ne hi]; exact e⟩, q⟩
theorem fw {n : Nat} {m j k : Nat} (h : j < n) (h' : k < n) : d0 n ix (wu K m (lM (bC j) (lM (bC k) wt))) := fun x σ H Q q => by
 obtain ⟨a, xs, e1, hq, hl, v, r, e2, v', r', e3, e4, q⟩ := q
 refine ⟨a, xs, e1, hq, hl, v, r, e2, v', r', e3, e4, ⟨by simp, fun i v e => ?_⟩, q⟩
 by_cases hi : j = i
 ·subst hi; exact (fv h e).elim
 ·by_cases hk : k = i
  ·subst hk; exact (fv h' e).elim
  ·rw [List.getElem?_set_ne hk, List.getElem?_set_ne hi]; exact e
def jN (wi : TI) (n : Nat) (ix : List Nat) (g : TG) (tc : TT) (te : TE) : TE := fun σ H Q => wi σ H fun J H1 => ∃ W : Nat -> Nat -> List V -> Hp -> Prop, (∃ m, W 0 m [] H1) /\ ∀ i m ys H2, W i m ys H2 ->
 (J.stop i H2 /\ ys.length <= sizeLine /\ ∀ D, H2 D = none -> Q (.ref D) (upd H2 D (.lst ys))) \/
 (J.go i H2 /\ ys.length < sizeLine /\ ∃ Nx : List V -> Hp -> Prop, (∀ ys' H', Nx ys' H' -> ∃ m', m' < m /\ W (i + 1) m' ys' H') /\
  ∀ x H3, J.yld i H2 x H3 -> g x (capt n ix σ) H3 fun σ2 H4 => tc σ2 H4 fun b H5 => if b = true then te σ2 H5 fun v H6 => Nx (ys ++ [v]) H6 else Nx ys H5)
section
variable {X : Cx} {pins : List (Addr × Obj)} {σ : St} {H H1 : Hp} {s : Shared}
theorem oJ {scope : Scope} {tg cs : List Str} {fp : List Addr} {s4 : Shared} (S : bD X scope tg cs ix) (I : Inv X pins σ H s) (hf : ∀ b ∈ fp, gn X pins H b) (ho : ∀ b ∈ fp, ∃ o, s.heap.get? b = some o) {C : Addr} (hC : s.heap.objs.size <= C)
  (hk : ∀ b o, s.heap.get? b = some o -> s4.heap.get? b = some o) (hns : s4.heap.Ns C fun _ => none) (os : s4.os = s.os) (bare : AllBare s4.gens) (hn : H C = none) :
  Inv (aI X scope (tg ++ cs) C fp s H) [] (capt tg.length ix σ) H s4 := by
 have clX : ∀ x c, (cO X.env scope.names []).lookup x = some c -> X.env.cells.lookup x = some c := fun x c e => by
  rcases gx (PySem.mem_of_lookup e) with h | h
  ·cases h
  ·exact h
 have hasC : ∀ x, (x, NameKind.free) ∈ scope.names -> ∃ c, (cO X.env scope.names []).lookup x = some c := fun x hx => by
  obtain ⟨c, e⟩ := I.ok.has x (S.out x hx)
  have m := jM (acc := []) hx e
  cases q : (cO X.env scope.names []).lookup x with
  | some c' => exact ⟨c', rfl⟩
  | none =>
   have := List.lookup_eq_none_iff.mp q (x, c) m
   simp at this
 refine ⟨⟨I.ok.mod, ?_, I.ok.glob, I.ok.blt, hC, fun x y c e1 e2 => I.ok.inj x y c (clX x c e1) (clX y c e2), fun x hx => ?_, fun x c h => ?_, I.ok.hd, I.ok.frames, .inl rfl, fun b hb => ⟨?_, fun x c e => ?_⟩, I.bs, Nat.le_trans I.ok.bsz I.sz, fun b o e hb => ?_, fun b hb hx => ?_, I.stack, I.stkFree⟩,
  os, bare, Un.kept hk, ⟨_, hns, fun i x v e1 e2 e3 => ?_⟩, fun x c e => ?_, hn, fun x c e => I.freeC x c (clX x c e), fun p hp => (by cases hp), I.hok.kept hk, ?_⟩
 ·show (relabel scope X.env).kind = .function
  exact S.kind
 ·have hx' : (relabel scope X.env).names.lookup x = some .cell \/ (relabel scope X.env).names.lookup x = some .free := hx
  rcases hx' with h | h
  ·exact hasC x (bP h (.inl rfl) S.nocell)
  ·exact hasC x (bP h (.inr rfl) S.nocell)
 ·cases h
 ·obtain ⟨o, e⟩ := ho b hb
  exact Nat.ne_of_lt (Nat.lt_of_lt_of_le (Heap.lt_size e) hC)
 ·exact (hf b hb).2.2.2.2.1 x c (clX x c e)
 ·obtain ⟨_, _, _, h, _⟩ := hf b hb
  rcases h with h | h
  ·exact I.ok.noex b o e h
  ·exact absurd (Nat.lt_of_lt_of_le (Heap.lt_size (I.ok.bs b o e).1) h) (Nat.lt_irrefl _)
 ·have hx : b ∈ frs X.stack := hx
  obtain ⟨_, h1, h2, _⟩ := hf b hb
  rcases List.mem_cons.mp (I.stkSub b hx) with h | h
  ·exact h1 h
  ·exact h2 h
 ·obtain ⟨hx, k, h1, h2⟩ := cE (X := X) S.at_ e1 e2
  obtain ⟨hx1, hx2⟩ := S.free x hx
  obtain ⟨m, hnm, hl⟩ := I.loc
  have ov := S.out x hx1
  obtain ⟨u, r, l⟩ := hl k x v h1 h2 (by rcases ov with z | z; exact .inr (.inl z); exact .inr (.inr z))
  refine ⟨u, r, ?_⟩
  rcases l with ⟨l, _⟩ | ⟨_, c, lc, ic⟩
  ·have l : X.env.scope.names.lookup x = some .local := l
   rcases ov with z | z <;> rw [z] at l <;> cases l
  ·obtain ⟨c', e'⟩ := hasC x hx1
   have := (clX x c' e').symm.trans lc
   cases this
   refine .inr ⟨dR hx2, c, e', ?_⟩
   obtain ⟨o, ho1, ho2⟩ := ic
   exact ⟨o, hk c o ho1, ho2⟩
 ·obtain ⟨v, o, ho1, ho2⟩ := I.cell x c (clX x c e)
  exact ⟨v, o, hk c o ho1, ho2⟩
 ·show (capt tg.length ix σ).length = (tg ++ cs).length
  have := congrArg List.length S.at_
  simp only [List.length_map] at this
  unfold capt
  simp [this]
theorem iG {use : Option (Value -> Sem Unit)} {Qc : Value -> Shared -> Prop} {pos' : Pos} {elt target iter : Expr} {ifs : List Expr} {scope : Scope} {pos : Pos} {tg cs : List Str} {wi : TI} {g : TG} {tc : TT} {te : TE} (S : bD X scope tg cs ix) (hcalm : X.calm = true) (kg : d0 tg.length ix g)
    (hi : PI X target iter wi) (hg : ∀ C fp s H, PG (aI X scope (tg ++ cs) C fp s H) target g) (hc : ∀ C fp s H, PTs (aI X scope (tg ++ cs) C fp s H) ifs tc) (he : ∀ C fp s H, PE (aI X scope (tg ++ cs) C fp s H) elt te)
    (hs : ∀ x, foldedSetIterable iter X.env x = pure x) {pins : List (Addr × Obj)} {s : Shared} {σ : St} {H : Hp} {Q : VK} (I : Inv X pins σ H s) (h : jN wi tg.length ix g tc te σ H Q)
    (fin : ∀ D C H' s' v, Inv X pins σ H' s' -> Q (.ref D) H' -> gn X pins H' C -> (∃ m, s'.heap.Ns C m) -> compPost (model X.prog X.w) X.A X.xe use Qc (.ref D) C (.ok v) s') :
    wpAny (model X.prog X.w) X.A (comprehension (.ListComp elt [⟨target, iter, ifs, 0⟩] scope pos) scope X.env pos' (newList []) false (eval iter X.env) use) Qc X.xe s := by
  refine wpAny_comprehension_free (use := use) (cl := cO X.env scope.names []) rfl hs (kM fun n hn => I.ok.has n (S.out n hn)) S.kind S.names ?_
  refine wpAny_mono (hi pins s σ H _ I h) (fun v s1 h1 => wpAny_mono h1 (fun itv s2 h2 => ?_) fun _ _ e => e) fun _ _ e => e
  obtain ⟨it, fp, tn, J, H2, rfl, I2, T, st2, f2, W, ⟨m0, w0⟩, turn⟩ := h2
  refine wpAny_newObj_type (wpAny_newFunctionEnv S.nocell (by intro y hy; simp at hy) (fun h1 hns1 hsb1 => ?_) S.kind)
  dsimp only at hns1 hsb1 ⊢
  generalize hP : s2.heap.push { cls := .type "list", dict := none, data := .seq ([] : List Value).toArray } = P2 at hns1 hsb1 ⊢
  have hCs : P2.objs.size = s2.heap.objs.size + 1 := by rw [<- hP, Heap.size_push]
  have hDC : s2.heap.objs.size ≠ P2.objs.size := by rw [hCs]; exact Nat.ne_of_lt (Nat.lt_succ_self _)
  have hCle : s2.heap.objs.size <= P2.objs.size := by rw [hCs]; exact Nat.le_succ _
  generalize hCg : P2.objs.size = C at *
  have old : ∀ b o, s2.heap.get? b = some o -> h1.get? b = some o := fun b o e => hsb1.extBut b o (Nat.ne_of_lt (Nat.lt_of_lt_of_le (Heap.lt_size e) hCle)) (Heap.get?_push_of_some _ (hP ▸ Heap.get?_push_of_some _ e))
  generalize hDg : s2.heap.objs.size = D at *
  have hD0 : h1.get? D = some { cls := .type "list", data := .seq ([] : List Value).toArray 0 } := hsb1.extBut _ _ hDC (Heap.get?_push_of_some _ (hP ▸ hDg ▸ Heap.get?_push_size _ rfl))
  have nC : H2 C = none := I2.hok.fresh (by rw [hDg]; exact hCle)
  have nD : H2 D = none := I2.hok.fresh (by rw [hDg]; exact Nat.le_refl _)
  have fo : ∀ b ∈ fp, ∃ o, s2.heap.get? b = some o := fun b hb => let ⟨o, e, _⟩ := T.obj _ _ st2 b hb; ⟨o, e⟩
  have Dfp : D ∉ fp := fun z => by
    obtain ⟨o, e⟩ := fo D z
    have := Heap.lt_size e
    rw [hDg] at this
    exact absurd this (Nat.lt_irrefl _)
  have Dfs : D ∉ frs X.stack := fun z => by
    rcases List.mem_cons.mp (I2.stkSub D z) with e | e
    · have := I2.lt
      rw [<- e, hDg] at this
      exact absurd this (Nat.lt_irrefl _)
    · exact I2.nofs (by rw [hDg]; exact Nat.le_refl _) e
  have DcY : ∀ x c, (cO X.env scope.names []).lookup x = some c -> c ≠ D := fun x c e => by
    rcases gx (PySem.mem_of_lookup e) with h | h
    · cases h
    · exact (I2.fpOk (H' := H2) (b := D) (by rw [hDg]; exact Nat.le_refl _) nD).2.2.2.2.1 x c h
  -- the block's context
  have Yok : ∀ s4 : Shared, s4 = { s2 with heap := h1, toks := s2.toks + ([] : List (Str × Value)).length } -> Inv (aI X scope (tg ++ cs) C fp s2 H2) [] (capt tg.length ix σ) H2 s4 := by
    rintro s4 rfl
    exact oJ S I2 f2 fo (by rw [hDg]; exact hCle) old (by simpa using hns1) rfl I2.bare nC
  -- the loop
  have loop : ∀ s4 : Shared, s4 = { s2 with heap := h1, toks := s2.toks + ([] : List (Str × Value)).length } ->
      codeAny (model X.prog X.w) X.A (.compLoop (.ListComp elt [⟨target, iter, ifs, 0⟩] scope pos) 0 (.ref it) (.ref D) (compEnvC scope (cO X.env scope.names []) C X.env)) (compPost (model X.prog X.w) X.A X.xe use Qc (.ref D) C) s4 := by
    intro s4 e4
    refine codeAny_loop rfl (fun n s' => ∃ i ys its k H', Inv (aI X scope (tg ++ cs) C fp s2 H2) [] (capt tg.length ix σ) H' s' /\ tn i s'.heap /\ (∀ b ∈ fp, H' b = none) /\ H' D = none /\ s'.heap.get? D = some { cls := .type "list", data := .seq (its : List Value).toArray k } /\ Vals ys its /\ W i n ys H')
      ?_ m0 ⟨0, [], [], 0, H2, Yok s4 e4, ?_, fun b hb => (f2 b hb).1, nD, by rw [e4]; exact hD0, .nil, w0⟩
    · rintro n s5 ⟨i, ys, its, k, H5, I5, st5, fr5, d5, o5, v5, w5⟩
      show wpAny _ X.A ((compTurn (.ListComp elt [⟨target, iter, ifs, 0⟩] scope pos) 0 (.ref it) (.ref D) (compEnvC scope (cO X.env scope.names []) C X.env)).onRaise (fun x => do noteFrame x (compEnvC scope (cO X.env scope.names []) C X.env); theTreesLotGoes x)) _ _ s5
      refine wpAny_noted ?_
      rw [compTurn_list]
      have pin0 : Inv (aI X scope (tg ++ cs) C fp s2 H2) [(D, { cls := .type "list", data := .seq its.toArray k })] (capt tg.length ix σ) H5 s5 := I5.pins_of fun p hp => by
        have e : p = (D, { cls := .type "list", data := .seq its.toArray k }) := by simpa using hp
        subst e
        exact ⟨o5, d5, hDC, Dfs, fun v z => by have z' : Data.seq _ _ = Data.cell v := z; cases z'⟩
      have fpY : ∀ {H' : Hp}, (∀ b ∈ fp, H' b = none) -> ∀ b ∈ fp, gn (aI X scope (tg ++ cs) C fp s2 H2) [(D, { cls := .type "list", data := .seq its.toArray k })] H' b := fun hn b hb =>
        ⟨hn b hb, (I5.ok.exf b hb).1, fun z => I5.ok.exfs b hb z, .inl hb, (I5.ok.exf b hb).2, fun p hp z => by
          have hp : p ∈ ([] : List (Addr × Obj)) ++ [(D, { cls := .type "list", data := .seq its.toArray k })] := hp
          have e : p = (D, { cls := .type "list", data := .seq its.toArray k }) := by simpa using hp
          subst e
          have z : D = b := z
          exact Dfp (z ▸ hb)⟩
      refine wpAny_bind (wpAny_standAt (wpAny_bind ?_))
      rcases turn i n ys H5 w5 with ⟨stop, hz, qn⟩ | ⟨go, hz, Nx, hN, step⟩
      · refine thn (T.done (aI X scope (tg ++ cs) C fp s2 H2) rfl rfl rfl hcalm i _ s5 _ H5 _ pin0 (fpY fr5) st5 stop) fun r s6 zr1 => ?_
        obtain ⟨hr, I6⟩ := zr1
        subst hr
        refine wpAny_pure ?_
        obtain ⟨mC, hnsC, _⟩ := id I6.loc
        have IX : Inv X pins σ H5 s6 := I2.call' (ch := fp) I6.os I6.base I6.hok I6.bare fun b hb => let ⟨_, a1, _, a3, a4, a5⟩ := f2 b hb; ⟨a3, a1, a4, a5⟩
        obtain ⟨_, b1, _, b3, b4, b5⟩ := I2.fpOk (H' := H5) (b := D) (by rw [hDg]; exact Nat.le_refl _) d5
        obtain ⟨_, c1, c2, c3, c4, c5⟩ := I2.fpOk (H' := H5) (b := C) (by rw [hDg]; exact hCle) I6.free
        have gD : s6.heap.get? D = some { cls := .type "list", data := .seq its.toArray k } := (I6.pin (D, { cls := .type "list", data := .seq its.toArray k }) (List.mem_append_right _ List.mem_cons_self)).1
        have IXD : Inv X pins σ (upd H5 D (.lst ys)) s6 := IX.track d5 (by rw [<- hDg]; exact I2.sz) b1 b4 b5 ⟨hz, its, k, v5, gD⟩
        exact fin D C _ s6 _ IXD (qn D d5) ⟨by rw [ao (Ne.symm hDC)]; exact I6.free, c1, c2, c3, c4, c5⟩ ⟨mC, hnsC⟩
      · refine thn (T.item (aI X scope (tg ++ cs) C fp s2 H2) rfl rfl rfl hcalm i _ s5 _ H5 _ pin0 (fpY fr5) st5 go) fun r s6 zr1 => ?_
        obtain ⟨u, hr, h6⟩ := zr1
        subst hr
        refine wpAny_bind (thn h6 fun _ s7 zr1 => ?_)
        obtain ⟨x, H7, I7, r7, y7, st7, fr7⟩ := zr1
        have I7' := I7.pinned (fpY fr7) (T.obj _ _ st7)
        -- the next turn
        have again : ∀ {σ2 : St} {H8 : Hp} {s8 : Shared} {ys' : List V} {its' : List Value} {k' : Nat} , Inv (aI X scope (tg ++ cs) C fp s2 H2) [] σ2 H8 s8 -> (σ2.length = (capt tg.length ix σ).length /\ ∀ (i : Nat) (v : V), (capt tg.length ix σ)[i]? = some (some v) -> σ2[i]? = some (some v)) ->
            (∀ b ∈ fp, ∀ o, s7.heap.get? b = some o -> s8.heap.get? b = some o) -> (∀ b ∈ fp, H8 b = none) -> H8 D = none -> s8.heap.get? D = some { cls := .type "list", data := .seq its'.toArray k' } -> Vals ys' its' -> Nx ys' H8 ->
            ∃ m, m < n /\ ∃ i ys its k H', Inv (aI X scope (tg ++ cs) C fp s2 H2) [] (capt tg.length ix σ) H' s8 /\ tn i s8.heap /\ (∀ b ∈ fp, H' b = none) /\ H' D = none /\ s8.heap.get? D = some { cls := .type "list", data := .seq (its : List Value).toArray k } /\ Vals ys its /\ W i m ys H' := by
          intro σ2 H8 s8 ys' its' k' I8 kp fk fn dn dg vv nx
          obtain ⟨m', hm, w8⟩ := hN ys' H8 nx
          exact ⟨m', hm, i + 1, ys', its', k', H8, I8.weak kp.1.symm kp.2, T.keep _ _ _ st7 fk, fn, dn, dg, vv, w8⟩
        refine wpAny_bind (wpAny_mono (hg C fp s2 H2 _ s7 _ H7 x u _ I7' r7 (kg x σ H7 _ (step x H7 y7))) (fun _ s8 zr1 => ?_) fun _ _ z => z.elim)
        obtain ⟨σ8, H8, I8, kp8, q8⟩ := zr1
        refine wpAny_bind (wpAny_mono (hc C fp s2 H2 _ s8 σ8 H8 _ I8 q8) (fun ok s9 zr1 => ?_) fun _ _ z => z.elim)
        obtain ⟨H9, I9, q9⟩ := zr1
        have pinsOf : ∀ {σ' : St} {H' : Hp} {s' : Shared}, Inv (aI X scope (tg ++ cs) C fp s2 H2) ([(D, { cls := .type "list", data := .seq its.toArray k })] ++ gp fp s7.heap) σ' H' s' ->
            (∀ b ∈ fp, ∀ o, s7.heap.get? b = some o -> s'.heap.get? b = some o) /\ (∀ b ∈ fp, H' b = none) /\ H' D = none /\ s'.heap.get? D = some { cls := .type "list", data := .seq its.toArray k } := by
          intro σ' H' s' I'
          refine ⟨fun b hb o e => (I'.pin (b, o) (List.mem_append_right _ (List.mem_append_right _ (cK hb e)))).1, fun b hb => ?_, (I'.pin (D, { cls := .type "list", data := .seq its.toArray k }) (List.mem_append_right _ (List.mem_append_left _ List.mem_cons_self))).2.1, (I'.pin (D, { cls := .type "list", data := .seq its.toArray k }) (List.mem_append_right _ (List.mem_append_left _ List.mem_cons_self))).1⟩
          obtain ⟨o, e, d⟩ := T.obj _ _ st7 b hb
          exact (I'.pin (b, o) (List.mem_append_right _ (List.mem_append_right _ (cK hb e)))).2.1
        cases ok with
        | false =>
          obtain ⟨p1, p2, p3, p4⟩ := pinsOf I9
          exact wpAny_pure ⟨rfl, again (I9.pins_of fun p hp => nomatch hp) kp8 p1 p2 p3 p4 v5 q9⟩
        | true =>
          have q9 : te σ8 H9 fun v H6 => Nx (ys ++ [v]) H6 := q9
          refine wpAny_bind (wpAny_bind (wpAny_mono (he C fp s2 H2 _ s9 σ8 H9 _ I9 q9) (fun y s10 zr1 => ?_) fun _ _ z => z.elim))
          obtain ⟨v, H10, I10, rv, nx⟩ := zr1
          obtain ⟨p1, p2, p3, p4⟩ := pinsOf I10
          have hl5 := v5.length
          refine wpAny_bind (call_meets F.slot_list_append ⟨_, p4, rfl⟩ F.entry_list_append (F.args_list_append_2 _ _) (PySem.list_append D its.toArray k y (by rw [List.size_toArray]; lia)) ⟨p4, ?_⟩)
          have g10 := PySem.IsL.update p4 (·.push y)
          rw [show its.toArray.push y = (its ++ [y]).toArray by simp] at g10
          have I11 : Inv (aI X scope (tg ++ cs) C fp s2 H2) [] σ8 H10 s10 := I10.pins_of fun p hp => nomatch hp
          have I12 : Inv (aI X scope (tg ++ cs) C fp s2 H2) [] σ8 H10 { s10 with heap := s10.heap.update D (Obj.mapSeq (·.push y)) } :=
            I11.turned (t' := s10.toks) (fun b o hb e => (Heap.get?_update_other s10.heap (Obj.mapSeq (·.push y)) (Ne.symm hb)).trans e) p3 hDC (.inr (by show s2.heap.objs.size <= D; rw [hDg]; exact Nat.le_refl _)) DcY (fun p hp => nomatch hp)
          refine wpAny_pure (wpAny_pure ⟨rfl, again (its' := its ++ [y]) I12 kp8 (fun b hb o e => ?_) p2 p3 g10 (v5.append (.cons rv .nil)) nx⟩)
          exact (Heap.get?_update_other s10.heap (Obj.mapSeq (·.push y)) (fun z : D = b => Dfp (z ▸ hb))).trans (p1 b hb o e)
    · rw [e4]; exact T.keep _ _ _ st2 fun b _ o e => old b o e
  exact codeAny_compStart_list (loop _ rfl) (T.self _ 0 _ _ _ (T.keep _ _ _ st2 fun b _ o e => old b o e) (loop _ rfl))
theorem sF {elt target iter : Expr} {ifs : List Expr} {scope : Scope} {pos : Pos} {tg cs : List Str} {wi : TI} {g : TG} {tc : TT} {te : TE} (S : bD X scope tg cs ix) (hcalm : X.calm = true) (kg : d0 tg.length ix g)
  (hi : PI X target iter wi) (hg : ∀ C fp s H, PG (aI X scope (tg ++ cs) C fp s H) target g) (hc : ∀ C fp s H, PTs (aI X scope (tg ++ cs) C fp s H) ifs tc) (he : ∀ C fp s H, PE (aI X scope (tg ++ cs) C fp s H) elt te)
  (hs : ∀ x, foldedSetIterable iter X.env x = pure x := by intro _; rfl) : PE X (.ListComp elt [⟨target, iter, ifs, 0⟩] scope pos) (jN wi tg.length ix g tc te) := by
 intro pins s σ H Q I h
 rw [eval_ListComp]
 refine iG S hcalm kg hi hg hc he hs I h fun D C H' s' v I' q fp z => ?_
 obtain ⟨f0, c1, _, c3, c4, c5⟩ := fp
 obtain ⟨m, hm⟩ := z
 exact ⟨m, hm, fun h' sb => ⟨.ref D, H', I'.turned (t' := s'.toks) (fun b o hb e => (sb.2 b hb).trans e) f0 c1 c3 c4 c5, rfl, q⟩⟩
end
end L2
end
section
namespace L2
open PySem PySem.Spec PyProof.Rows
theorem lex_irrefl : ∀ a : List Int, HT.lexLt a a = false
 | [] => rfl
 | x :: r => by rw [HT.bT, if_pos rfl]; exact lex_irrefl r
theorem lex_trans : ∀ a b c : List Int, HT.lexLt a b = true -> HT.lexLt b c = true -> HT.lexLt a c = true
 | [], _, [], h1, h2 => by
  rename_i b
  cases b with
  | nil => exact h1
  | cons y r => cases h2
 | [], _, _ :: _, _, _ => rfl
 | x :: r, [], _, h1, _ => by cases h1
 | x :: r, y :: t, [], _, h2 => by cases h2
 | x :: r, y :: t, z :: u, h1, h2 => by
  rw [HT.bT] at *
  by_cases e1 : x = y
  ·rw [if_pos e1] at h1
   by_cases e2 : y = z
   ·rw [if_pos e2] at h2
    rw [if_pos (e1.trans e2)]
    exact lex_trans r t u h1 h2
   ·rw [if_neg e2] at h2
    rw [if_neg (by lia)]
    rw [e1]; exact h2
  ·rw [if_neg e1] at h1
   have h1 := of_decide_eq_true h1
   by_cases e2 : y = z
   ·rw [if_neg (by lia)]
    exact decide_eq_true (by lia)
   ·rw [if_neg e2] at h2
    have h2 := of_decide_eq_true h2
    rw [if_neg (by lia)]
    exact decide_eq_true (by lia)
theorem dI : ∀ a b : List Int, HT.lexLt a b = false -> HT.lexLt b a = false -> a = b
 | [], [], _, _ => rfl
 | [], _ :: _, h, _ => by cases h
 | _ :: _, [], _, h => by cases h
 | x :: r, y :: t, h1, h2 => by
  rw [HT.bT] at *
  by_cases e : x = y
  ·rw [if_pos e] at h1
   rw [if_pos e.symm] at h2
   rw [e, dI r t h1 h2]
  ·rw [if_neg e] at h1
   rw [if_neg (Ne.symm e)] at h2
   have h1 := of_decide_eq_false h1
   have h2 := of_decide_eq_false h2
   lia
theorem eI : ∀ a b c : List Int, HT.lexLt a c = true -> HT.lexLt a b = true \/ HT.lexLt b c = true := fun a b c h => by
 cases h1 : HT.lexLt a b with
 | true => exact .inl rfl
 | false =>
  right
  cases h2 : HT.lexLt b a with
  | true => exact lex_trans b a c h2 h
  | false => rw [<- dI a b h1 h2]; exact h
def lexOrd : KeyOrd := ⟨List Int, HT.lexLt, lex_irrefl, lex_trans, eI, dI⟩
def lexLe (a b : List Int) : Bool := !HT.lexLt b a
theorem jO (a b c : List Int) (h1 : lexLe a b = true) (h2 : lexLe b c = true) : lexLe a c = true := by
 unfold lexLe at *
 cases h : HT.lexLt c a with
 | false => rfl
 | true =>
  rcases eI c b a h with z | z
  ·rw [z] at h2; cases h2
  ·rw [z] at h1; cases h1
theorem jP (a b : List Int) : (lexLe a b || lexLe b a) = true := by
 unfold lexLe
 cases h : HT.lexLt b a with
 | false => rfl
 | true =>
  cases h' : HT.lexLt a b with
  | false => rfl
  | true => have := lex_trans a b a h' h; rw [lex_irrefl] at this; cases this
theorem gz (a b : List Int) (h1 : lexLe a b = true) (h2 : lexLe b a = true) : a = b := by
 unfold lexLe at *
 exact dI a b (by simpa using h2) (by simpa using h1)
def srt (l : List (List Int)) : List (List Int) := l.mergeSort lexLe
theorem dj (l : List (List Int)) : (srt l).Perm l := List.mergeSort_perm l lexLe
theorem d7 (l : List (List Int)) : (srt l).Pairwise (fun a b => lexLe a b = true) := List.pairwise_mergeSort (le := lexLe) jO jP l
theorem dW : ∀ {a b : List (List Int)}, a.Perm b -> a.Pairwise (fun a b => lexLe a b = true) -> b.Pairwise (fun a b => lexLe a b = true) -> a = b
 | [], b, p, _, _ => (List.perm_nil.mp p.symm).symm
 | x :: r, [], p, _, _ => by have := p.length_eq; simp at this
 | x :: r, y :: t, p, ha, hb => by
  rw [List.pairwise_cons] at ha hb
  have e : x = y := by
   have hx : x ∈ y :: t := p.mem_iff.mp List.mem_cons_self
   have hy : y ∈ x :: r := p.mem_iff.mpr List.mem_cons_self
   rcases List.mem_cons.mp hx with h | h
   ·exact h
   ·rcases List.mem_cons.mp hy with h' | h'
    ·exact h'.symm
    ·exact gz x y (ha.1 y h') (hb.1 x h)
  subst e
  rw [dW (List.Perm.cons_inv p) ha.2 hb.2]
theorem kN {a l : List (List Int)} (p : a.Perm l) (h : a.Pairwise (fun a b => lexLe a b = true)) : a = srt l := dW (p.trans (dj l).symm) h (d7 l)
section
variable {X : Cx} {pins : List (Addr × Obj)} {σ : St} {H : Hp} {s : Shared}
theorem Inv.kept_led {h' : Heap} {m : Str -> Option Value} (I : Inv X pins σ H s) (F' : Fr X.base X.env.locals h' m) (N' : News X.base X.env.locals h' (bG X.base s.heap X.env.locals)) : ∀ b o, b ≠ X.env.locals -> s.heap.get? b = some o -> h'.get? b = some o := fun b o hb e => by
 cases q : X.base.get? b with
 | some u =>
  have := I.bk b u q
  rw [e] at this; cases this
  exact F'.keep b _ q
 | none => exact (N' (b, o) (cZ hb q e)).1
theorem Inv.led {h' : Heap} {m : Str -> Option Value} {t' : Nat} (I : Inv X pins σ H s) (hm : s.heap.Ns X.env.locals m) (F' : Fr X.base X.env.locals h' m) (N' : News X.base X.env.locals h' (bG X.base s.heap X.env.locals)) :
  Inv X pins σ H { s with heap := h', toks := t' } := by
 have k := I.kept_led F' N'
 refine I.step (g' := s.gens) (d' := s.drawn) (ch := []) (fun _ z => nomatch z) (fun b o hb _ _ e _ => k b o hb e) (fun b o hb _ _ e _ => ⟨o.slots, k b o hb e⟩) (fun _ _ _ _ n => n) (fun b o _ e => ?_) (fun _ _ e => e) (fun _ _ _ e => e) (fun b ps e => ⟨#[], by rw [e]; simp⟩) (fun m' hm' => ?_) (fun b u e => ?_) I.bare
 ·by_cases hb : b = X.env.locals
  ·obtain ⟨o', _, _, ho, _⟩ := F'.ns
   exact ⟨o', by rw [hb]; exact ho⟩
  ·exact ⟨o, k b o hb e⟩
 ·have em : m' = m := by
   obtain ⟨o, es, ep, ho, hd, _, hf⟩ := hm
   obtain ⟨o2, es2, ep2, ho2, hd2, _, hf2⟩ := hm'
   rw [ho] at ho2; cases ho2
   rw [hd] at hd2; cases hd2
   funext x
   rw [<- hf x, <- hf2 x]
  rw [em]; exact F'.ns
 ·refine (I.hok b u e).stay (fun c v hc q => k c v ?_ q) (fun _ q => q) fun _ _ q => q
  rcases hc with z | z
  ·rw [z]; exact au e I.free
  ·exact au z I.free
end
section
variable {prog : Program} {w : World} {A : Around} {E : Value -> Shared -> Prop} {s : Shared}
theorem oM {a : Addr} {vs : List Value} {n : Nat} {R : PySem.Fin -> Shared -> Prop} (ho : s.heap.get? a = some (seqObj "list" vs.toArray n)) (hf : vs.length < 2)
  (h : R (.done (.ret .none)) { s with heap := sortedHeap s.heap a vs vs.toArray }) : wpAny (model prog w) A (Builtin.«list.sort» ⟨[.ref a], []⟩) R E s := by
 have hlt : a < s.heap.objs.size := Heap.lt_size ho
 have few : vs.toArray.size < 2 := by rw [List.size_toArray]; exact hf
 have hz : vs.length <= sizeLine := by rw [sizeLine_eq]; lia
 obtain ⟨e, he⟩ : ∃ e, (s.heap.update a (Obj.mapSeq fun _ => #[])).get? a = some (seqObj "list" #[] e) := ⟨_, get?_update_seq ho (fun _ => #[])⟩
 rw [list_sort_plain]
 refine wpAny_bind (listItems_at ho rfl (wpAny_bind (listUpdate_at ho rfl (wpAny_bind (seqEpoch_at he rfl (wpAny_bind (wpAny_newTuple (wpAny_bind (wpAny_newList (wpAny_holding ?_))) (hsz := hz))))) (by rw [List.size_toArray]; lia))))
 have he2 : (((s.heap.update a (Obj.mapSeq fun _ => #[])).push (seqObj "tuple" vs.toArray 0)).push (seqObj "list" #[] 0)).get? a = some (seqObj "list" #[] e) := Heap.get?_push_of_some _ (Heap.get?_push_of_some _ he)
 dsimp only
 rw [if_pos few, if_pos few]
 refine wpAny_bind (wpAny_pure ?_); rw [StateT.run_pure]; refine wpAny_bind (wpAny_pure ?_); dsimp only
 have em : Array.map (fun x : Value × Value => x.2) (arrOf (SortSt.mk' general' (vs.toArray.zip vs.toArray) #[] 7 none)) = vs.toArray := by
  show Array.map (fun x : Value × Value => x.2) (vs.toArray.zip vs.toArray) = vs.toArray
  apply Array.ext <;> simp
 refine wpAny_bind (seqEpoch_at he2 rfl (wpAny_bind (listUpdate_at he2 rfl ?_ (hsz2 := by rw [em, List.size_toArray]; lia))))
 rw [em]
 simp only [bne_self_eq_false, Bool.false_eq_true, if_false]
 exact wpAny_pure h
theorem kO {l : Addr} {vs : List Value} {Q : Value -> Shared -> Prop} (hl : s.heap.IsList l vs.toArray) (hf : vs.length < 2) (h : Q (.ref (s.heap.objs.size + 1)) { s with heap := sortedAll s.heap vs vs.toArray }) : wpAny (model prog w) A (call (.builtin "sorted") [.ref l]) Q E s := by
 have hz : vs.length <= sizeLine := by rw [sizeLine_eq]; lia
 have z1 : ((s.heap.push (seqObj "list" #[] 0)).update s.heap.objs.size (Obj.mapSeq (· ++ vs.toArray))).objs.size = s.heap.objs.size + 1 := by rw [Heap.size_update, size_push']
 have z2 : (((s.heap.push (seqObj "list" #[] 0)).update s.heap.objs.size (Obj.mapSeq (· ++ vs.toArray))).push (seqObj "list" vs.toArray 0)).get? (s.heap.objs.size + 1) = some (seqObj "list" vs.toArray 0) := z1 ▸ Heap.get?_push_size _ rfl
 have col := fun R r => collect_list (prog := prog) (w := w) (A := A.in1) (E := E) (Q := R) hl r hz
 refine Calls.call_function_entry kind_sorted plain_sorted entry_sorted (args_sorted1 _) (wpAny_bind (m := checkCount "sorted" 1 1 _) (wpAny_pure (wpAny_bind (m := collect (.ref l)) (col _ (wpAny_bind (wpAny_newList ?_ (hsz := hz)))))))
 dsimp only
 rw [z1]
 refine wpAny_bind (wpAny_holding (wpAny_call_entry slot_list_sort ⟨_, z2, rfl⟩ entry_list_sort (oM z2 hf ⟨_, rfl, wpAny_pure ⟨_, rfl, h⟩⟩) (args_list_sort _)))
end
section
variable {X : Cx} {pins : List (Addr × Obj)} {σ : St} {H : Hp} {s : Shared}
theorem Inv.trackN {D : Addr} {o : HO} (I : Inv X pins σ H s) (hn : H D = none) (hs : X.s₀.heap.get? D = none) (hL : D ≠ X.env.locals) (hc : ∀ x c, X.env.cells.lookup x = some c -> c ≠ D) (hp : ∀ p ∈ X.pn ++ pins, p.1 ≠ D)
  (new : ObjOk X.prog X.w (upd H D o) s.heap D o) : Inv X pins σ (upd H D o) s := by
 have nb : ∀ b ob, X.s₀.heap.get? b = some ob -> b ≠ D := fun b ob e z => by subst z; rw [hs] at e; cases e
 have nt : ∀ b u, H b = some u -> b ≠ D := fun b u e => au e hn
 refine ⟨I.ok, I.os, I.bare, ⟨I.base.keep, I.base.slot, fun b ob e n hx => by rw [ao (nb b ob e)]; exact I.base.free b ob e n hx, I.base.there, fun b xs e => ?_, fun b ob u e => ?_, fun b ps e => ?_⟩, I.loc, I.cell, by rw [ao hL.symm]; exact I.free, fun x c e => by rw [ao (hc x c e)]; exact I.freeC x c e, fun p hpp => ?_, fun b u e => ?_, I.len⟩
 ·have q := I.base.tups b xs e
  rw [ao (nt b _ q)]; exact q
 ·have q := I.base.frzs b ob u e
  rw [ao (nt b _ q)]; exact q
 ·obtain ⟨more, q⟩ := I.base.tbls b ps e
  exact ⟨more, by rw [ao (nt b _ q)]; exact q⟩
 ·obtain ⟨a, b, c, d, e⟩ := I.pin p hpp
  exact ⟨a, by rw [ao (hp p hpp)]; exact b, c, d, e⟩
 ·by_cases hb : b = D
  ·subst hb; rw [aq] at e; cases e; exact new
  ·rw [ao hb] at e
   exact (I.hok b u e).stay (fun _ _ _ q => q) (fun c q => by rw [ao (nt c _ q)]; exact q) fun c xs q => by rw [ao (nt c _ q)]; exact q
theorem sG {prog : Program} {w : World} {A : Around} {Q : Bool -> Shared -> Prop} : ∀ (ns ms : List Int) {us vs : List Value} (i : Nat) {fin : Bool}, Vals (ns.map V.int) us -> Vals (ms.map V.int) vs -> fin = decide (us.length < vs.length) -> Q (HT.lexLt ns ms) s ->
  PySem.W.KatLex prog w A true fin Q (us.zip vs) i s := by
 intro ns
 induction ns with
 | nil =>
  intro ms us vs i fin r r' hf h
  have r : Vals [] us := r
  cases r
  cases ms with
  | nil =>
   have r' : Vals [] vs := r'
   cases r'
   subst hf
   exact h
  | cons m ms =>
   have r' : Vals (V.int m :: ms.map V.int) vs := r'
   cases r' with
   | cons a b =>
    subst hf
    exact h
 | cons n ns ih =>
  intro ms us vs i fin r r' hf h
  have r : Vals (V.int n :: ns.map V.int) us := r
  cases r with
  | cons q1 t =>
   cases ms with
   | nil =>
    have r' : Vals [] vs := r'
    cases r'
    subst hf
    exact h
   | cons m ms =>
    have r' : Vals (V.int m :: ms.map V.int) vs := r'
    cases r' with
    | cons q2 t' =>
     obtain ⟨tk, rfl⟩ := q1
     obtain ⟨tk', rfl⟩ := q2
     rw [HT.bT] at h
     rw [List.zip_cons_cons]
     refine PySem.W.kat_cons (SeqAt.EqAt.int_int n tk m tk' prog w _ _ ?_)
     by_cases e : n = m
     ·rw [if_pos e] at h
      rw [show (n == m) = true by simpa using e]
      refine PySem.W.kat_yes (ih ms (i + 1) t t' ?_ h)
      rw [hf]
      simp
     ·rw [if_neg e] at h
      rw [show (n == m) = false by simpa using e]
      refine PySem.W.kat_no ?_
      by_cases hi : i = 0
      ·subst hi
       exact oneLt_int h
      ·rw [show (true && i == 0) = false by simp [hi]]
       exact PySem.W.kat_one _ _ (lt_int (show PySem.W.BoolBack _ (Value.bool _) _ from h))
theorem oN {h : Heap} {p : Addr} {its : List Value} (hne : ms ≠ []) (r : Vals (ms.map V.int) its) (ht : IsTup h p its.toArray) : ∃ (f : Value) (o : Obj) (n : Nat), (∃ i t, f = Value.int i t) /\ h.get? p = some o /\ o.cls = .type "tuple" /\ o.data = .seq its.toArray n /\ its.toArray[0]? = some f := by
 obtain ⟨o, ho, hc, n, hd⟩ := ht
 cases ms with
 | nil => exact absurd rfl hne
 | cons m ms =>
  have r : Vals (V.int m :: ms.map V.int) its := r
  cases r with
  | cons r1 r2 =>
   obtain ⟨t, rfl⟩ := r1
   exact ⟨_, o, n, ⟨m, t, rfl⟩, ho, hc, hd, by simp⟩
theorem kP {h : Heap} (hT : ∀ a xs, SqT X.K H a xs -> ∃ its : List Value, Vals xs its /\ IsTup h a its.toArray) {ps : List Addr} (ht : Tups X.K H ps mss) : (∀ ms ∈ mss, ms ≠ []) ->
  ∃ fs : List Value, PySem.W.KatTups h (ps.map Value.ref) fs /\ fs.length = ps.length /\ ∀ v ∈ fs, ∃ i t, v = Value.int i t := by
 unfold Tups at ht
 induction ht with
 | nil => exact fun _ => ⟨[], trivial, rfl, (fun _ h => nomatch h)⟩
 | cons hp t ih =>
  intro hne
  obtain ⟨fs, h1, h2, h3⟩ := ih fun m hm => hne m (List.mem_cons_of_mem _ hm)
  obtain ⟨its, r, tt⟩ := hT _ _ hp
  obtain ⟨f, o, n, hi, ho, hc, hd, h0⟩ := oN (hne _ List.mem_cons_self) r tt
  refine ⟨f :: fs, PySem.W.KatTups.cons ho hc hd h0 h1, by simp [h2], fun v hv => ?_⟩
  rcases List.mem_cons.mp hv with rfl | hv
  ·exact hi
  ·exact h3 v hv
theorem fx : ∀ {ps : List Addr} {us : List Value}, Vals (ps.map V.ref) us -> us = ps.map Value.ref
 | [], _, .nil => rfl
 | p :: ps, _, .cons r t => by
  rw [fx t]
  cases r
  rfl
theorem iH : ∀ (ps : List Addr), Vals (ps.map V.ref) (ps.map Value.ref)
 | [] => .nil
 | p :: ps => .cons rfl (iH ps)
end
end L2
end
section
namespace L2
open PySem PySem.Spec PyProof.Rows
theorem ObjOk.there {P : Program} {w : World} {h : Heap} {a : Addr} {o : HO} (x : ObjOk P w H h a o) : ∃ ob, h.get? a = some ob := by
 cases o with
 | lst xs => obtain ⟨_, _, _, _, e⟩ := x; exact ⟨_, e⟩
 | tup xs => obtain ⟨_, _, _, ob, e, _⟩ := x; exact ⟨_, e⟩
 | dK kvs => obtain ⟨_, _, _, _, o, _, _, e, _⟩ := x; exact ⟨_, e⟩
 | dT kvs => obtain ⟨_, _, _, _, o, _, _, e, _⟩ := x; exact ⟨_, e⟩
 | set S n => obtain ⟨o, _, _, _, e, _⟩ := x; exact ⟨_, e⟩
 | ins C dx fs => obtain ⟨_, _, _, e, _⟩ := x; exact ⟨_, e⟩
 | own y => exact x
 | xd fs => obtain ⟨_, ⟨_, _, _, e, _⟩, _⟩ := x; exact ⟨_, e⟩
 | rng lo hi => obtain ⟨_, _, _, e⟩ := x; exact ⟨_, e⟩
 | frz ob u => obtain ⟨e, _⟩ := x; exact ⟨_, e⟩
 | tbl ps => obtain ⟨_, e, _⟩ := x; exact ⟨_, e⟩
 | met f y => exact ⟨_, x⟩
 | ext φ => exact x.2.1
end L2
end
section
namespace L2
open PySem PySem.Spec PyProof.Rows
def kQ (scope osc : Scope) (N tg cs : List Str) (ix : List Nat) : Prop :=
 (∀ y ∈ scope.names, y.2 ≠ .cell) /\ (∀ y ∈ scope.names, y.2 = .local -> scope.names.lookup y.1 = some .local) /\ (tg ++ cs).Nodup /\ ix.map (fun i => N[i]?) = cs.map some /\
 (∀ x ∈ cs, (x, NameKind.free) ∈ scope.names /\ scope.names.lookup x = some .free) /\ ∀ y ∈ scope.names, y.2 = .free -> osc.names.lookup y.1 = some .cell \/ osc.names.lookup y.1 = some .free
instance (scope osc : Scope) (N tg cs : List Str) (ix : List Nat) : Decidable (kQ scope osc N tg cs ix) := by unfold kQ; infer_instance
theorem bg {X : Cx} {scope : Scope} {tg cs : List Str} (osc : Scope) (N : List Str) (h : kQ scope osc N tg cs ix) (hk : scope.kind = .function := by rfl) (ho : X.env.scope = osc := by rfl) (hN : X.N = N := by rfl) : bD X scope tg cs ix := by
 obtain ⟨h1, h2, h3, h4, h5, h6⟩ := h
 exact ⟨hk, h1, h2, h3, by rw [hN]; exact h4, h5, fun x hx => by rw [ho]; exact h6 (x, .free) hx rfl⟩
end L2
end
section
namespace L2
open PySem PySem.Spec PyProof.Rows
section
variable {X : Cx} {pins : List (Addr × Obj)} {σ : St} {H H1 : Hp} {s : Shared}
theorem oO {elt target iter : Expr} {ifs : List Expr} {scope : Scope} {pos spos py : Pos} {yy : Str} {ii : Nat} {tg cs : List Str} {wi : TI} {g : TG} {tc : TT} {te : TE} (hN0 : X.N.Nodup) (hi0 : X.N[ii]? = some yy) (hx0 : Loc X.env.scope yy)
  (S : bD X scope tg cs ix) (hcalm : X.calm = true) (kg : d0 tg.length ix g)
  (hi : PI X target iter wi) (hg : ∀ C fp s H, PG (aI X scope (tg ++ cs) C fp s H) target g) (hc : ∀ C fp s H, PTs (aI X scope (tg ++ cs) C fp s H) ifs tc) (he : ∀ C fp s H, PE (aI X scope (tg ++ cs) C fp s H) elt te)
  (hf0 : X.fn yy = true \/ X.env.scope.names.lookup yy = some .local)
  (hsw : swapsWith (.ListComp elt [⟨target, iter, ifs, 0⟩] scope pos) (some (.Name yy py)) spos.line X.env = pure true)
  (hs : ∀ x, foldedSetIterable iter X.env x = pure x := by intro _; rfl) : PS X (.Assign [.Name yy py] (.ListComp elt [⟨target, iter, ifs, 0⟩] scope pos) spos) (dQ (jN wi tg.length ix g tc te) (bC ii)) := by
 intro pins s σ H Dn I h
 rw [exec_Assign_Name_used _ _ _ _ hsw]
 refine wpAny_bind (wpAny_standAt (wpAny_bind ?_))
 show wpAny _ X.A (do let _ <- comprehension (.ListComp elt [⟨target, iter, ifs, 0⟩] scope pos) scope X.env _ (newList []) false (eval iter X.env) (some (assign (.Name yy py) X.env))) _ _ s
 refine wpAny_bind (wpAny_mono (iG (use := some (assign (.Name yy py) X.env)) (Qc := fun _ s' => SP X pins Dn .next s') S hcalm kg hi hg hc he hs I h fun D C H' s' v I' q fp z => ?_) (fun _ s' hq => wpAny_pure (wpAny_pure hq)) fun _ _ e => e)
 obtain ⟨f0, c1, _, c3, c4, c5⟩ := fp
 obtain ⟨m, hm⟩ := z
 show wpAny _ X.A (assign (.Name yy py) X.env (.ref D)) _ _ s'
 refine wpAny_assign_Name (iw (v := .ref D) I' hN0 hi0 hx0 rfl (fun s'' I'' zq => ?_) hf0)
 obtain ⟨a, sb, ha⟩ := zq
 have hCa : C ≠ a := by
  rcases ha with rfl | ha
  ·exact c1
  ·exact (c4 _ _ ha).symm
 exact ⟨m, hm.sameBut sb hCa, fun h' sb' => ⟨_, _, I''.turned (t' := s''.toks) (it := C) (fun b o hb e => (sb'.2 b hb).trans e) f0 c1 c3 c4 c5, q⟩⟩
end
end L2
end
section
namespace VL
open PySem L2
inductive D where
 | int (i : Int) | bl (b : Bool) | non | str (x : Str) | ty (n : String) | tup (ds : List D) | lst (ds : List D) | dic (ks : List (List Int)) (vs : List D) | exc (c : Value)
def kT (ms : List Int) : D := .tup (ms.map .int)
def IsM : Option HO -> Prop
 | some (.lst _) => True
 | some (.ext _) => True
 | _ => False
theorem IsM.ne {o : Option HO} (h : IsM o) : o ≠ none := by rintro rfl; exact h
abbrev AP := Addr -> Prop
def Any : AP := fun _ => True
abbrev FP := Option Addr -> Prop
def AnyF : FP := fun _ => True
def Fr (H0 : Hp) : FP := fun o => ∃ a, o = some a /\ H0 a = none
mutual
inductive Rep (K : PySem.W.Frag) (N : AP) (F : FP) (H : Hp) : V -> D -> Prop where
 | int (i : Int) : Rep K N F H (.int i) (.int i)
 | bl (b : Bool) : Rep K N F H (.bl b) (.bl b)
 | non : Rep K N F H .non .non
 | str (x : Str) : Rep K N F H (.str x) (.str x)
 | ty (x : String) : Rep K N F H (.ty x) (.ty x)
 | tup {a : Addr} {vs : List V} {ds : List D} (n : N a) (h : Rd H a (.tup vs)) (r : Reps K N F H vs ds) : Rep K N F H (.ref a) (.tup ds)
 | tupK {a : Addr} {vs : List V} {ds : List D} (h : SqT K (fun _ => none) a vs) (r : Reps K N F H vs ds) : Rep K N F H (.ref a) (.tup ds)
 | lst {a : Addr} {vs : List V} {ds : List D} (n : N a) (f : F (some a)) (h : H a = some (.lst vs)) (r : Reps K N F H vs ds) : Rep K N F H (.ref a) (.lst ds)
 | lstF {a : Addr} {vs : List V} {ds : List D} {o : Obj} (n : N a) (f : F none) (h : H a = some (.frz o (.lst vs))) (r : Reps K N F H vs ds) : Rep K N F H (.ref a) (.lst ds)
 | lstK {a : Addr} {vs : List V} {ds : List D} (f : F none) (h : SqL K (fun _ => none) a vs) (r : Reps K N F H vs ds) : Rep K N F H (.ref a) (.lst ds)
 | dic {a : Addr} {ob : Obj} {es : List (List Int × Addr × V)} {ks : List (List Int)} {ds : List D} (n : N a) (f : F (some a)) (h : H a = some (bK a ob es)) (e : es.map (·.1) = ks) (rk : Reps K N F H (es.map fun x => .ref x.2.1) (ks.map kT)) (r : Reps K N F H (es.map (·.2.2)) ds) : Rep K N F H (.ref a) (.dic ks ds)
 | exc {x : Addr} {c : Value} {o : Obj} (n : N x) (h : H x = some (.frz o (.own x))) (e : o.cls = c) : Rep K N F H (.ref x) (.exc c)
inductive Reps (K : PySem.W.Frag) (N : AP) (F : FP) (H : Hp) : List V -> List D -> Prop where
 | nil : Reps K N F H [] []
 | cons {v : V} {d : D} {vs : List V} {ds : List D} (h : Rep K N F H v d) (t : Reps K N F H vs ds) : Reps K N F H (v :: vs) (d :: ds)
end
section
variable {K : PySem.W.Frag} {N N' : AP} {F F' : FP} {H H' H0 : Hp}
theorem Rd.there {a : Addr} {u : HO} (h : Rd H a u) : H a ≠ none := by rcases h with h | ⟨o, h⟩ <;> simp [h]
theorem Rd.keep {a : Addr} {u : HO} (h : Rd H a u) (e : H' a = H a) : Rd H' a u := by
 rcases h with h | ⟨o, h⟩
 ·exact .inl (e.trans h)
 ·exact .inr ⟨o, e.trans h⟩
mutual
theorem Rep.mono (hN : ∀ a, N a -> H a ≠ none -> N' a /\ H' a = H a) (hF : ∀ o, F o -> F' o) {v : V} {d : D} : Rep K N F H v d -> Rep K N' F' H' v d
 | .int i => .int i
 | .bl i => .bl i
 | .non => .non
 | .str i => .str i
 | .ty i => .ty i
 | .tup n h r => .tup (hN _ n (Rd.there h)).1 (Rd.keep h (hN _ n (Rd.there h)).2) (Reps.mono hN hF r)
 | .tupK h r => .tupK h (Reps.mono hN hF r)
 | .lst n f h r => .lst (hN _ n (by simp [h])).1 (hF _ f) ((hN _ n (by simp [h])).2.trans h) (Reps.mono hN hF r)
 | .lstF n f h r => .lstF (hN _ n (by simp [h])).1 (hF _ f) ((hN _ n (by simp [h])).2.trans h) (Reps.mono hN hF r)
 | .lstK f h r => .lstK (hF _ f) h (Reps.mono hN hF r)
 | .dic n f h e rk r => .dic (hN _ n (by simp [h])).1 (hF _ f) ((hN _ n (by simp [h])).2.trans h) e (Reps.mono hN hF rk) (Reps.mono hN hF r)
 | .exc n h e => .exc (hN _ n (by simp [h])).1 ((hN _ n (by simp [h])).2.trans h) e
theorem Reps.mono (hN : ∀ a, N a -> H a ≠ none -> N' a /\ H' a = H a) (hF : ∀ o, F o -> F' o) {vs : List V} {ds : List D} : Reps K N F H vs ds -> Reps K N' F' H' vs ds
 | .nil => .nil
 | .cons h t => .cons (Rep.mono hN hF h) (Reps.mono hN hF t)
end
theorem Rep.any {d : D} (h : Rep K N F H v d) : Rep K Any AnyF H v d := h.mono (fun _ _ _ => ⟨trivial, rfl⟩) (fun _ _ => trivial)
theorem Reps.any {ds : List D} (h : Reps K N F H vs ds) : Reps K Any AnyF H vs ds := h.mono (fun _ _ _ => ⟨trivial, rfl⟩) (fun _ _ => trivial)
mutual
theorem Rep.avoid (h1 : ∀ a, ¬N' a -> IsM (H a)) (h2 : ∀ a, F (some a) -> N' a) {v : V} {d : D} : Rep K N F H v d -> Rep K N' F H v d
 | .int i => .int i
 | .bl i => .bl i
 | .non => .non
 | .str i => .str i
 | .ty i => .ty i
 | .tup (a := a) n h r => .tup (Classical.byContradiction fun z => by
   have e := h1 a z
   rcases h with h | ⟨o, h⟩ <;> rw [h] at e <;> exact e) h (Reps.avoid h1 h2 r)
 | .tupK h r => .tupK h (Reps.avoid h1 h2 r)
 | .lst n f h r => .lst (h2 _ f) f h (Reps.avoid h1 h2 r)
 | .lstF (a := a) n f h r => .lstF (Classical.byContradiction fun z => by
   have e := h1 a z
   rw [h] at e; exact e) f h (Reps.avoid h1 h2 r)
 | .lstK f h r => .lstK f h (Reps.avoid h1 h2 r)
 | .dic n f h e rk r => .dic (h2 _ f) f h e (Reps.avoid h1 h2 rk) (Reps.avoid h1 h2 r)
 | .exc (x := a) n h e => .exc (Classical.byContradiction fun z => by
   have e := h1 a z
   rw [h] at e; exact e) h e
theorem Reps.avoid (h1 : ∀ a, ¬N' a -> IsM (H a)) (h2 : ∀ a, F (some a) -> N' a) {vs : List V} {ds : List D} : Reps K N F H vs ds -> Reps K N' F H vs ds
 | .nil => .nil
 | .cons h t => .cons (Rep.avoid h1 h2 h) (Reps.avoid h1 h2 t)
end
mutual
def flat : D -> Bool
 | .lst _ => false
 | .dic _ _ => false
 | .tup ds => flats ds
 | _ => true
def flats : List D -> Bool
 | [] => true
 | d :: r => flat d && flats r
end
theorem fI : ∀ ms : List Int, flats (ms.map D.int) = true
 | [] => rfl
 | _ :: r => by simp [flats, flat, fI r]
theorem jQ : ∀ ks : List (List Int), flats (ks.map kT) = true
 | [] => rfl
 | _ :: r => by simp [flats, kT, flat, fI, jQ r]
mutual
theorem Rep.flat {v : V} {d : D} : Rep K N F H v d -> VL.flat d = true -> Rep K N F' H v d := fun hh ee => by
 cases hh with
 | int i => exact .int i
 | bl i => exact .bl i
 | non => exact .non
 | str i => exact .str i
 | ty i => exact .ty i
 | tup n h r => have e := ee; exact .tup n h (Reps.flat r (by simpa [VL.flat] using e))
 | tupK h r => have e := ee; exact .tupK h (Reps.flat r (by simpa [VL.flat] using e))
 | lst n f h r => have e := ee; simp [VL.flat] at e
 | lstF n f h r => have e := ee; simp [VL.flat] at e
 | lstK f h r => have e := ee; simp [VL.flat] at e
 | dic n f h _ _ r => have e := ee; simp [VL.flat] at e
 | exc n h e0 => exact .exc n h e0
theorem Reps.flat {vs : List V} {ds : List D} : Reps K N F H vs ds -> flats ds = true -> Reps K N F' H vs ds := fun hh ee => by
 cases hh with
 | nil => exact .nil
 | cons h t =>
  have e := ee
  simp only [flats, Bool.and_eq_true] at e
  exact .cons (Rep.flat h e.1) (Reps.flat t e.2)
end
theorem Reps.length : ∀ {vs : List V} {ds : List D}, Reps K N F H vs ds -> vs.length = ds.length
 | _, _, .nil => rfl
 | _, _, .cons _ t => by simp [Reps.length t]
theorem Reps.get : ∀ {vs : List V} {ds : List D} {i : Nat} {v : V}, Reps K N F H vs ds -> vs[i]? = some v -> ∃ d, ds[i]? = some d /\ Rep K N F H v d
 | _, _, 0, _, .cons h _, e => by simp at e; subst e; exact ⟨_, rfl, h⟩
 | _, _, i + 1, v, .cons _ t, e => by
  obtain ⟨d, h1, h2⟩ := Reps.get (i := i) (v := v) t (by simpa using e)
  exact ⟨d, by simpa using h1, h2⟩
 | _, _, _, _, .nil, e => by simp at e
theorem Reps.getD : ∀ {vs : List V} {ds : List D} {i : Nat} {d : D}, Reps K N F H vs ds -> ds[i]? = some d -> ∃ v, vs[i]? = some v /\ Rep K N F H v d
 | _, _, 0, _, .cons h _, e => by simp at e; subst e; exact ⟨_, rfl, h⟩
 | _, _, i + 1, v, .cons _ t, e => by
  obtain ⟨d, h1, h2⟩ := Reps.getD (i := i) (d := v) t (by simpa using e)
  exact ⟨d, by simpa using h1, h2⟩
 | _, _, _, _, .nil, e => by simp at e
theorem Reps.append : ∀ {vs ws : List V} {ds es : List D}, Reps K N F H vs ds -> Reps K N F H ws es -> Reps K N F H (vs ++ ws) (ds ++ es)
 | _, _, _, _, .nil, s => s
 | _, _, _, _, .cons h t, s => .cons h (Reps.append t s)
theorem Reps.take : ∀ {vs : List V} {ds : List D} (n : Nat), Reps K N F H vs ds -> Reps K N F H (vs.take n) (ds.take n)
 | _, _, 0, _ => by simpa using .nil
 | _, _, _ + 1, .nil => by simpa using .nil
 | _, _, n + 1, .cons h t => by simpa using .cons h (Reps.take n t)
theorem Reps.drop : ∀ {vs : List V} {ds : List D} (n : Nat), Reps K N F H vs ds -> Reps K N F H (vs.drop n) (ds.drop n)
 | _, _, 0, h => by simpa using h
 | _, _, _ + 1, .nil => by simpa using .nil
 | _, _, n + 1, .cons h t => by simpa using Reps.drop n t
theorem Reps.set {d : D} (h : Rep K N F H v d) : ∀ {vs : List V} {ds : List D} (i : Nat), Reps K N F H vs ds -> Reps K N F H (vs.set i v) (ds.set i d)
 | _, _, _, .nil => by simpa using .nil
 | _, _, 0, .cons _ t => by simpa using .cons h t
 | _, _, i + 1, .cons q t => by simpa using .cons q (Reps.set h i t)
theorem Reps.ints : ∀ {ns : List Int}, Reps K N F H (ns.map V.int) (ns.map D.int)
 | [] => .nil
 | _ :: r => .cons (.int _) (Reps.ints (ns := r))
theorem Reps.toInts : ∀ {vs : List V} {ns : List Int}, Reps K N F H vs (ns.map D.int) -> vs = ns.map V.int
 | _, [], .nil => rfl
 | _, n :: ns, .cons h t => by cases h; rw [Reps.toInts t]; rfl
theorem eJ {a : Addr} (h : SqT K (fun _ => none) a vs) : SqT K H a vs := by
 rcases h with (h | ⟨o, h⟩) | h
 ·cases h
 ·cases h
 ·exact .inr h
theorem gA {a : Addr} (h : SqL K (fun _ => none) a vs) : SqL K H a vs := by
 rcases h with (h | ⟨o, h⟩) | h
 ·cases h
 ·cases h
 ·exact .inr h
theorem Rep.sqT {ds : List D} (h : Rep K N F H v (.tup ds)) : ∃ a vs, v = .ref a /\ SqT K H a vs /\ Reps K N F H vs ds := by
 cases h with
 | tup n h r => exact ⟨_, _, rfl, .inl h, r⟩
 | tupK h r => exact ⟨_, _, rfl, eJ h, r⟩
theorem Rep.sqL {ds : List D} (h : Rep K N F H v (.lst ds)) : ∃ a vs, v = .ref a /\ SqL K H a vs /\ Reps K N F H vs ds := by
 cases h with
 | lst n f h r => exact ⟨_, _, rfl, .inl (.inl h), r⟩
 | lstF n f h r => exact ⟨_, _, rfl, .inl (.inr ⟨_, h⟩), r⟩
 | lstK f h r => exact ⟨_, _, rfl, gA h, r⟩
theorem Rep.of_sqL {a : Addr} {ds : List D} (h : SqL K H a vs) (n : N a) (f : ∀ o, F o) (r : Reps K N F H vs ds) : Rep K N F H (.ref a) (.lst ds) := by
 rcases h with (h | ⟨o, h⟩) | h
 ·exact .lst n (f _) h r
 ·exact .lstF n (f _) h r
 ·exact .lstK (f _) (.inr h) r
end
structure BY where
 ok : PySem.W.Frag -> Hp -> AP -> Hp -> Addr -> Prop
 ism : ∀ {K : PySem.W.Frag} {H0 : Hp} {N : AP} {H : Hp} {a : Addr}, ok K H0 N H a -> IsM (H a)
 mono : ∀ {K : PySem.W.Frag} {H0 : Hp} {N N' : AP} {H H' : Hp} {a : Addr}, (∀ b, N b -> H b ≠ none -> N' b /\ H' b = H b) -> H' a = H a -> ok K H0 N H a -> ok K H0 N' H' a
inductive Sl where
 | no | val (d : D) | fre (d : D) | own (ds : List D) | pen (ad : Option Addr) (ns : List Int) | odi (ks : List (List Int)) (vs : List D) | obj (k : BY)
def Sl.mut : Sl -> Bool
 | .own _ => true
 | .pen _ _ => true
 | .odi _ _ => true
 | .obj _ => true
 | _ => false
def Mo (Z : AP) (σ : St) (S : List Sl) (a : Addr) : Prop := (∃ (i : Nat) (s : Sl), S[i]? = some s /\ s.mut = true /\ σ[i]? = some (some (V.ref a))) \/ Z a
abbrev NM (Z : AP) (σ : St) (S : List Sl) : AP := fun a => ¬Mo Z σ S a
def nu (K : PySem.W.Frag) (H0 : Hp) (N : AP) (H : Hp) (o : Option V) : Sl -> Prop
 | .no => True
 | .val d => ∃ v, o = some v /\ Rep K N AnyF H v d
 | .fre d => ∃ v, o = some v /\ Rep K N (Fr H0) H v d
 | .own ds => ∃ a vs, o = some (.ref a) /\ H a = some (.lst vs) /\ H0 a = none /\ Reps K N (Fr H0) H vs ds
 | .pen ad ns => ∃ a, o = some (.ref a) /\ (∀ b, ad = some b -> a = b) /\ H a = some (.lst (ns.map .int))
 | .odi ks ds => ∃ a es, o = some (.ref a) /\ (∃ ob, H a = some (bK a ob es)) /\ H0 a = none /\ (es.map (·.1) = ks /\ Reps K N AnyF H (es.map fun x => V.ref x.2.1) (ks.map kT)) /\ Reps K N (Fr H0) H (es.map (·.2.2)) ds
 | .obj k => ∃ a, o = some (.ref a) /\ H0 a = none /\ k.ok K H0 N H a
structure OK (K : PySem.W.Frag) (H0 : Hp) (Z : AP) (σ : St) (H : Hp) (S : List Sl) : Prop where
 len : σ.length = S.length
 at_ : ∀ (i : Nat) (o : Option V) (s : Sl), σ[i]? = some o -> S[i]? = some s -> nu K H0 (NM Z σ S) H o s
 inj : ∀ (i j : Nat) (a : Addr) (s t : Sl), S[i]? = some s -> S[j]? = some t -> s.mut = true -> t.mut = true -> σ[i]? = some (some (V.ref a)) -> σ[j]? = some (some (V.ref a)) -> i = j
 dom : ∀ a, H a = none -> H0 a = none
 zl : ∀ a, Z a -> IsM (H a)
 nz : ∀ (i : Nat) (s : Sl) (a : Addr), S[i]? = some s -> s.mut = true -> σ[i]? = some (some (V.ref a)) -> ¬Z a
def Step (Z : AP) (σ : St) (S : List Sl) (H : Hp) (σ' : St) (S' : List Sl) (H' : Hp) : Prop := (∀ a, NM Z σ S a -> H a ≠ none -> H' a = H a /\ NM Z σ' S' a) /\ (∀ a, H' a = none -> H a = none) /\ ∀ a, Z a -> H a ≠ none -> H' a = H a
section
variable {K : PySem.W.Frag} {N N' : AP} {F F' : FP} {H H' H'' H0 : Hp} {Z : AP} {σ σ' σ'' : St} {S S' S'' : List Sl}
theorem Step.refl : Step Z σ S H σ S H := ⟨fun _ n _ => ⟨rfl, n⟩, fun _ h => h, fun _ _ _ => rfl⟩
theorem Step.trans (a : Step Z σ S H σ' S' H') (b : Step Z σ' S' H' σ'' S'' H'') : Step Z σ S H σ'' S'' H'' :=
 ⟨fun x n h => by
  obtain ⟨e1, n1⟩ := a.1 x n h
  obtain ⟨e2, n2⟩ := b.1 x n1 (by rw [e1]; exact h)
  exact ⟨e2.trans e1, n2⟩, fun x h => a.2.1 x (b.2.1 x h), fun x z h => by
  have e1 := a.2.2 x z h
  exact (b.2.2 x z (by rw [e1]; exact h)).trans e1⟩
theorem Rep.step {d : D} (h : Rep K (NM Z σ S) F H v d) (st : Step Z σ S H σ' S' H') : Rep K (NM Z σ' S') F H' v d := h.mono (fun a n e => ⟨(st.1 a n e).2, (st.1 a n e).1⟩) fun _ x => x
theorem Reps.step {ds : List D} (h : Reps K (NM Z σ S) F H vs ds) (st : Step Z σ S H σ' S' H') : Reps K (NM Z σ' S') F H' vs ds := h.mono (fun a n e => ⟨(st.1 a n e).2, (st.1 a n e).1⟩) fun _ x => x
theorem OK.mo (k : OK K H0 Z σ H S) {a : Addr} (h : Mo Z σ S a) : IsM (H a) := by
 rcases h with ⟨i, s, e1, e2, e3⟩ | h
 case inr => exact k.zl a h
 have q := k.at_ i _ s e3 e1
 cases s with
 | no => cases e2
 | val d => cases e2
 | fre d => cases e2
 | own ds => obtain ⟨b, vs, h1, h2, _⟩ := q; cases h1; rw [h2]; trivial
 | pen ad ns => obtain ⟨b, h1, _, h2⟩ := q; cases h1; rw [h2]; trivial
 | odi ks ds => obtain ⟨b, kvs, h1, ⟨ob, h2⟩, _⟩ := q; cases h1; rw [h2]; trivial
 | obj k => obtain ⟨b, h1, _, h2⟩ := q; cases h1; exact k.ism h2
theorem OK.grow (k : OK K H0 Z σ H S) (h : ∀ a, H a ≠ none -> H' a = H a) : OK K H0 Z σ H' S where
 len := k.len
 inj := k.inj
 nz := k.nz
 zl := fun a z => by
  have e := k.zl a z
  rw [h a e.ne]; exact e
 dom := fun a e => k.dom a (Classical.byContradiction fun z => by rw [h a z] at e; exact z e)
 at_ := fun i o s e1 e2 => by
  have q := k.at_ i o s e1 e2
  have hm : ∀ a, NM Z σ S a -> H a ≠ none -> NM Z σ S a /\ H' a = H a := fun a n e => ⟨n, h a e⟩
  cases s with
  | no => trivial
  | val d => obtain ⟨v, e, r⟩ := q; exact ⟨v, e, r.mono hm fun _ x => x⟩
  | fre d => obtain ⟨v, e, r⟩ := q; exact ⟨v, e, r.mono hm fun _ x => x⟩
  | own ds => obtain ⟨a, vs, e, e', e0, r⟩ := q; exact ⟨a, vs, e, by rw [h a (by simp [e'])]; exact e', e0, r.mono hm fun _ x => x⟩
  | pen ad ns => obtain ⟨a, e, e1, e'⟩ := q; exact ⟨a, e, e1, by rw [h a (by simp [e'])]; exact e'⟩
  | odi ks ds => obtain ⟨a, vs, e, ⟨ob, e'⟩, e0, ek, r⟩ := q; exact ⟨a, vs, e, ⟨ob, by rw [h a (by simp [e'])]; exact e'⟩, e0, ⟨ek.1, ek.2.mono hm fun _ x => x⟩, r.mono hm fun _ x => x⟩
  | obj k => obtain ⟨a, e, e0, r⟩ := q; exact ⟨a, e, e0, k.mono hm (h a (k.ism r).ne) r⟩
theorem Step.grow (h : ∀ a, H a ≠ none -> H' a = H a) : Step Z σ S H σ S H' := ⟨fun a n e => ⟨h a e, n⟩, fun a e => Classical.byContradiction fun z => by rw [h a z] at e; exact z e, fun a _ e => h a e⟩
theorem aJ {p : Addr} {o : HO} (hp : H p = none) : ∀ a, H a ≠ none -> upd H p o a = H a := fun a e => ao fun z => e (by rw [z]; exact hp)
end
inductive VR where
 | d (x : D) | own (i : Nat)
def getO : Option Sl -> Option D
 | some (.own ds) => some (.lst ds)
 | some (.pen _ ns) => some (.lst (ns.map .int))
 | some (.odi ks vs) => some (.dic ks vs)
 | _ => none
def get (S : List Sl) : VR -> Option D
 | .d x => some x
 | .own i => getO S[i]?
def d8 (K : PySem.W.Frag) (F : FP) (Z : AP) (σ : St) (S : List Sl) (H : Hp) (v : V) : VR -> Prop
 | .d x => Rep K (NM Z σ S) F H v x
 | .own i => σ[i]? = some (some v)
section
variable {K : PySem.W.Frag} {N N' : AP} {F F' : FP} {H H' H'' H0 : Hp} {Z : AP} {σ σ' σ'' : St} {S S' S'' : List Sl}
theorem d8.step {r : VR} (h : d8 K F Z σ S H v r) (st : Step Z σ S H σ S' H') : d8 K F Z σ S' H' v r := by
 cases r with
 | d x => exact Rep.step h st
 | own i => exact h
theorem d8.get {r : VR} {x : D} (h : d8 K F Z σ S H v r) (k : OK K H0 Z σ H S) (e : get S r = some x) : Rep K Any AnyF H v x := by
 cases r with
 | d y => cases e; exact Rep.any h
 | own i =>
  have h : σ[i]? = some (some v) := h
  have e : getO S[i]? = some x := e
  cases es : S[i]? with
  | none => rw [es] at e; cases e
  | some s =>
   rw [es] at e
   cases s with
   | no => cases e
   | val d => cases e
   | fre d => cases e
   | own ds =>
    cases e
    obtain ⟨a, vs, h1, h2, h3, h4⟩ := k.at_ i _ _ h es
    cases h1
    exact .lst trivial trivial h2 h4.any
   | pen ad ns =>
    cases e
    obtain ⟨a, h1, _, h2⟩ := k.at_ i _ _ h es
    cases h1
    exact .lst trivial trivial h2 Reps.ints
   | odi ks ds =>
    cases e
    obtain ⟨a, kvs, h1, ⟨ob, h2⟩, h3, h4, h5⟩ := k.at_ i _ _ h es
    cases h1
    exact .dic trivial trivial h2 h4.1 h4.2.any h5.any
   | obj k => cases e
end
abbrev VT := List Sl -> (VR -> List Sl -> Prop) -> Prop
abbrev VTT := List Sl -> (Bool -> List Sl -> Prop) -> Prop
abbrev VTA := List Sl -> (List VR -> List Sl -> Prop) -> Prop
abbrev VTN := List Sl -> (List D -> List Sl -> Prop) -> Prop
def FM (H0 : Hp) (m : Bool) : FP := fun o => m = true -> Fr H0 o
def SndE (K : PySem.W.Frag) (m : Bool) (te : TE) (t : VT) : Prop := ∀ H0 Z σ H S Q C, OK K H0 Z σ H S -> t S Q -> (∀ v H' r S', OK K H0 Z σ H' S' -> Step Z σ S H σ S' H' -> d8 K (FM H0 m) Z σ S' H' v r -> Q r S' -> C v H') -> te σ H C
def SndT (K : PySem.W.Frag) (te : TT) (t : VTT) : Prop := ∀ H0 Z σ H S Q C, OK K H0 Z σ H S -> t S Q -> (∀ b H' S', OK K H0 Z σ H' S' -> Step Z σ S H σ S' H' -> Q b S' -> C b H') -> te σ H C
inductive bQ (K : PySem.W.Frag) (F : FP) (Z : AP) (σ : St) (S : List Sl) (H : Hp) : List V -> List VR -> Prop where
 | nil : bQ K F Z σ S H [] []
 | cons {v : V} {r : VR} {vs : List V} {rs : List VR} (h : d8 K F Z σ S H v r) (t : bQ K F Z σ S H vs rs) : bQ K F Z σ S H (v :: vs) (r :: rs)
def gets (S : List Sl) : List VR -> Option (List D)
 | [] => some []
 | r :: rs => match get S r, gets S rs with
  | some d, some ds => some (d :: ds)
  | _, _ => none
def zI (K : PySem.W.Frag) (m : Bool) (te : TA) (t : VTA) : Prop := ∀ H0 Z σ H S Q C, OK K H0 Z σ H S -> t S Q -> (∀ vs H' rs S', OK K H0 Z σ H' S' -> Step Z σ S H σ S' H' -> bQ K (FM H0 m) Z σ S' H' vs rs -> Q rs S' -> C vs H') -> te σ H C
def BZ (K : PySem.W.Frag) (te : TE) (t : VTN) : Prop := ∀ H0 Z σ H S Q C, OK K H0 Z σ H S -> t S Q -> (∀ a vs ds H1 H' S', OK K H0 Z σ H1 S' -> Step Z σ S H σ S' H1 -> H1 a = none -> (∀ b, H1 b ≠ none -> H' b = H1 b) -> H' a = some (.lst vs) ->
 Reps K (fun b => NM Z σ S' b /\ b ≠ a) (Fr H0) H' vs ds -> Q ds S' -> C (.ref a) H') -> te σ H C
structure VE (K : PySem.W.Frag) (X : Cx) (m : Bool) (e : Expr) (te : TE) (t : VT) : Prop where
 pe : PE X e te
 snd : SndE K m te t
structure VTe (K : PySem.W.Frag) (X : Cx) (e : Expr) (te : TT) (t : VTT) : Prop where
 pe : PT X e te
 snd : SndT K te t
structure VWe (K : PySem.W.Frag) (X : Cx) (e : Expr) (te : TT) (t : VTT) : Prop where
 pe : PW X e te
 snd : SndT K te t
structure VA (K : PySem.W.Frag) (X : Cx) (m : Bool) (es : List Expr) (te : TA) (t : VTA) : Prop where
 pe : PA X es te
 snd : zI K m te t
structure VN (K : PySem.W.Frag) (X : Cx) (e : Expr) (te : TE) (t : VTN) : Prop where
 pe : PE X e te
 snd : BZ K te t
section
variable {K : PySem.W.Frag} {N N' : AP} {F F' : FP} {H H' H'' H0 : Hp} {Z : AP} {σ σ' σ'' : St} {S S' S'' : List Sl}
theorem bQ.gets {rs : List VR} {ds : List D} (h : bQ K F Z σ S H vs rs) (k : OK K H0 Z σ H S) (e : gets S rs = some ds) : Reps K Any AnyF H vs ds := by
 induction h generalizing ds with
 | nil => cases e; exact .nil
 | cons h t ih =>
  unfold VL.gets at e
  split at e
  ·rename_i d es h1 h2
   cases e
   exact .cons (h.get k h1) (ih h2)
  ·cases e
end
end VL
end
variable {kvs : List (List Int × VL.D)} {ds : List VL.D} {S : List VL.Sl} {d : VL.D} {r : VL.VR} {F : VL.FP} {Z : VL.AP} {H0 : L2.Hp} {rs : List VL.VR} {q : VL.D -> Prop} {p : List VL.D -> (VL.D -> Prop) -> Prop}
section
namespace VL
open PySem L2
section
variable {K : PySem.W.Frag} {X : Cx} {m : Bool} {e a b c : Expr} {ta tb tc te : TE} {va vb vc : VT} {pos : Pos}
theorem FM.any {a : Option Addr} : FM H0 false a := fun z => nomatch z
def vC (d : D) : VT := fun S Q => Q (.d d) S
theorem af {i j} : VE K X m (.Constant (.int i) j pos) (tC (.int i)) (vC (.int i)) := ⟨n6, fun _ _ _ _ _ _ _ k h q => q _ _ (.d (.int i)) _ k .refl (Rep.int i) h⟩
theorem cF {i j} : VE K X m (.Constant (.bool i) j pos) (tC (.bl i)) (vC (.bl i)) := ⟨zh, fun _ _ _ _ _ _ _ k h q => q _ _ (.d (.bl i)) _ k .refl (Rep.bl i) h⟩
theorem kR {j} : VE K X m (.Constant .none j pos) (tC .non) (vC .non) := ⟨wa, fun _ _ _ _ _ _ _ k h q => q _ _ (.d .non) _ k .refl Rep.non h⟩
theorem me (h : PE X e (tC v)) (r : ∀ N H, Rep K N AnyF H v d) : VE K X false e (tC v) (vC d) := ⟨h, fun _ _ _ _ _ _ _ k h q => q _ _ (.d d) _ k .refl (show Rep K _ _ _ v d from (r _ _).mono (fun _ n _ => ⟨n, rfl⟩) (fun _ _ => FM.any)) h⟩
def rdO (i : Nat) : Option Sl -> Option VR
 | some (.val d) => some (.d d)
 | some (.fre d) => some (.d d)
 | some (.own _) => some (.own i)
 | some (.pen _ _) => some (.own i)
 | some (.odi _ _) => some (.own i)
 | some (.obj _) => some (.own i)
 | _ => none
def sH (i : Nat) : VT := fun S Q => ∃ r, rdO i S[i]? = some r /\ Q r S
theorem OK.var {H0 H : Hp} (k : OK K H0 Z σ H S) {i : Nat} (h : rdO i S[i]? = some r) : ∃ v, σ[i]? = some (some v) /\ d8 K (FM H0 false) Z σ S H v r := by
 have hl := k.len
 cases es : S[i]? with
 | none => rw [es] at h; cases h
 | some s =>
  have hi : i < σ.length := by rw [hl]; exact (List.getElem?_eq_some_iff.mp es).1
  have q := k.at_ i _ s (List.getElem?_eq_getElem hi) es
  rw [es] at h
  cases s with
  | no => cases h
  | val d => obtain ⟨v, e, r'⟩ := q; cases h; exact ⟨v, by rw [List.getElem?_eq_getElem hi, e], r'.mono (fun _ n _ => ⟨n, rfl⟩) fun _ _ => FM.any⟩
  | fre d => obtain ⟨v, e, r'⟩ := q; cases h; exact ⟨v, by rw [List.getElem?_eq_getElem hi, e], r'.mono (fun _ n _ => ⟨n, rfl⟩) fun _ x _ => x⟩
  | own ds => obtain ⟨a, vs, e, _⟩ := q; cases h; exact ⟨.ref a, by rw [List.getElem?_eq_getElem hi, e], by show σ[i]? = _; rw [List.getElem?_eq_getElem hi, e]⟩
  | pen ad ds => obtain ⟨a, e, _⟩ := q; cases h; exact ⟨.ref a, by rw [List.getElem?_eq_getElem hi, e], by show σ[i]? = _; rw [List.getElem?_eq_getElem hi, e]⟩
  | odi ks ds => obtain ⟨a, _, e, _⟩ := q; cases h; exact ⟨.ref a, by rw [List.getElem?_eq_getElem hi, e], by show σ[i]? = _; rw [List.getElem?_eq_getElem hi, e]⟩
  | obj k => obtain ⟨a, e, _⟩ := q; cases h; exact ⟨.ref a, by rw [List.getElem?_eq_getElem hi, e], by show σ[i]? = _; rw [List.getElem?_eq_getElem hi, e]⟩
theorem ae (i : Nat) (h : PE X e (cY i)) : VE K X false e (cY i) (sH i) := ⟨h, fun H0 Z σ H S Q C k zq1 hc => by
 obtain ⟨r, h, q⟩ := zq1
 obtain ⟨v, e, rr⟩ := k.var h
 exact ⟨v, e, hc _ _ _ _ k .refl rr q⟩⟩
def oP (t : VT) : VT := fun S Q => t S fun r S' => (match r with | .d d => flat d = true | .own _ => True) /\ Q r S'
theorem bu (h : VE K X false e te va) : VE K X m e te (oP va) := ⟨h.pe, fun H0 Z σ H S Q C k t hc => h.snd H0 Z σ H S _ C k t fun v H' r S' k' st rr ⟨f, q⟩ => hc v H' r S' k' st (by
 cases r with
 | d x => exact Rep.flat rr f
 | own i => exact rr) q⟩
def v2 (w : D -> D -> (D -> Prop) -> Prop) (va vb : VT) : VT := fun S Q => va S fun ra S1 => vb S1 fun rb S2 => ∃ d1 d2, get S2 ra = some d1 /\ get S2 rb = some d2 /\ w d1 d2 fun d => Q (.d d) S2
def cf (K : PySem.W.Frag) (r : R2) (w : D -> D -> (D -> Prop) -> Prop) : Prop := ∀ (x y : V) (H : Hp) (d1 d2 : D) (q : D -> Prop) (C : VK), Rep K Any AnyF H x d1 -> Rep K Any AnyF H y d2 -> w d1 d2 q -> (∀ z dz, q dz -> (∀ N F, Rep K N F H z dz) -> C z H) -> r x y H C
theorem xb {r : R2} {w : D -> D -> (D -> Prop) -> Prop} (L : cf K r w) (ha : SndE K false ta va) (hb : SndE K false tb vb) : SndE K m (tOp r ta tb) (v2 w va vb) := by
 intro H0 Z σ H S Q C k t hc
 refine ha H0 Z σ H S _ _ k t fun x H1 ra S1 k1 st1 r1 t1 => ?_
 refine hb H0 Z σ H1 S1 _ _ k1 t1 fun y H2 rb S2 k2 st2 r2 zr1 => ?_
 obtain ⟨d1, d2, e1, e2, t2⟩ := zr1
 exact L x y H2 d1 d2 _ _ ((r1.step st2).get k2 e1) (r2.get k2 e2) t2 fun z dz q rz => hc z H2 (.d dz) S2 k2 (st1.trans st2) (rz _ _) q
theorem aw {op : Operator} {r : R2} {w : D -> D -> (D -> Prop) -> Prop} (ho : OpR X (binaryOp op) r) (L : cf K r w) (ha : VE K X false a ta va) (hb : VE K X false b tb vb) : VE K X m (.BinOp a op b pos) (tOp r ta tb) (v2 w va vb) := ⟨oo ho ha.pe hb.pe, xb L ha.snd hb.snd⟩
@[reducible] def ofV : V -> D
 | .int i => .int i
 | .bl b => .bl b
 | .str x => .str x
 | .ty x => .ty x
 | _ => .non
def scV : V -> Bool
 | .int _ => true | .bl _ => true | .str _ => true | .non => true | .ty _ => true | _ => false
theorem kU (h : scV v = true) {N : AP} : Rep K N F H v (ofV v) := by
 cases v <;> first | exact .int _ | exact .bl _ | exact .str _ | exact .non | exact .ty _ | cases h
def wI (C : Int -> Int -> Prop) (g : Int -> Int -> V) : D -> D -> (D -> Prop) -> Prop := fun d1 d2 q => ∃ i j, d1 = .int i /\ d2 = .int j /\ C i j /\ q (ofV (g i j))
def wI0 (g : Int -> Int -> V) : D -> D -> (D -> Prop) -> Prop := fun d1 d2 q => ∃ i j, d1 = .int i /\ d2 = .int j /\ q (ofV (g i j))
theorem br {C : Int -> Int -> Prop} {g : Int -> Int -> V} (hg : ∀ i j, scV (g i j) = true := by intro _ _; rfl) : cf K (rI C g) (wI C g) := by
 rintro x y H d1 d2 q Cc r1 r2 ⟨i, j, rfl, rfl, c, h⟩ hc
 cases r1; cases r2
 exact ⟨i, j, rfl, rfl, c, hc _ _ h fun _ _ => kU (hg i j)⟩
theorem aK {g : Int -> Int -> V} (hg : ∀ i j, scV (g i j) = true := by intro _ _; rfl) : cf K (rI0 g) (wI0 g) := by
 rintro x y H d1 d2 q Cc r1 r2 ⟨i, j, rfl, rfl, h⟩ hc
 cases r1; cases r2
 exact ⟨i, j, rfl, rfl, hc _ _ h fun _ _ => kU (hg i j)⟩
def toV : D -> Option V
 | .int i => some (.int i)
 | .bl b => some (.bl b)
 | .str x => some (.str x)
 | .non => some .non
 | _ => none
theorem fU {u : V} {N : AP} (h : Rep K N F H v d) (e : toV d = some u) : v = u := by
 cases h <;> cases e <;> rfl
def wEq : D -> D -> (D -> Prop) -> Prop := fun d1 d2 q => ∃ x y, toV d1 = some x /\ toV d2 = some y /\ rS x y = true /\ q (.bl (decide (x = y)))
def wNe : D -> D -> (D -> Prop) -> Prop := fun d1 d2 q => ∃ x y, toV d1 = some x /\ toV d2 = some y /\ rS x y = true /\ q (.bl (!decide (x = y)))
theorem ir : cf K rEq wEq := by
 rintro x y H d1 d2 q C r1 r2 ⟨x', y', e1, e2, s, h⟩ hc
 obtain rfl := fU r1 e1
 obtain rfl := fU r2 e2
 exact ⟨s, hc _ _ h fun _ _ => .bl _⟩
theorem B0 : cf K rNe wNe := by
 rintro x y H d1 d2 q C r1 r2 ⟨x', y', e1, e2, s, h⟩ hc
 obtain rfl := fU r1 e1
 obtain rfl := fU r2 e2
 exact ⟨s, hc _ _ h fun _ _ => .bl _⟩
def oQ : D -> Bool
 | .non => true
 | _ => false
theorem jR {N : AP} (h : Rep K N F H v d) : decide (v = .non) = oQ d := by cases h <;> rfl
def xf (neg : Bool) : D -> D -> (D -> Prop) -> Prop := fun d1 d2 q => d2 = .non /\ q (.bl (if neg then !oQ d1 else oQ d1))
theorem zJ : cf K (fun x y H Q => y = .non /\ Q (.bl (decide (x = .non))) H) (xf false) := by
 rintro x y H d1 d2 q C r1 r2 ⟨rfl, h⟩ hc
 cases r2
 exact ⟨rfl, by rw [jR r1]; exact hc _ _ h fun _ _ => .bl _⟩
theorem xg : cf K (fun x y H Q => y = .non /\ Q (.bl (!decide (x = .non))) H) (xf true) := by
 rintro x y H d1 d2 q C r1 r2 ⟨rfl, h⟩ hc
 cases r2
 exact ⟨rfl, by rw [jR r1]; exact hc _ _ h fun _ _ => .bl _⟩
def iI (t : VT) : VTT := fun S Q => t S fun r S' => ∃ k, r = .d (.bl k) /\ Q k S'
theorem sI (h : SndE K m te va) : SndT K (lT te) (iI va) := fun H0 Z σ H S Q C k t hc => h H0 Z σ H S _ _ k t fun v H' r S' k' st rr zq1 => by
 obtain ⟨b, e, q⟩ := zq1
 subst e
 cases (show Rep K _ _ H' v (.bl b) from rr)
 exact ⟨b, rfl, hc b H' S' k' st q⟩
theorem B1 (h : SndE K m te va) : SndT K (tB te) (iI va) := fun H0 Z σ H S Q C k t hc => h H0 Z σ H S _ _ k t fun v H' r S' k' st rr zq1 => by
 obtain ⟨b, e, q⟩ := zq1
 subst e
 cases (show Rep K _ _ H' v (.bl b) from rr)
 exact ⟨b, rfl, hc b H' S' k' st q⟩
theorem aO {op : CmpOp} {r : R2} {w : D -> D -> (D -> Prop) -> Prop} (ho : OpR X (compareOp op) r) (L : cf K r w) (ha : VE K X false a ta va) (hb : VE K X false b tb vb) (hm : behindInMarks op b = false) : VTe K X (.Compare a [op] [b] pos) (lT (tOp r ta tb)) (iI (v2 w va vb)) :=
 ⟨lU ho ha.pe hb.pe hm, sI (m := false) (xb L ha.snd hb.snd)⟩
theorem fy {op : CmpOp} {r : R2} {w : D -> D -> (D -> Prop) -> Prop} (ho : OpR X (compareOp op) r) (L : cf K r w) (ha : VE K X false a ta va) (hb : VE K X false b tb vb) (hm : behindInMarks op b = false) : VE K X m (.Compare a [op] [b] pos) (tOp r ta tb) (v2 w va vb) :=
 ⟨rV ho ha.pe hb.pe hm, xb L ha.snd hb.snd⟩
theorem cu (h : VE K X false e te va) (he : ∀ whole, isTrue e X.env whole = (do let v <- whole; standAt e.pos; holding [v] (truthy v)) := by intro _; rfl) : VTe K X e (tB te) (iI va) := ⟨wb h.pe he, B1 h.snd⟩
def tru : D -> Option Bool
 | .bl b => some b
 | .int i => some (i != 0)
 | .non => some false
 | .lst ds => some !ds.isEmpty
 | .tup ds => some !ds.isEmpty
 | _ => none
section
variable {tA tB' : TT} {wA wB : VTT} {rest : List Expr}
def zK (t u : VTT) : VTT := fun S Q => t S fun c S1 => if c = true then u S1 Q else Q false S1
def vOr (t u : VTT) : VTT := fun S Q => t S fun c S1 => if c = true then Q true S1 else u S1 Q
def zL (t : VTT) : VTT := fun S Q => t S fun c S1 => Q (!c) S1
theorem sJ (h : VTe K X a tA wA) : VWe K X (.BoolOp .And [a] pos) tA wA := ⟨rO h.pe, h.snd⟩
theorem jh (h : VTe K X a tA wA) : VWe K X (.BoolOp .Or [a] pos) tA wA := ⟨wd h.pe, h.snd⟩
theorem xh (ha : VTe K X a tA wA) (hb : VWe K X (.BoolOp .And (b :: rest) pos) tB' wB) : VWe K X (.BoolOp .And (a :: b :: rest) pos) (zi tA tB') (zK wA wB) := ⟨we ha.pe hb.pe, fun H0 Z σ H S Q C k t hc =>
 ha.snd H0 Z σ H S _ _ k t fun c H1 S1 k1 st1 q => by
  cases c with
  | true => rw [if_pos rfl] at q ⊢; exact hb.snd H0 Z σ H1 S1 _ _ k1 q fun c2 H2 S2 k2 st2 q2 => hc c2 H2 S2 k2 (st1.trans st2) q2
  | false => rw [if_neg Bool.false_ne_true] at q ⊢; exact hc false H1 S1 k1 st1 q⟩
theorem mh (ha : VTe K X a tA wA) (hb : VWe K X (.BoolOp .Or (b :: rest) pos) tB' wB) : VWe K X (.BoolOp .Or (a :: b :: rest) pos) (tOr tA tB') (vOr wA wB) := ⟨zk ha.pe hb.pe, fun H0 Z σ H S Q C k t hc =>
 ha.snd H0 Z σ H S _ _ k t fun c H1 S1 k1 st1 q => by
  cases c with
  | false => rw [if_neg Bool.false_ne_true] at q ⊢; exact hb.snd H0 Z σ H1 S1 _ _ k1 q fun c2 H2 S2 k2 st2 q2 => hc c2 H2 S2 k2 (st1.trans st2) q2
  | true => rw [if_pos rfl] at q ⊢; exact hc true H1 S1 k1 st1 q⟩
theorem jS (h : VWe K X e tA wA) : VTe K X e tA wA := ⟨h.pe.pt, h.snd⟩
theorem bV (h : VTe K X a tA wA) : VTe K X (.UnaryOp .Not a pos) (zj tA) (zL wA) := ⟨wg h.pe, fun H0 Z σ H S Q C k t hc => h.snd H0 Z σ H S _ _ k t fun c H1 S1 k1 st1 q => hc (!c) H1 S1 k1 st1 q⟩
def uQ (ta tb : VT) : VT := fun S Q => ta S fun r S1 => ∃ c, r = .d (.bl c) /\ if c = true then tb S1 Q else Q (.d (.bl false)) S1
def zM (ta tb : VT) : VT := fun S Q => ta S fun r S1 => ∃ c, r = .d (.bl c) /\ if c = true then Q (.d (.bl true)) S1 else tb S1 Q
theorem oR {op} (h : VE K X m a ta va) : VE K X m (.BoolOp op [a] pos) ta va := ⟨wj h.pe, h.snd⟩
theorem xi (ha : VE K X m a ta va) (hb : VE K X m (.BoolOp .And (b :: rest) pos) tb vb) : VE K X m (.BoolOp .And (a :: b :: rest) pos) (uH ta tb) (uQ va vb) := ⟨wm ha.pe hb.pe, fun H0 Z σ H S Q C k t hc =>
 ha.snd H0 Z σ H S _ _ k t fun v H1 r S1 k1 st1 rr zq1 => by
  obtain ⟨c, e, q⟩ := zq1
  subst e
  cases (show Rep K _ _ H1 v (.bl c) from rr)
  refine ⟨c, rfl, ?_⟩
  cases c with
  | true => rw [if_pos rfl] at q ⊢; exact hb.snd H0 Z σ H1 S1 _ _ k1 q fun v2 H2 r2 S2 k2 st2 rr2 q2 => hc v2 H2 r2 S2 k2 (st1.trans st2) rr2 q2
  | false => rw [if_neg Bool.false_ne_true] at q ⊢; exact hc _ H1 (.d (.bl false)) S1 k1 st1 (Rep.bl false) q⟩
theorem zN (ha : VE K X m a ta va) (hb : VE K X m (.BoolOp .Or (b :: rest) pos) tb vb) : VE K X m (.BoolOp .Or (a :: b :: rest) pos) (zm ta tb) (zM va vb) := ⟨zo ha.pe hb.pe, fun H0 Z σ H S Q C k t hc =>
 ha.snd H0 Z σ H S _ _ k t fun v H1 r S1 k1 st1 rr zq1 => by
  obtain ⟨c, e, q⟩ := zq1
  subst e
  cases (show Rep K _ _ H1 v (.bl c) from rr)
  refine ⟨c, rfl, ?_⟩
  cases c with
  | false => rw [if_neg Bool.false_ne_true] at q ⊢; exact hb.snd H0 Z σ H1 S1 _ _ k1 q fun v2 H2 r2 S2 k2 st2 rr2 q2 => hc v2 H2 r2 S2 k2 (st1.trans st2) rr2 q2
  | true => rw [if_pos rfl] at q ⊢; exact hc _ H1 (.d (.bl true)) S1 k1 st1 (Rep.bl true) q⟩
def vIf (t : VTT) (ta tb : VT) : VT := fun S Q => t S fun c S1 => if c = true then ta S1 Q else tb S1 Q
theorem oS (hc : VTe K X c tA wA) (ha : VE K X m a ta va) (hb : VE K X m b tb vb) : VE K X m (.IfExp c a b pos) (tIf tA ta tb) (vIf wA va vb) := ⟨n8 hc.pe ha.pe hb.pe, fun H0 Z σ H S Q C k t hq =>
 hc.snd H0 Z σ H S _ _ k t fun c H1 S1 k1 st1 q => by
  cases c with
  | true => rw [if_pos rfl] at q ⊢; exact ha.snd H0 Z σ H1 S1 _ _ k1 q fun v2 H2 r2 S2 k2 st2 rr2 q2 => hq v2 H2 r2 S2 k2 (st1.trans st2) rr2 q2
  | false => rw [if_neg Bool.false_ne_true] at q ⊢; exact hb.snd H0 Z σ H1 S1 _ _ k1 q fun v2 H2 r2 S2 k2 st2 rr2 q2 => hq v2 H2 r2 S2 k2 (st1.trans st2) rr2 q2⟩
end
def vUn (g : Int -> V) (va : VT) : VT := fun S Q => va S fun r S1 => ∃ i, get S1 r = some (.int i) /\ Q (.d (ofV (g i))) S1
theorem gB {op : UnaryOp} {g : Int -> V} (ho : UnR X (unaryOp op) (rU g)) (ha : VE K X false a ta va) (hg : ∀ i, scV (g i) = true := by intro _; rfl) : VE K X m (.UnaryOp op a pos) (tUn (rU g) ta) (vUn g va) := ⟨zv ho ha.pe, fun H0 Z σ H S Q C k t hc =>
 ha.snd H0 Z σ H S _ _ k t fun v H1 r S1 k1 st1 rr zq1 => by
  obtain ⟨i, e, q⟩ := zq1
  cases rr.get k1 e
  exact ⟨i, rfl, hc _ H1 (.d (ofV (g i))) S1 k1 st1 (kU (hg i)) q⟩⟩
section
variable {es : List Expr} {tr : TA} {vr : VTA}
def xj : VTA := fun S Q => Q [] S
def mi (va : VT) (vr : VTA) : VTA := fun S Q => va S fun r S1 => vr S1 fun rs S2 => Q (r :: rs) S2
theorem ah : VA K X m [] jF xj := ⟨fq, fun _ _ _ _ _ _ _ k h q => q _ _ _ _ k .refl .nil h⟩
theorem aa (ha : VE K X m e te va) (hr : VA K X m es tr vr) (hs : starEach (e :: es) X.env = (false, eval e X.env) :: starEach es X.env := by rfl) : VA K X m (e :: es) (dS te tr) (mi va vr) := ⟨bR ha.pe hr.pe hs, fun H0 Z σ H S Q C k t hc =>
 ha.snd H0 Z σ H S _ _ k t fun v H1 r S1 k1 st1 rr q => hr.snd H0 Z σ H1 S1 _ _ k1 q fun vs H2 rs S2 k2 st2 rrs q2 => hc (v :: vs) H2 (r :: rs) S2 k2 (st1.trans st2) (.cons (rr.step st2) rrs) q2⟩
def allD : List VR -> Option (List D)
 | [] => some []
 | .d x :: r => (allD r).map (x :: ·)
 | _ :: _ => none
theorem bQ.allD (h : bQ K F Z σ S H vs rs) (e : VL.allD rs = some ds) : Reps K (NM Z σ S) F H vs ds := by
 induction h generalizing ds with
 | nil => cases e; exact .nil
 | @cons v r vs rs h t ih =>
  cases r with
  | d x =>
   obtain ⟨es, h1, rfl⟩ := Option.map_eq_some_iff.mp (show (VL.allD rs).map (x :: ·) = some ds from e)
   exact .cons h (ih h1)
  | own i => cases e
theorem bQ.length (h : bQ K F Z σ S H vs rs) : vs.length = rs.length := by
 induction h with
 | nil => rfl
 | cons h t ih => simp [ih]
theorem dm : ∀ {rs : List VR} {ds : List D}, allD rs = some ds -> ds.length = rs.length
 | [], _, e => by cases e; rfl
 | .d x :: r, ds, e => by
  obtain ⟨es, h1, rfl⟩ := Option.map_eq_some_iff.mp (show (VL.allD r).map (x :: ·) = some ds from e)
  simp [dm h1]
 | .own _ :: _, _, e => by cases e
def zO (vr : VTA) : VT := fun S Q => vr S fun rs S1 => ∃ ds, allD rs = some ds /\ ds.length <= 1000 /\ Q (.d (.tup ds)) S1
theorem small {n : Nat} (h : n <= 1000) : n <= sizeLine := by rw [sizeLine_eq]; lia
theorem OK.nm {H0 H : Hp} (k : OK K H0 Z σ H S) {p : Addr} (hp : H p = none) : NM Z σ S p := fun z => by
 have e := k.mo z
 rw [hp] at e; exact e
theorem aM {x1} (h : VA K X m es tr vr) : VE K X m (.Tuple es x1 pos) (wM tr) (zO vr) := ⟨ou h.pe, fun H0 Z σ H S Q C k t hc =>
 h.snd H0 Z σ H S _ _ k t fun vs H1 rs S1 k1 st1 rrs ⟨ds, e, hl, q⟩ => ⟨small (by rw [rrs.length, <- dm e]; exact hl), fun p hp => by
  have g := aJ (o := .tup vs) hp
  exact hc _ _ (.d (.tup ds)) S1 (k1.grow g) (st1.trans (.grow g)) (Rep.tup (k1.nm hp) (.inl aq) ((rrs.allD e).mono (fun a n e => ⟨n, g a e⟩) fun _ x => x)) q⟩⟩
def zP (vr : VTA) : VTN := fun S Q => vr S fun rs S1 => ∃ ds, allD rs = some ds /\ ds.length <= 1000 /\ Q ds S1
theorem bW {H0 H : Hp} {p : Addr} {o : HO} (hp : H p = none) (h : Reps K (NM Z σ S) (FM H0 true) H vs ds) : Reps K (fun b => NM Z σ S b /\ b ≠ p) (Fr H0) (upd H p o) vs ds :=
 h.mono (fun a n e => ⟨⟨n, fun z => e (by rw [z]; exact hp)⟩, aJ hp a e⟩) fun _ x => x rfl
theorem cA (h : VA K X true es tr vr) : VN K X (.List es pos) (zz tr) (zP vr) := ⟨wN h.pe, fun H0 Z σ H S Q C k t hc =>
 h.snd H0 Z σ H S _ _ k t fun vs H1 rs S1 k1 st1 rrs ⟨ds, e, hl, q⟩ => ⟨small (by rw [rrs.length, <- dm e]; exact hl), fun p hp =>
  hc p vs ds H1 _ S1 k1 st1 hp (aJ hp) aq (bW hp (rrs.allD e)) q⟩⟩
def xk (t : VTN) : VT := fun S Q => t S fun ds S1 => Q (.d (.lst ds)) S1
theorem aT {t : VTN} (h : VN K X e te t) : VE K X m e te (xk t) := ⟨h.pe, fun H0 Z σ H S Q C k t hc => h.snd H0 Z σ H S _ _ k t fun a vs ds H1 H' S1 k1 st1 ha hg hl rr q => by
 refine hc _ H' (.d (.lst ds)) S1 (k1.grow hg) (st1.trans (.grow hg)) (Rep.lst (k1.nm ha) (fun _ => ⟨a, rfl, k1.dom a ha⟩) hl (rr.mono (fun b n e => ⟨n.1, rfl⟩) fun _ x _ => x)) q⟩
end
theorem d8.elems {H0 H : Hp} (h : d8 K F Z σ S H v r) (k : OK K H0 Z σ H S) (e : VL.get S r = some (.lst ds)) : ∃ a vs, v = .ref a /\ SqL K H a vs /\ Reps K (NM Z σ S) AnyF H vs ds := by
 cases r with
 | d y =>
  cases e
  obtain ⟨a, vs, rfl, hq, rr⟩ := Rep.sqL h
  exact ⟨a, vs, rfl, hq, rr.mono (fun _ n _ => ⟨n, rfl⟩) fun _ _ => trivial⟩
 | own i =>
  have h : σ[i]? = some (some v) := h
  have e : getO S[i]? = some (.lst ds) := e
  cases es : S[i]? with
  | none => rw [es] at e; cases e
  | some s =>
   rw [es] at e
   cases s with
   | no => cases e
   | val d => cases e
   | fre d => cases e
   | own ds =>
    cases e
    obtain ⟨a, vs, h1, h2, h3, h4⟩ := k.at_ i _ _ h es
    cases h1
    exact ⟨a, vs, rfl, .inl (.inl h2), h4.mono (fun _ n _ => ⟨n, rfl⟩) fun _ _ => trivial⟩
   | pen ad ns =>
    cases e
    obtain ⟨a, h1, _, h2⟩ := k.at_ i _ _ h es
    cases h1
    exact ⟨a, _, rfl, .inl (.inl h2), Reps.ints⟩
   | odi ks ds => cases e
   | obj k => cases e
theorem d8.elemsT {H0 H : Hp} (h : d8 K F Z σ S H v r) (k : OK K H0 Z σ H S) (e : VL.get S r = some (.tup ds)) : ∃ a vs, v = .ref a /\ SqT K H a vs /\ Reps K (NM Z σ S) AnyF H vs ds := by
 cases r with
 | d y =>
  cases e
  cases (show Rep K (NM Z σ S) F H v (.tup ds) from h) with
  | tup n h2 r2 => exact ⟨_, _, rfl, .inl h2, r2.mono (fun _ n _ => ⟨n, rfl⟩) fun _ _ => trivial⟩
  | tupK h2 r2 => exact ⟨_, _, rfl, eJ h2, r2.mono (fun _ n _ => ⟨n, rfl⟩) fun _ _ => trivial⟩
 | own i =>
  have e : getO S[i]? = some (.tup ds) := e
  cases es : S[i]? with
  | none => rw [es] at e; cases e
  | some s => rw [es] at e; cases s <;> cases e
end
end VL
end
section
namespace VL
open PySem L2
section
variable {K : PySem.W.Frag} {X : Cx} {m : Bool} {e a b c : Expr} {ta tb tc te : TE} {va vb vc : VT} {pos : Pos}
theorem jT {N : AP} {i : Int} (r : Reps K N F H vs ds) (h : atI ds i = some d) : ∃ v, atI vs i = some v /\ Rep K N F H v d := by
 unfold atI at h ⊢
 rw [r.length]
 cases e : ixN ds.length i with
 | none => rw [e] at h; cases h
 | some j =>
  rw [e] at h
  exact r.getD h
def vIx (va vb : VT) : VT := fun S Q => va S fun ra S1 => vb S1 fun rb S2 => ∃ ds i d, (get S2 ra = some (.lst ds) \/ get S2 ra = some (.tup ds)) /\ get S2 rb = some (.int i) /\ atI ds i = some d /\ Q (.d d) S2
theorem aG (hK : X.K = K) (ha : VE K X false a ta va) (hb : VE K X false b tb vb) (hs : fQ b) : VE K X false (.Subscript a b pos) (tOp (rIx K) ta tb) (vIx va vb) := ⟨by subst hK; exact oC wU ha.pe hb.pe hs, fun H0 Z σ H S Q C k t hc =>
 ha.snd H0 Z σ H S _ _ k t fun x H1 ra S1 k1 st1 r1 t1 => hb.snd H0 Z σ H1 S1 _ _ k1 t1 fun y H2 rb S2 k2 st2 r2 zq1 => by
  obtain ⟨ds, i, d, e1, e2, e3, q⟩ := zq1
  cases r2.get k2 e2
  have fin : ∀ v, Rep K (NM Z σ S2) AnyF H2 v d -> C v H2 := fun v rv => hc v H2 (.d d) S2 k2 (st1.trans st2) (show Rep K _ _ H2 v d from rv.mono (fun _ n _ => ⟨n, rfl⟩) fun _ _ => FM.any) q
  rcases e1 with e1 | e1
  ·obtain ⟨p, vs, rfl, hq, rr⟩ := (r1.step st2).elems k2 e1
   obtain ⟨v, h1, h2⟩ := jT rr e3
   exact .inl ⟨p, vs, i, v, rfl, rfl, hq, h1, fin v h2⟩
  ·obtain ⟨p, vs, rfl, hq, rr⟩ := (r1.step st2).elemsT k2 e1
   obtain ⟨v, h1, h2⟩ := jT rr e3
   exact .inr (.inl ⟨p, vs, i, v, rfl, rfl, hq, h1, fin v h2⟩)⟩
section
variable {es : List Expr} {tr : TA} {vr : VTA} {x : Str} {p : Pos} {id T : String} {r : List V -> Hp -> VK -> Prop}
def vCB (w : List D -> (D -> Prop) -> Prop) (vr : VTA) : VT := fun S Q => vr S fun rs S1 => ∃ ds, gets S1 rs = some ds /\ w ds fun d => Q (.d d) S1
def fJ (K : PySem.W.Frag) (r : List V -> Hp -> VK -> Prop) (w : List D -> (D -> Prop) -> Prop) : Prop := ∀ (xs : List V) (H : Hp) (ds : List D) (q : D -> Prop) (C : VK), Reps K Any AnyF H xs ds -> w ds q -> (∀ z dz, q dz -> (∀ N F, Rep K N F H z dz) -> C z H) -> r xs H C
theorem zQ {w : List D -> (D -> Prop) -> Prop} (L : fJ K r w) (ha : zI K false tr vr) : SndE K m (tCB r tr) (vCB w vr) := fun H0 Z σ H S Q C k t hc =>
 ha H0 Z σ H S _ _ k t fun vs H1 rs S1 k1 st1 rrs zt1 => by obtain ⟨ds, e, q⟩ := zt1; exact L vs H1 ds _ _ (rrs.gets k1 e) q fun z dz q rz => hc z H1 (.d dz) S1 k1 st1 (rz _ _) q
theorem aU {w : List D -> (D -> Prop) -> Prop} (hc : bO X (.builtin id) r) (L : fJ K r w) (hg : Gl X x) (hm : X.mg x = none) (hv : bootBuiltins x = some (.builtin id)) (ha : VA K X false (e :: es) tr vr) (hn : x ≠ "__name__" := by decide) (hdb : (x == ("__debug__" : Str)) = false := by decide)
  (he : starEach (e :: es) X.env = (false, eval e X.env) :: starEach es X.env := by rfl) (hpl : (backTo pos (starEach es X.env)).any (·.1) = false := by rfl) : VE K X m (.Call (.Name x p) (e :: es) [] pos) (tCB r tr) (vCB w vr) := ⟨di hc hg hm hv ha.pe hn hdb he hpl, zQ L ha.snd⟩
theorem nv {w : List D -> (D -> Prop) -> Prop} (hc : bO X (.type T) r) (L : fJ K r w) (hg : Gl X x) (hm : X.mg x = none) (hv : bootBuiltins x = some (.type T)) (ha : VA K X false (e :: es) tr vr) (hn : x ≠ "__name__" := by decide) (hdb : (x == ("__debug__" : Str)) = false := by decide)
  (he : starEach (e :: es) X.env = (false, eval e X.env) :: starEach es X.env := by rfl) (hpl : (backTo pos (starEach es X.env)).any (·.1) = false := by rfl) : VE K X m (.Call (.Name x p) (e :: es) [] pos) (tCB r tr) (vCB w vr) := ⟨fu hc hg hm hv ha.pe hn hdb he hpl, zQ L ha.snd⟩
theorem rep1 {N : AP} {xs : List V} (h : Reps K N F H xs [d]) : ∃ v, xs = [v] /\ Rep K N F H v d := by
 cases h with | cons h t => cases t; exact ⟨_, rfl, h⟩
theorem rep2 {N : AP} {xs : List V} {d d' : D} (h : Reps K N F H xs [d, d']) : ∃ v u, xs = [v, u] /\ Rep K N F H v d /\ Rep K N F H u d' := by
 cases h with | cons h t => cases t with | cons h' t => cases t; exact ⟨_, _, rfl, h, h'⟩
def xo : List D -> (D -> Prop) -> Prop := fun ds q => ∃ es, (ds = [.lst es] \/ ds = [.tup es]) /\ q (.int es.length)
theorem mj : fJ K (fun xs H Q => ∃ p ys, xs = [.ref p] /\ (SqL K H p ys \/ SqT K H p ys) /\ Q (.int ys.length) H) xo := by
 rintro xs H ds q C r ⟨es, rfl | rfl, h⟩ hc
 ·obtain ⟨v, rfl, rv⟩ := rep1 r
  obtain ⟨a, vs, rfl, hq, rr⟩ := rv.sqL
  exact ⟨a, vs, rfl, .inl hq, by rw [rr.length]; exact hc _ _ h fun _ _ => .int _⟩
 ·obtain ⟨v, rfl, rv⟩ := rep1 r
  obtain ⟨a, vs, rfl, hq, rr⟩ := rv.sqT
  exact ⟨a, vs, rfl, .inr hq, by rw [rr.length]; exact hc _ _ h fun _ _ => .int _⟩
def wMM (g : Int -> Int -> Int) : List D -> (D -> Prop) -> Prop := fun ds q => ∃ i j, ds = [.int i, .int j] /\ q (.int (g i j))
theorem zR {g : Int -> Int -> Int} : fJ K (fun xs H Q => ∃ i j, xs = [.int i, .int j] /\ Q (.int (g i j)) H) (wMM g) := by
 rintro xs H ds q C r ⟨i, j, rfl, h⟩ hc
 obtain ⟨v, u, rfl, rv, ru⟩ := rep2 r
 cases rv; cases ru
 exact ⟨i, j, rfl, hc _ _ h fun _ _ => .int _⟩
def B2 : List D -> (D -> Prop) -> Prop := fun ds q => (∃ i, ds = [.int i] /\ q (.int i)) \/ ∃ k : Bool, ds = [.bl k] /\ q (.int (if k then 1 else 0))
theorem zS : fJ K (fun xs H Q => (∃ i, xs = [.int i] /\ Q (.int i) H) \/ ∃ k, xs = [.bl k] /\ Q (.int (if k then 1 else 0)) H) B2 := by
 rintro xs H ds q C r (⟨i, rfl, h⟩ | ⟨i, rfl, h⟩) hc
 ·obtain ⟨v, rfl, rv⟩ := rep1 r
  cases rv
  exact .inl ⟨i, rfl, hc _ _ h fun _ _ => .int _⟩
 ·obtain ⟨v, rfl, rv⟩ := rep1 r
  cases rv
  exact .inr ⟨i, rfl, hc _ _ h fun _ _ => .int _⟩
def tyD : D -> String
 | .int _ => "int" | .bl _ => "bool" | .non => "NoneType" | .str _ => "str" | .tup _ => "tuple" | .lst _ => "list" | .ty _ => "type" | .dic _ _ => "dict" | .exc _ => ""
def isE : D -> Bool
 | .exc _ => true
 | _ => false
def zT : List D -> (D -> Prop) -> Prop := fun ds q => ∃ x c b, ds = [x, .ty c] /\ (∀ n, x ≠ .ty n) /\ isE x = false /\ nq (tyD x) c = some b /\ q (.bl b)
theorem ml : fJ K (wZ K) zT := by
 rintro xs H ds q C r ⟨x, c, b, rfl, hn, hE, e, h⟩ hc
 obtain ⟨v, u, rfl, rv, ru⟩ := rep2 r
 cases ru
 refine ⟨v, tyD x, c, b, rfl, ?_, e, hc _ _ h fun _ _ => .bl _⟩
 cases rv with
 | int i => exact .int i
 | bl i => exact .bl i
 | non => exact .non
 | str i => exact .str i
 | ty i => exact (hn _ rfl).elim
 | tup n h r => exact .tup (.inl h)
 | tupK h r => exact .tup (eJ h)
 | lst n f h r => exact .lst (.inl (.inl h))
 | lstF n f h r => exact .lst (.inl (.inr ⟨_, h⟩))
 | lstK f h r => exact .lst (gA h)
 | dic n f h e _ r => exact .dE h
 | exc n h e => cases hE
theorem bQ.one {r : VR} (h : bQ K F Z σ S H vs [r]) : ∃ v, vs = [v] /\ d8 K F Z σ S H v r := by
 cases h with | cons h t => cases t; exact ⟨_, rfl, h⟩
def mm (vr : VTA) : VTN := fun S Q => vr S fun rs S1 => ∃ r ds, rs = [r] /\ (get S1 r = some (.lst ds) \/ get S1 r = some (.tup ds)) /\ flats ds = true /\ Q ds S1
theorem fA {H0 H : Hp} {p : Addr} {o : HO} (hp : H p = none) (h : Reps K (NM Z σ S) F H vs ds) (f : flats ds = true) : Reps K (fun b => NM Z σ S b /\ b ≠ p) (Fr H0) (upd H p o) vs ds :=
 bW hp (Reps.flat h f)
theorem sL (hK : X.K = K) (hg : Gl X "list") (hm : X.mg "list" = none) (ha : VA K X false [e] tr vr) (he : starEach [e] X.env = [(false, eval e X.env)] := by rfl) :
  VN K X (.Call (.Name "list" p) [e] [] pos) (tCB (fun xs H Q => ∃ p ys, xs = [.ref p] /\ (SqL K H p ys \/ SqT K H p ys) /\ ∀ l, H l = none -> Q (.ref l) (upd H l (.lst ys))) tr) (mm vr) :=
 ⟨by subst hK; exact fu jd hg hm lX ha.pe (by decide) (by decide) he rfl, fun H0 Z σ H S Q C k t hc => ha.snd H0 Z σ H S _ _ k t fun vs H1 rs S1 k1 st1 rrs zq1 => by
  obtain ⟨r, ds, e1, e2, f, q⟩ := zq1
  subst e1
  obtain ⟨v, rfl, rv⟩ := rrs.one
  rcases e2 with e2 | e2
  ·obtain ⟨a, ys, rfl, hq, rr⟩ := rv.elems k1 e2
   exact ⟨a, ys, rfl, .inl hq, fun l hl => hc l ys ds H1 _ S1 k1 st1 hl (aJ hl) aq (fA hl rr f) q⟩
  ·obtain ⟨a, ys, rfl, hq, rr⟩ := rv.elemsT k1 e2
   exact ⟨a, ys, rfl, .inr hq, fun l hl => hc l ys ds H1 _ S1 k1 st1 hl (aJ hl) aq (fA hl rr f) q⟩⟩
def oT (vr : VTA) : VT := fun S Q => vr S fun rs S1 => ∃ r ds, rs = [r] /\ (get S1 r = some (.lst ds) \/ r = .d (.tup ds)) /\ flats ds = true /\ Q (.d (.tup ds)) S1
theorem gC (hK : X.K = K) (hg : Gl X "tuple") (hm : X.mg "tuple" = none) (ha : VA K X false [e] tr vr) (he : starEach [e] X.env = [(false, eval e X.env)] := by rfl) :
  VE K X m (.Call (.Name "tuple" p) [e] [] pos) (tCB (fun xs H Q => ∃ p ys, xs = [.ref p] /\ ((SqL K H p ys /\ ∀ l, H l = none -> Q (.ref l) (upd H l (.tup ys))) \/ (SqT K H p ys /\ Q (.ref p) H))) tr) (oT vr) :=
 ⟨by subst hK; exact fu ip hg hm jJ ha.pe (by decide) (by decide) he rfl, fun H0 Z σ H S Q C k t hc => ha.snd H0 Z σ H S _ _ k t fun vs H1 rs S1 k1 st1 rrs zq1 => by
  obtain ⟨r, ds, e1, e2, f, q⟩ := zq1
  subst e1
  obtain ⟨v, rfl, rv⟩ := rrs.one
  rcases e2 with e2 | e2
  ·obtain ⟨a, ys, rfl, hq, rr⟩ := rv.elems k1 e2
   refine ⟨a, ys, rfl, .inl ⟨hq, fun l hl => ?_⟩⟩
   have g := aJ (o := .tup ys) hl
   exact hc _ _ (.d (.tup ds)) S1 (k1.grow g) (st1.trans (.grow g)) (Rep.tup (k1.nm hl) (.inl aq) ((Reps.flat rr f).mono (fun a n e => ⟨n, g a e⟩) fun _ x => x)) q
  ·subst e2
   obtain ⟨a, ys, rfl, hq, rr⟩ := Rep.sqT (show Rep K _ _ H1 v (.tup ds) from rv)
   refine ⟨a, ys, rfl, .inr ⟨hq, hc _ _ (.d (.tup ds)) S1 k1 st1 ?_ q⟩⟩
   exact Rep.flat (show Rep K _ _ H1 _ (.tup ds) from rv) (by simpa [flat] using f)⟩
@[reducible] def eT (ms : List Int) : D := .tup (ms.map .int)
@[reducible] def eL (mss : List (List Int)) : D := .lst (mss.map eT)
theorem bX : ∀ ms : List Int, flats (ms.map D.int) = true
 | [] => rfl
 | _ :: r => by simp [flats, flat, bX r]
theorem dq : ∀ mss : List (List Int), flats (mss.map eT) = true
 | [] => rfl
 | _ :: r => by simp [flats, eT, flat, bX, dq r]
theorem fB {N : AP} : ∀ {vs : List V} {mss : List (List Int)}, Reps K N F H vs (mss.map eT) -> ∃ ps, vs = ps.map V.ref /\ Tups K H ps mss /\ (∀ p ∈ ps, H p = none -> N p -> False \/ True)
 | _, [], .nil => ⟨[], rfl, .nil, fun _ h => nomatch h⟩
 | _, ms :: r, .cons h t => by
  obtain ⟨ps, rfl, h1, h2⟩ := fB t
  obtain ⟨a, vs, rfl, hq, rr⟩ := Rep.sqT h
  cases Reps.toInts rr
  exact ⟨a :: ps, rfl, .cons hq h1, fun _ _ _ _ => .inr trivial⟩
theorem cP {N : AP} (hN : ∀ p vs, Rd H p (.tup vs) -> N p) : ∀ {ps : List Addr} {mss : List (List Int)}, Tups K H ps mss -> Reps K N F H (ps.map V.ref) (mss.map eT)
 | _, _, .nil => .nil
 | _, _, .cons h t => by
  refine .cons ?_ (cP hN t)
  rcases h with h | h
  ·exact .tup (hN _ _ h) h Reps.ints
  ·exact .tupK (.inr h) Reps.ints
theorem OK.tupN {H0 H : Hp} (k : OK K H0 Z σ H S) : ∀ p vs, Rd H p (.tup vs) -> NM Z σ S p := fun p vs h z => by
 have e := k.mo z
 rcases h with h | ⟨o, h⟩ <;> rw [h] at e <;> exact e
end
def spP (K : PySem.W.Frag) (p : List D -> (D -> Prop) -> Prop) : Sp := fun vs H Q _ => ∃ ds R, Reps K Any AnyF H vs ds /\ p ds R /\ ∀ d v H', R d -> (∀ a, H a ≠ none -> H' a = H a) -> Rep K Any (Fr H) H' v d -> Q v H'
def spI (K : PySem.W.Frag) (j : Nat) (p : List Int -> List D -> (D -> List Int -> Prop) -> Prop) : Sp := fun vs H Q _ => ∃ a ws us ns ds es R, vs = ws ++ .ref a :: us /\ ws.length = j /\ H a = some (.lst (ns.map .int)) /\ Reps K (· ≠ a) AnyF H ws ds /\ Reps K (· ≠ a) AnyF H us es /\ p ns (ds ++ es) R /\
 ∀ d ns' v H', R d ns' -> (∀ b, b ≠ a -> H b ≠ none -> H' b = H b) -> H' a = some (.lst (ns'.map .int)) -> Rep K (· ≠ a) (Fr H) H' v d -> Q v H'
section
variable {es : List Expr} {tr : TA} {vr : VTA} {x : Str} {p0 : Pos} {j k : Nat} {ps : List Str}
def vFn (p : List D -> (D -> Prop) -> Prop) (vr : VTA) : VT := fun S Q => vr S fun rs S1 => ∃ ds, gets S1 rs = some ds /\ p ds fun d => Q (.d d) S1
def xp (p : List D -> (D -> Prop) -> Prop) (vr : VTA) : VTN := fun S Q => vr S fun rs S1 => ∃ ds, gets S1 rs = some ds /\ p ds fun d => ∃ es, d = .lst es /\ flats es = true /\ Q es S1
theorem bY (E : Has X.prog X.w X.K X.mg X.base k x ps (spP K p)) (hr : aQ j X.A) (ha : VA K X false (e :: es) tr vr)
  (hk : k <= j := by decide) (hg : Gl X x := by rfl) (hdb : (x == ("__debug__" : Str)) = false := by decide) (he : starEach (e :: es) X.env = (false, eval e X.env) :: starEach es X.env := by rfl)
  (hpl : (backTo pos (starEach es X.env)).any (·.1) = false := by rfl) : VE K X m (.Call (.Name x p0) (e :: es) [] pos) (dU (spP K p) [] E0 tr) (vFn p vr) := ⟨oG E hr ha.pe hk hg hdb he hpl, fun H0 Z σ H S Q C k t hc =>
 ha.snd H0 Z σ H S _ _ k t fun vs H1 rs S1 k1 st1 rrs zq1 => by
  obtain ⟨ds, e, q⟩ := zq1
  refine ⟨ds, _, by rw [List.append_nil]; exact rrs.gets k1 e, q, fun d v H' q g r => ?_⟩
  refine hc v H' (.d d) S1 (k1.grow g) (st1.trans (.grow g)) (show Rep K _ _ H' v d from ?_) q
  refine (Rep.avoid (N' := NM Z σ S1) (fun a z => ?_) (fun a zq1 => by obtain ⟨b, e, f⟩ := zq1; cases e; exact k1.nm f) r).mono (fun _ n _ => ⟨n, rfl⟩) (fun o zt1 _ => by obtain ⟨b, e, f⟩ := zt1; exact ⟨b, e, k1.dom b f⟩)
  have e := k1.mo (Classical.not_not.mp z)
  rw [g a e.ne]; exact e⟩
theorem zU (E : Has X.prog X.w X.K X.mg X.base k x ps (spP K p)) (hr : aQ j X.A) (ha : VA K X false (e :: es) tr vr)
  (hk : k <= j := by decide) (hg : Gl X x := by rfl) (hdb : (x == ("__debug__" : Str)) = false := by decide) (he : starEach (e :: es) X.env = (false, eval e X.env) :: starEach es X.env := by rfl)
  (hpl : (backTo pos (starEach es X.env)).any (·.1) = false := by rfl) : VN K X (.Call (.Name x p0) (e :: es) [] pos) (dU (spP K p) [] E0 tr) (xp p vr) := ⟨oG E hr ha.pe hk hg hdb he hpl, fun H0 Z σ H S Q C k t hc =>
 ha.snd H0 Z σ H S _ _ k t fun vs H1 rs S1 k1 st1 rrs zq1 => by
  obtain ⟨ds, e, q⟩ := zq1
  refine ⟨ds, _, by rw [List.append_nil]; exact rrs.gets k1 e, q, fun d v H' ⟨es, ed, hf, q⟩ g r => ?_⟩
  subst ed
  have r2 := Rep.avoid (N' := NM Z σ S1) (fun a z => by
   have e := k1.mo (Classical.not_not.mp z)
   rw [g a e.ne]; exact e) (fun a zq1 => by obtain ⟨b, e, f⟩ := zq1; cases e; exact k1.nm f) r
  cases r2 with
  | @lst a ws _ n f h rs =>
   obtain ⟨b, e, f⟩ := f
   cases e
   refine hc a ws es H1 H' S1 k1 st1 f g h ?_ q
   refine (Reps.avoid (N' := fun b => NM Z σ S1 b /\ b ≠ a) (fun b z => ?_) (fun b fb => fb.elim) (Reps.flat (F' := fun _ => False) rs hf)).mono (fun _ n _ => ⟨n, rfl⟩) (fun o f => f.elim)
   by_cases hb : b = a
   ·subst hb; rw [h]; trivial
   ·have e := k1.mo (Classical.byContradiction fun y => z ⟨y, hb⟩)
    rw [g b e.ne]; exact e
  | lstF n f h rs => obtain ⟨b, e, f⟩ := f; cases e
  | lstK f h rs => obtain ⟨b, e, f⟩ := f; cases e⟩
end
end
end VL
end
section
namespace VL
open PySem L2
section
variable {K : PySem.W.Frag} {H H' H0 : Hp} {Z : AP} {σ : St} {S : List Sl}
theorem OK.put (k : OK K H0 Z σ H S) {i : Nat} {o : Option V} {s : Sl} (hi : i < S.length)
  (hN : ∀ a, NM Z σ S a -> H a ≠ none -> NM Z (σ.set i o) (S.set i s) a /\ H' a = H a)
  (hM : ∀ j s', j ≠ i -> S[j]? = some s' -> s'.mut = true -> ∀ a, σ[j]? = some (some (V.ref a)) -> H' a = H a)
  (hs : nu K H0 (NM Z (σ.set i o) (S.set i s)) H' o s)
  (hj : ∀ j a t, j ≠ i -> S[j]? = some t -> t.mut = true -> s.mut = true -> o = some (V.ref a) -> σ[j]? ≠ some (some (V.ref a)))
  (hd : ∀ a, H' a = none -> H a = none) (hz : ∀ a, Z a -> IsM (H' a)) (hnz : ∀ a, s.mut = true -> o = some (V.ref a) -> ¬Z a) : OK K H0 Z (σ.set i o) H' (S.set i s) where
 len := by simp [k.len]
 dom := fun a e => k.dom a (hd a e)
 zl := hz
 nz := fun j t a h1 h2 h3 => by
  have hi' : i < σ.length := by rw [k.len]; exact hi
  by_cases hji : i = j
  ·subst hji
   rw [List.getElem?_set_self hi] at h1
   rw [List.getElem?_set_self hi'] at h3
   cases h1
   exact hnz a h2 (Option.some.inj h3)
  ·rw [List.getElem?_set_ne hji] at h1 h3
   exact k.nz j t a h1 h2 h3
 inj := fun a b c t u h1 h2 m1 m2 h3 h4 => by
  have hi' : i < σ.length := by rw [k.len]; exact hi
  by_cases ha : i = a
  ·by_cases hb : i = b
   ·lia
   ·subst ha
    rw [List.getElem?_set_self hi] at h1
    rw [List.getElem?_set_self hi'] at h3
    rw [List.getElem?_set_ne hb] at h2 h4
    cases h1
    exact (hj b c u (fun z => hb z.symm) h2 m2 m1 (Option.some.inj h3) h4).elim
  ·by_cases hb : i = b
   ·subst hb
    rw [List.getElem?_set_self hi] at h2
    rw [List.getElem?_set_self hi'] at h4
    rw [List.getElem?_set_ne ha] at h1 h3
    cases h2
    exact (hj a c t (fun z => ha z.symm) h1 m1 m2 (Option.some.inj h4) h3).elim
   ·rw [List.getElem?_set_ne ha] at h1 h3
    rw [List.getElem?_set_ne hb] at h2 h4
    exact k.inj a b c t u h1 h2 m1 m2 h3 h4
 at_ := fun j o' s' h1 h2 => by
  have hi' : i < σ.length := by rw [k.len]; exact hi
  by_cases hji : i = j
  ·subst hji
   rw [List.getElem?_set_self hi'] at h1
   rw [List.getElem?_set_self hi] at h2
   cases h1; cases h2
   exact hs
  ·rw [List.getElem?_set_ne hji] at h1 h2
   have q := k.at_ j o' s' h1 h2
   cases s' with
   | no => trivial
   | val d => obtain ⟨v, e, r⟩ := q; exact ⟨v, e, r.mono hN fun _ x => x⟩
   | fre d => obtain ⟨v, e, r⟩ := q; exact ⟨v, e, r.mono hN fun _ x => x⟩
   | own ds =>
    obtain ⟨a, vs, e, e', e0, r⟩ := q
    exact ⟨a, vs, e, by rw [hM j _ (fun z => hji z.symm) h2 rfl a (by rw [h1, e])]; exact e', e0, r.mono hN fun _ x => x⟩
   | pen ad ns =>
    obtain ⟨a, e, e1, e'⟩ := q
    exact ⟨a, e, e1, by rw [hM j _ (fun z => hji z.symm) h2 rfl a (by rw [h1, e])]; exact e'⟩
   | odi ks ds =>
    obtain ⟨a, vs, e, e', e0, ek, r⟩ := q
    exact ⟨a, vs, e, by rw [hM j _ (fun z => hji z.symm) h2 rfl a (by rw [h1, e])]; exact e', e0, ⟨ek.1, ek.2.mono hN fun _ x => x⟩, r.mono hN fun _ x => x⟩
   | obj k =>
    obtain ⟨a, e, e0, r⟩ := q
    exact ⟨a, e, e0, k.mono hN (hM j _ (fun z => hji z.symm) h2 rfl a (by rw [h1, e])) r⟩
theorem ji {i : Nat} {o : Option V} {s : Sl} {a : Addr} (h : Mo Z (σ.set i o) (S.set i s) a) : Mo Z σ S a \/ (s.mut = true /\ o = some (V.ref a)) := by
 rcases h with ⟨j, t, h1, h2, h3⟩ | h
 ·by_cases hji : i = j
  ·subst hji
   have l1 := (List.getElem?_eq_some_iff.mp h1).1
   have l2 := (List.getElem?_eq_some_iff.mp h3).1
   rw [List.length_set] at l1 l2
   rw [List.getElem?_set_self l1] at h1
   rw [List.getElem?_set_self l2] at h3
   cases h1
   exact .inr ⟨h2, Option.some.inj h3⟩
  ·rw [List.getElem?_set_ne hji] at h1 h3
   exact .inl (.inl ⟨j, t, h1, h2, h3⟩)
 ·exact .inl (.inr h)
theorem OK.setVal (k : OK K H0 Z σ H S) {i : Nat} (hi : i < S.length) (h : Rep K (NM Z σ S) AnyF H v d) : OK K H0 Z (σ.set i (some v)) H (S.set i (.val d)) /\ Step Z σ S H (σ.set i (some v)) (S.set i (.val d)) H := by
 have n : ∀ a, NM Z σ S a -> NM Z (σ.set i (some v)) (S.set i (.val d)) a := fun a x z => by
  rcases ji z with z | ⟨z, _⟩
  ·exact x z
  ·cases z
 exact ⟨k.put hi (fun a x _ => ⟨n a x, rfl⟩) (fun _ _ _ _ _ _ _ => rfl) ⟨v, rfl, h.mono (fun a x _ => ⟨n a x, rfl⟩) fun _ x => x⟩ (fun _ _ _ _ _ _ z => nomatch z) (fun _ e => e) k.zl (fun _ z => nomatch z), fun a x _ => ⟨rfl, n a x⟩, fun _ e => e, fun _ _ _ => rfl⟩
theorem OK.setNew (k : OK K H0 Z σ H S) {i : Nat} {a : Addr} {s : Sl} (hi : i < S.length) (ha : H a = none) (hg : ∀ b, H b ≠ none -> H' b = H b) (hs : nu K H0 (fun b => NM Z σ S b /\ b ≠ a) H' (some (.ref a)) s) (hm : s.mut = true) :
  OK K H0 Z (σ.set i (some (.ref a))) H' (S.set i s) /\ Step Z σ S H (σ.set i (some (.ref a))) (S.set i s) H' := by
 have n : ∀ b, NM Z σ S b /\ b ≠ a -> NM Z (σ.set i (some (.ref a))) (S.set i s) b := fun b x z => by
  rcases ji z with z | ⟨_, z⟩
  ·exact x.1 z
  ·cases z; exact x.2 rfl
 have n' : ∀ b, NM Z σ S b -> H b ≠ none -> NM Z (σ.set i (some (.ref a))) (S.set i s) b := fun b x e => n b ⟨x, fun z => e (by rw [z]; exact ha)⟩
 refine ⟨k.put hi (fun b x e => ⟨n' b x e, hg b e⟩) (fun j s' hj h1 h2 b h3 => ?_) ?_ (fun j b t hj h1 h2 h3 h4 h5 => ?_) (fun b e => Classical.byContradiction fun z => by rw [hg b z] at e; exact z e) (fun b z => ?_) (fun b h1 h2 z => ?_), fun b x e => ⟨hg b e, n' b x e⟩, fun b e => Classical.byContradiction fun z => by rw [hg b z] at e; exact z e, fun b z e => hg b e⟩
 ·have e := k.mo (.inl ⟨j, s', h1, h2, h3⟩)
  exact hg b e.ne
 ·cases s with
  | no => trivial
  | val d => cases hm
  | fre d => cases hm
  | own ds => obtain ⟨b, vs, e, e', e0, r⟩ := hs; exact ⟨b, vs, e, e', e0, r.mono (fun c x _ => ⟨n c x, rfl⟩) fun _ x => x⟩
  | pen ad ns => exact hs
  | obj k => obtain ⟨b, e, e0, r⟩ := hs; exact ⟨b, e, e0, k.mono (fun c x _ => ⟨n c x, rfl⟩) rfl r⟩
  | odi ks ds => obtain ⟨b, vs, e, e', e0, ek, r⟩ := hs; exact ⟨b, vs, e, e', e0, ⟨ek.1, ek.2.mono (fun c x _ => ⟨n c x, rfl⟩) fun _ x => x⟩, r.mono (fun c x _ => ⟨n c x, rfl⟩) fun _ x => x⟩
 ·cases h4
  have e := k.mo (.inl ⟨j, t, h1, h2, h5⟩)
  rw [ha] at e; exact e
 ·have e := k.zl b z
  rw [hg b e.ne]; exact e
 ·cases h2
  have e := k.zl _ z
  rw [ha] at e; exact e
theorem oU {α : Type} {l : List α} {i : Nat} {o : α} (h : l[i]? = some o) : l.set i o = l := by
 obtain ⟨h1, rfl⟩ := List.getElem?_eq_some_iff.mp h
 exact List.set_getElem_self h1
theorem OK.chgD (k : OK K H0 Z σ H S) {i : Nat} {a : Addr} {s₀ s : Sl} {o : HO} (h1 : S[i]? = some s₀) (h2 : s₀.mut = true) (h3 : σ[i]? = some (some (.ref a))) (hm : s.mut = true) (hs : nu K H0 (NM Z σ S) (upd H a o) (some (.ref a)) s) :
  OK K H0 Z σ (upd H a o) (S.set i s) /\ Step Z σ S H σ (S.set i s) (upd H a o) := by
 have hi : i < S.length := (List.getElem?_eq_some_iff.mp h1).1
 have ma : Mo Z σ S a := .inl ⟨i, s₀, h1, h2, h3⟩
 have ea := k.mo ma
 have hza : ¬Z a := k.nz i s₀ a h1 h2 h3
 have e3 := oU h3
 have n : ∀ b, NM Z σ S b -> NM Z σ (S.set i s) b := fun b x z => by
  rw [<- e3] at z
  rcases ji z with z | ⟨_, z⟩
  ·exact x z
  ·cases z; exact x ma
 have ne : ∀ b, NM Z σ S b -> b ≠ a := fun b x z => x (by rw [z]; exact ma)
 have q := k.put (H' := upd H a o) (i := i) (o := some (.ref a)) (s := s) hi (fun b x e => ⟨by rw [e3]; exact n b x, ao (ne b x)⟩) (fun j s' hj g1 g2 b g3 => ao fun z => hj (by subst z; exact k.inj j i b s' s₀ g1 h1 g2 h2 g3 h3)) (by
  rw [e3]
  cases s with
  | no => trivial
  | val d => cases hm
  | fre d => cases hm
  | own ds => obtain ⟨b, vs, e, e', e0, r⟩ := hs; exact ⟨b, vs, e, e', e0, r.mono (fun c x _ => ⟨n c x, rfl⟩) fun _ x => x⟩
  | pen ad ns => exact hs
  | obj k => obtain ⟨b, e, e0, r⟩ := hs; exact ⟨b, e, e0, k.mono (fun c x _ => ⟨n c x, rfl⟩) rfl r⟩
  | odi ks ds => obtain ⟨b, vs, e, e', e0, ek, r⟩ := hs; exact ⟨b, vs, e, e', e0, ⟨ek.1, ek.2.mono (fun c x _ => ⟨n c x, rfl⟩) fun _ x => x⟩, r.mono (fun c x _ => ⟨n c x, rfl⟩) fun _ x => x⟩) (fun j b t hj g1 g2 g3 g4 g5 => by
   cases g4
   exact hj (k.inj j i a t s₀ g1 h1 g2 h2 g5 h3)) (fun b e => by
   by_cases hb : b = a
   ·subst hb; rw [aq] at e; cases e
   ·rw [ao hb] at e; exact e) (fun b z => by
   by_cases hb : b = a
   ·subst hb; exact (hza z).elim
   ·have e := k.zl b z
    rw [ao hb]; exact e) (fun b _ e => by cases e; exact hza)
 rw [e3] at q
 refine ⟨q, fun b x e => ⟨ao (ne b x), n b x⟩, fun b e => ?_, fun b z e => ao fun y => hza (by rw [<- y]; exact z)⟩
 by_cases hb : b = a
 ·subst hb; rw [aq] at e; cases e
 ·rw [ao hb] at e; exact e
theorem OK.chg (k : OK K H0 Z σ H S) {i : Nat} {a : Addr} {s₀ s : Sl} {o : HO} (h1 : S[i]? = some s₀) (h2 : s₀.mut = true) (h3 : σ[i]? = some (some (.ref a))) (ho : ∃ us, o = .lst us) (hm : s.mut = true) (hs : nu K H0 (NM Z σ S) (upd H a o) (some (.ref a)) s) :
  OK K H0 Z σ (upd H a o) (S.set i s) /\ Step Z σ S H σ (S.set i s) (upd H a o) := k.chgD h1 h2 h3 hm hs
end
structure aW where
 nx : List Sl -> Prop
 rt : D -> List Sl -> Prop
 bk : List Sl -> Prop := fun _ => False
 ct : List Sl -> Prop := fun _ => False
abbrev VTS := aW -> List Sl -> Prop
def NP (σ : St) (S : List Sl) : AP := fun a => ∀ (i : Nat) (ad : Option Addr) (ns : List Int), S[i]? = some (.pen ad ns) -> σ[i]? ≠ some (some (V.ref a))
structure Lf (K : PySem.W.Frag) (H0 : Hp) (Z : AP) (σ : St) (S : List Sl) (H : Hp) (V : aW) (E : Ends) : Prop where
 nx : ∀ σ' H' S', OK K H0 Z σ' H' S' -> Step Z σ S H σ' S' H' -> V.nx S' -> E.nx σ' H'
 bk : ∀ σ' H' S', OK K H0 Z σ' H' S' -> Step Z σ S H σ' S' H' -> V.bk S' -> E.bk σ' H'
 ct : ∀ σ' H' S', OK K H0 Z σ' H' S' -> Step Z σ S H σ' S' H' -> V.ct S' -> E.ct σ' H'
 rt : ∀ v d σ' H' S', OK K H0 Z σ' H' S' -> Step Z σ S H σ' S' H' -> Rep K (NP σ' S') (Fr H0) H' v d -> V.rt d S' -> E.rt v H'
theorem Lf.step {H0 H H1 : Hp} {σ σ1 : St} {S S1 : List Sl} {V : aW} {E : Ends} (l : Lf K H0 Z σ S H V E) (st : Step Z σ S H σ1 S1 H1) : Lf K H0 Z σ1 S1 H1 V E :=
 ⟨fun _ _ _ k s => l.nx _ _ _ k (st.trans s), fun _ _ _ k s => l.bk _ _ _ k (st.trans s), fun _ _ _ k s => l.ct _ _ _ k (st.trans s), fun _ _ _ _ _ k s => l.rt _ _ _ _ _ k (st.trans s)⟩
def xq (K : PySem.W.Frag) (ts : TS) (t : VTS) : Prop := ∀ H0 Z σ H S V E, OK K H0 Z σ H S -> t V S -> Lf K H0 Z σ S H V E -> ts E σ H
structure VS (K : PySem.W.Frag) (X : Cx) (st : Stmt) (ts : TS) (t : VTS) : Prop where
 ps : PS X st ts
 snd : xq K ts t
structure VSs (K : PySem.W.Frag) (X : Cx) (st : List Stmt) (ts : TS) (t : VTS) : Prop where
 ps : PSs X st ts
 snd : xq K ts t
inductive Wk : List Sl -> List Sl -> Prop where
 | nil : Wk [] []
 | keep {s : Sl} {S S' : List Sl} : Wk S S' -> Wk (s :: S) (s :: S')
 | fz {ds : List D} {S S' : List Sl} : Wk S S' -> Wk (.own ds :: S) (.val (.lst ds) :: S')
 | fd {ks : List (List Int)} {ds : List D} {S S' : List Sl} : Wk S S' -> Wk (.odi ks ds :: S) (.val (.dic ks ds) :: S')
 | drop {s : Sl} {S S' : List Sl} : Wk S S' -> Wk (s :: S) (.no :: S')
theorem Wk.refl : ∀ S, Wk S S
 | [] => .nil
 | _ :: r => .keep (Wk.refl r)
theorem Wk.len {S S' : List Sl} (h : Wk S S') : S.length = S'.length := by induction h <;> simp_all
theorem Wk.at_ {S S' : List Sl} (h : Wk S S') : ∀ {i : Nat} {s : Sl}, S'[i]? = some s -> ∃ s₀, S[i]? = some s₀ /\ (s = s₀ \/ s = .no \/ (∃ ds, s₀ = .own ds /\ s = .val (.lst ds)) \/ ∃ ks ds, s₀ = .odi ks ds /\ s = .val (.dic ks ds)) := by
 induction h with
 | nil => intro i s h; simp at h
 | keep h ih =>
  intro i s e
  cases i with
  | zero => simp at e; subst e; exact ⟨_, rfl, .inl rfl⟩
  | succ i => simpa using ih (i := i) (by simpa using e)
 | fz h ih =>
  intro i s e
  cases i with
  | zero => simp at e; subst e; exact ⟨_, rfl, .inr (.inr (.inl ⟨_, rfl, rfl⟩))⟩
  | succ i => simpa using ih (i := i) (by simpa using e)
 | fd h ih =>
  intro i s e
  cases i with
  | zero => simp at e; subst e; exact ⟨_, rfl, .inr (.inr (.inr ⟨_, _, rfl, rfl⟩))⟩
  | succ i => simpa using ih (i := i) (by simpa using e)
 | drop h ih =>
  intro i s e
  cases i with
  | zero => simp at e; subst e; exact ⟨_, rfl, .inr (.inl rfl)⟩
  | succ i => simpa using ih (i := i) (by simpa using e)
theorem Wk.mut {S S' : List Sl} (h : Wk S S') {i : Nat} {s : Sl} (e : S'[i]? = some s) (m : s.mut = true) : S[i]? = some s := by
 obtain ⟨s₀, h1, rfl | rfl | ⟨ds, rfl, rfl⟩ | ⟨ks, ds, rfl, rfl⟩⟩ := h.at_ e
 ·exact h1
 ·cases m
 ·cases m
 ·cases m
theorem OK.wk {H H0 : Hp} {S S' : List Sl} (k : OK K H0 Z σ H S) (w : Wk S S') : OK K H0 Z σ H S' /\ Step Z σ S H σ S' H := by
 have n : ∀ a, NM Z σ S a -> NM Z σ S' a := fun a x z => by
  rcases z with ⟨i, s, h1, h2, h3⟩ | z
  ·exact x (.inl ⟨i, s, w.mut h1 h2, h2, h3⟩)
  ·exact x (.inr z)
 refine ⟨⟨by rw [k.len, w.len], fun i o s h1 h2 => ?_, fun i j a s t h1 h2 m1 m2 h3 h4 => k.inj i j a s t (w.mut h1 m1) (w.mut h2 m2) m1 m2 h3 h4, k.dom, k.zl, fun i s a h1 m h3 => k.nz i s a (w.mut h1 m) m h3⟩, fun a x _ => ⟨rfl, n a x⟩, fun _ e => e, fun _ _ _ => rfl⟩
 obtain ⟨s₀, e, rfl | rfl | ⟨ds, rfl, rfl⟩ | ⟨ks, ds, rfl, rfl⟩⟩ := w.at_ h2
 ·have q := k.at_ i o s h1 e
  cases s with
  | no => trivial
  | val d => obtain ⟨v, e, r⟩ := q; exact ⟨v, e, r.mono (fun a x _ => ⟨n a x, rfl⟩) fun _ x => x⟩
  | fre d => obtain ⟨v, e, r⟩ := q; exact ⟨v, e, r.mono (fun a x _ => ⟨n a x, rfl⟩) fun _ x => x⟩
  | own ds => obtain ⟨a, vs, e, e', e0, r⟩ := q; exact ⟨a, vs, e, e', e0, r.mono (fun a x _ => ⟨n a x, rfl⟩) fun _ x => x⟩
  | pen ad ns => exact q
  | odi ks ds => obtain ⟨a, vs, e, e', e0, ek, r⟩ := q; exact ⟨a, vs, e, e', e0, ⟨ek.1, ek.2.mono (fun a x _ => ⟨n a x, rfl⟩) fun _ x => x⟩, r.mono (fun a x _ => ⟨n a x, rfl⟩) fun _ x => x⟩
  | obj k => obtain ⟨a, e, e0, r⟩ := q; exact ⟨a, e, e0, k.mono (fun a x _ => ⟨n a x, rfl⟩) rfl r⟩
 ·trivial
 ·obtain ⟨a, vs, e1, e2, e3, r⟩ := k.at_ i o _ h1 e
  subst e1
  refine ⟨.ref a, rfl, .lst ?_ trivial e2 (r.mono (fun a x _ => ⟨n a x, rfl⟩) fun _ _ => trivial)⟩
  intro z
  rcases z with ⟨j, s, g1, g2, g3⟩ | z
  ·have := k.inj i j a _ s e (w.mut g1 g2) rfl g2 h1 g3
   subst this
   rw [h2] at g1; cases g1; cases g2
  ·exact k.nz i _ a e rfl h1 z
 ·obtain ⟨a, vs, e1, ⟨ob, e2⟩, e3, ek, r⟩ := k.at_ i o _ h1 e
  subst e1
  refine ⟨.ref a, rfl, .dic ?_ trivial e2 ek.1 (ek.2.mono (fun a x _ => ⟨n a x, rfl⟩) fun _ _ => trivial) (r.mono (fun a x _ => ⟨n a x, rfl⟩) fun _ _ => trivial)⟩
  intro z
  rcases z with ⟨j, s, g1, g2, g3⟩ | z
  ·have := k.inj i j a _ s e (w.mut g1 g2) rfl g2 h1 g3
   subst this
   rw [h2] at g1; cases g1; cases g2
  ·exact k.nz i _ a e rfl h1 z
section
variable {K : PySem.W.Frag} {X : Cx} {m : Bool} {e a b c : Expr} {ta tb tc te : TE} {va vb vc : VT} {pos : Pos} {st : Stmt} {rest : List Stmt} {t u : TS} {v w : VTS}
def uR : VTS := fun V S => V.nx S
def zV (t u : VTS) : VTS := fun V S => t { V with nx := fun S' => ∃ S'', Wk S' S'' /\ u V S'' } S
theorem aD : VSs K X [] n9 uR := ⟨lJ, fun H0 Z σ H S V E k h l => l.nx σ H S k .refl h⟩
theorem ak (h : VS K X st t v) : VSs K X [st] t v := ⟨lK h.ps, h.snd⟩
theorem aj (h1 : VS K X st t v) (h2 : VSs K X rest u w) : VSs K X (st :: rest) (oa t u) (zV v w) := ⟨eE h1.ps h2.ps, fun H0 Z σ H S V E k h l =>
 h1.snd H0 Z σ H S _ _ k h ⟨fun σ' H' S' k' st zt1 => by obtain ⟨S'', wk, q⟩ := zt1; exact h2.snd H0 Z σ' H' S'' V E (k'.wk wk).1 q (l.step (st.trans (k'.wk wk).2)), l.bk, l.ct, l.rt⟩⟩
def xr : VTS := fun _ _ => False
theorem oV : VS K X st de xr := ⟨oh, fun _ _ _ _ _ _ _ _ h _ => h.elim⟩
def uS (va : VT) : VTS := fun V S => va S fun _ S1 => V.nx S1
theorem mn (h : VE K X false e te va) (hs : swapsWith e none pos.line X.env = pure false := by rfl) : VS K X (.Expr e pos) (oe te) (uS va) := ⟨lL h.pe hs, fun H0 Z σ H S V E k t l => h.snd H0 Z σ H S _ _ k t fun v H' r S' k' st _ q => l.nx σ H' S' k' st q⟩
def retO : Option Sl -> Option D
 | some (.own ds) => some (.lst ds)
 | some (.odi ks ds) => some (.dic ks ds)
 | _ => none
def retD (S : List Sl) : VR -> Option D
 | .d x => some x
 | .own i => retO S[i]?
def zW (va : VT) : VTS := fun V S => va S fun r S1 => ∃ d, retD S1 r = some d /\ V.rt d S1
theorem OK.ret {H0 H : Hp} {v : V} (k : OK K H0 Z σ H S) (h : d8 K (FM H0 true) Z σ S H v r) (e : retD S r = some d) : Rep K (NP σ S) (Fr H0) H v d := by
 have np : ∀ a, NM Z σ S a -> NP σ S a := fun a n i ad ns h1 h2 => n (.inl ⟨i, _, h1, rfl, h2⟩)
 cases r with
 | d x => cases e; exact Rep.mono (fun a n _ => ⟨np a n, rfl⟩) (fun _ x => x rfl) h
 | own i =>
  have h : σ[i]? = some (some v) := h
  have e : retO S[i]? = some d := e
  cases es : S[i]? with
  | none => rw [es] at e; cases e
  | some s =>
   rw [es] at e
   cases s with
   | fre d => cases e
   | own ds =>
    cases e
    obtain ⟨a, vs, h1, h2, h3, h4⟩ := k.at_ _ _ _ h es
    cases h1
    refine .lst (fun i2 ad ns g1 g2 => ?_) ⟨a, rfl, h3⟩ h2 (h4.mono (fun a n _ => ⟨np a n, rfl⟩) fun _ x => x)
    have := k.inj _ _ a _ _ es g1 rfl rfl h g2
    subst this
    rw [es] at g1; cases g1
   | odi ks ds =>
    cases e
    obtain ⟨a, vs, h1, ⟨ob, h2⟩, h3, hk, h4⟩ := k.at_ _ _ _ h es
    cases h1
    refine .dic (fun i2 ad ns g1 g2 => ?_) ⟨a, rfl, h3⟩ h2 hk.1 (Reps.flat (hk.2.mono (fun a n _ => ⟨np a n, rfl⟩) fun _ x => x) (jQ _)) (h4.mono (fun a n _ => ⟨np a n, rfl⟩) fun _ x => x)
    have := k.inj _ _ a _ _ es g1 rfl rfl h g2
    subst this
    rw [es] at g1; cases g1
   | no => cases e
   | val x => cases e
   | pen a b => cases e
   | obj k => cases e
theorem az (h : VE K X true e te va) : VS K X (.Return (some e) pos) (zp te) (zW va) := ⟨wo h.pe, fun H0 Z σ H S V E k t l => h.snd H0 Z σ H S _ _ k t fun v H' r S' k' st rr zt1 => by obtain ⟨d, e, q⟩ := zt1; exact l.rt v d σ H' S' k' st (k'.ret rr e) q⟩
def zX (c : VTT) (t u : VTS) : VTS := fun V S => c S fun b S1 => if b = true then t V S1 else u V S1
theorem ba {A B : List Stmt} {tA : TT} {wA : VTT} (hc : VTe K X c tA wA) (ha : VSs K X A t v) (hb : VSs K X B u w) : VS K X (.If c A B pos) (rP tA t u) (zX wA v w) := ⟨og hc.pe ha.ps hb.ps, fun H0 Z σ H S V E k t l =>
 hc.snd H0 Z σ H S _ _ k t fun b H1 S1 k1 st1 q => by
  cases b with
  | true => rw [if_pos rfl] at q ⊢; exact ha.snd H0 Z σ H1 S1 V E k1 q (l.step st1)
  | false => rw [if_neg Bool.false_ne_true] at q ⊢; exact hb.snd H0 Z σ H1 S1 V E k1 q (l.step st1)⟩
abbrev VG := D -> List Sl -> (List Sl -> Prop) -> Prop
def SndG (K : PySem.W.Frag) (g : TG) (vg : VG) : Prop := ∀ H0 Z σ H S v d Q C, OK K H0 Z σ H S -> Rep K (NM Z σ S) AnyF H v d -> vg d S Q -> (∀ σ' H' S', OK K H0 Z σ' H' S' -> Step Z σ S H σ' S' H' -> Q S' -> C σ' H') -> g v σ H C
def zY (g : TG) : Prop := ∀ x σ H Q1 Q2, (∀ σ H, Q1 σ H -> Q2 σ H) -> g x σ H Q1 -> g x σ H Q2
def xt (g : TGs) : Prop := ∀ x σ H Q1 Q2, (∀ σ H, Q1 σ H -> Q2 σ H) -> g x σ H Q1 -> g x σ H Q2
structure VGe (K : PySem.W.Frag) (X : Cx) (e : Expr) (g : TG) (vg : VG) : Prop where
 pg : PG X e g
 snd : SndG K g vg
 mono : zY g
def vgN (i : Nat) : VG := fun d S Q => i < S.length /\ Q (S.set i (.val d))
theorem aF {i : Nat} (h : PG X e (bC i)) : VGe K X e (bC i) (vgN i) := ⟨h, fun H0 Z σ H S v d Q C k r zt1 hc => by obtain ⟨hi, q⟩ := zt1; exact hc _ _ _ (k.setVal hi r).1 (k.setVal hi r).2 q, fun _ _ _ _ _ h q => h _ _ q⟩
def zZ (K : PySem.W.Frag) (g : TGs) (vg : List D -> List Sl -> (List Sl -> Prop) -> Prop) : Prop := ∀ H0 Z σ H S vs ds Q C, OK K H0 Z σ H S -> Reps K (NM Z σ S) AnyF H vs ds -> vg ds S Q -> (∀ σ' H' S', OK K H0 Z σ' H' S' -> Step Z σ S H σ' S' H' -> Q S' -> C σ' H') -> g vs σ H C
structure VGs (K : PySem.W.Frag) (X : Cx) (es : List Expr) (g : TGs) (vg : List D -> List Sl -> (List Sl -> Prop) -> Prop) : Prop where
 pg : PGs X es g
 snd : zZ K g vg
 mono : xt g
def uT : List D -> List Sl -> (List Sl -> Prop) -> Prop := fun ds S Q => ds = [] /\ Q S
def oW (t : VG) (u : List D -> List Sl -> (List Sl -> Prop) -> Prop) : List D -> List Sl -> (List Sl -> Prop) -> Prop := fun ds S Q => ∃ d r, ds = d :: r /\ t d S fun S1 => u r S1 Q
theorem eK : VGs K X [] wt uT := ⟨rQ, fun H0 Z σ H S vs ds Q C k r zq1 hc => by obtain ⟨e, q⟩ := zq1; subst e; cases r; exact ⟨rfl, hc _ _ _ k .refl q⟩, fun _ _ _ _ _ h q => ⟨q.1, h _ _ q.2⟩⟩
theorem bh {es : List Expr} {g : TG} {gs : TGs} {vg : VG} {vgs : List D -> List Sl -> (List Sl -> Prop) -> Prop} (h1 : VGe K X e g vg) (h2 : VGs K X es gs vgs) (hs : (assignEach (e :: es) X.env).map (·.2) = assign e X.env :: (assignEach es X.env).map (·.2) := by rfl) :
  VGs K X (e :: es) (lM g gs) (oW vg vgs) := ⟨oi h1.pg h2.pg hs, fun H0 Z σ H S vs ds Q C k r zq1 hc => by
 obtain ⟨d, rd, e, q⟩ := zq1
 subst e
 cases r with
 | cons rv rr => exact ⟨_, _, rfl, h1.snd H0 Z σ H S _ _ _ _ k rv q fun σ1 H1 S1 k1 st1 q1 => h2.snd H0 Z σ1 H1 S1 _ _ _ _ k1 (rr.step st1) q1 fun σ2 H2 S2 k2 st2 q2 => hc _ _ _ k2 (st1.trans st2) q2⟩, fun x σ H Q1 Q2 h zt1 => by obtain ⟨v, r, e, q⟩ := zt1; exact ⟨v, r, e, h1.mono _ _ _ _ _ (fun σ' H' q' => h2.mono _ _ _ _ _ h q') q⟩⟩
def vgT (n : Nat) (u : List D -> List Sl -> (List Sl -> Prop) -> Prop) : VG := fun d S Q => ∃ ds, d = .tup ds /\ ds.length = n /\ u ds S Q
theorem gE {es : List Expr} {kk : Nat} {gs : TGs} {vgs : List D -> List Sl -> (List Sl -> Prop) -> Prop} {n : Nat} (hK : X.K = K) (hc : X.calm = true) (h : VGs K X es gs vgs) (hn : (assignEach es X.env).length = n := by rfl) (hst : (assignEach es X.env).findIdx? (·.1) = none := by rfl) :
  VGe K X (.Tuple es kk pos) (wu K n gs) (vgT n vgs) := ⟨by subst hK; exact wy hc h.pg hn hst, fun H0 Z σ H S v d Q C k r zq1 hcc => by
 obtain ⟨ds, e, hl, q⟩ := zq1
 subst e
 obtain ⟨a, vs, rfl, hq, rr⟩ := r.sqT
 exact ⟨a, vs, rfl, hq, by rw [rr.length]; exact hl, h.snd H0 Z σ H S _ _ _ _ k rr q hcc⟩, fun x σ H Q1 Q2 hh zt1 => by obtain ⟨a, xs, e1, e2, e3, q⟩ := zt1; exact ⟨a, xs, e1, e2, e3, h.mono _ _ _ _ _ hh q⟩⟩
def ny (va : VT) (g : VG) : VTS := fun V S => va S fun r S1 => ∃ d, r = .d d /\ g d S1 V.nx
theorem kW {g : TG} {vg : VG} (ha : SndE K m te va) (hg : SndG K g vg) : xq K (dQ te g) (ny va vg) := fun H0 Z σ H S V E k t l => ha H0 Z σ H S _ _ k t fun v H1 r S1 k1 st1 rr zq1 => by
 obtain ⟨d, e, q⟩ := zq1
 subst e
 exact hg H0 Z σ H1 S1 v d _ _ k1 (Rep.mono (fun _ n _ => ⟨n, rfl⟩) (fun _ _ => trivial) rr) q fun σ2 H2 S2 k2 st2 q2 => l.nx σ2 H2 S2 k2 (st1.trans st2) q2
theorem xu {i : Nat} {x : Str} {pos' : Pos} (ps : ∀ te, PE X e te -> PS X (.Assign [.Name x pos'] e pos) (dQ te (bC i))) (h : VE K X false e te va) : VS K X (.Assign [.Name x pos'] e pos) (dQ te (bC i)) (ny va (vgN i)) :=
 ⟨ps te h.pe, kW h.snd fun H0 Z σ H S v d Q C k r zt1 hc => by obtain ⟨hi, q⟩ := zt1; exact hc _ _ _ (k.setVal hi r).1 (k.setVal hi r).2 q⟩
theorem xw {tg : Expr} {g : TG} {vg : VG} (h : VE K X false e te va) (hg : VGe K X tg g vg) (hs : swapsWithSole [tg] e pos.line X.env = pure false := by rfl) (hw : swappedStores [tg] e X.env = pure none := by rfl)
  (h1 : (assignEach [tg] X.env).map (·.2) = [assign tg X.env] := by rfl) : VS K X (.Assign [tg] e pos) (dQ te g) (ny va vg) := ⟨om h.pe hg.pg hs hw h1, kW h.snd hg.snd⟩
def uU (i : Nat) (t : VTN) : VTS := fun V S => t S fun ds S1 => i < S1.length /\ V.nx (S1.set i (.own ds))
theorem fV {i : Nat} {x : Str} {pos' : Pos} {tn : VTN} (ps : ∀ te, PE X e te -> PS X (.Assign [.Name x pos'] e pos) (dQ te (bC i))) (h : VN K X e te tn) : VS K X (.Assign [.Name x pos'] e pos) (dQ te (bC i)) (uU i tn) :=
 ⟨ps te h.pe, fun H0 Z σ H S V E k t l => h.snd H0 Z σ H S _ _ k t fun a vs ds H1 H' S' k1 st1 ha hg hl rr zq1 => by
  obtain ⟨hi, q⟩ := zq1
  obtain ⟨k2, st2⟩ := k1.setNew (s := .own ds) hi ha hg ⟨a, vs, rfl, hl, k1.dom a ha, rr⟩ rfl
  exact l.nx _ _ _ k2 (st1.trans st2) q⟩
def uV (i : Nat) (t : VTN) : VTS := fun V S => t S fun ds S1 => ∃ ns : List Int, ds = ns.map .int /\ i < S1.length /\ V.nx (S1.set i (.pen none ns))
theorem sM {i : Nat} {x : Str} {pos' : Pos} {tn : VTN} (ps : ∀ te, PE X e te -> PS X (.Assign [.Name x pos'] e pos) (dQ te (bC i))) (h : VN K X e te tn) : VS K X (.Assign [.Name x pos'] e pos) (dQ te (bC i)) (uV i tn) :=
 ⟨ps te h.pe, fun H0 Z σ H S V E k t l => h.snd H0 Z σ H S _ _ k t fun a vs ds H1 H' S' k1 st1 ha hg hl rr zq1 => by
  obtain ⟨ns, e, hi, q⟩ := zq1
  subst e
  obtain ⟨k2, st2⟩ := k1.setNew (s := .pen none ns) hi ha hg ⟨a, rfl, (fun _ z => nomatch z), by rw [<- Reps.toInts rr]; exact hl⟩ rfl
  exact l.nx _ _ _ k2 (st1.trans st2) q⟩
end
end VL
end
section
namespace VL
open PySem L2
section
variable {K : PySem.W.Frag} {X : Cx} {m : Bool} {e a b c : Expr} {ta tb tc te ti : TE} {va vb vc vi : VT} {pos : Pos} {st : Stmt} {rest : List Stmt} {t u : TS} {v w : VTS}
theorem OK.ownAt {H0 H : Hp} (k : OK K H0 Z σ H S) {i : Nat} {s : Sl} (e : S[i]? = some s) : ∃ o, σ[i]? = some o /\ nu K H0 (NM Z σ S) H o s := by
 have hi : i < σ.length := by rw [k.len]; exact (List.getElem?_eq_some_iff.mp e).1
 exact ⟨_, List.getElem?_eq_getElem hi, k.at_ i _ s (List.getElem?_eq_getElem hi) e⟩
def xy (i : Nat) (ve : VT) : VT := fun S Q => (∃ ds, S[i]? = some (.own ds)) /\ ve S fun r S1 => ∃ d ds, r = .d d /\ S1[i]? = some (.own ds) /\ ds.length <= 1000000 /\ Q (.d .non) (S1.set i (.own (ds ++ [d])))
theorem xA {apos : Pos} {o : Expr} (i : Nat) (hK : X.K = K) (ho : PE X o (cY i)) (h : VE K X true e te va) (pe : ∀ te, PE X e te -> PE X (.Call (.Attribute o "append" apos) [e] [] pos) (tBM X.K "list" fR (cY i) (dS te jF))) :
  VE K X m (.Call (.Attribute o "append" apos) [e] [] pos) (tBM K "list" fR (cY i) (dS te jF)) (xy i va) := ⟨by subst hK; exact pe te h.pe, fun H0 Z σ H S Q C k zq1 hc => by
 obtain ⟨⟨ds0, e0⟩, t⟩ := zq1
 obtain ⟨o, h1, a, vs, rfl, h2, h3, h4⟩ := k.ownAt e0
 refine ⟨.ref a, h1, .inl ⟨rfl, vs, .inl (.inl h2)⟩, ?_⟩
 refine h.snd H0 Z σ H S _ _ k t fun x H1 r S1 k1 st1 rr zr1 => ?_
 obtain ⟨d, ds, er, e1, hl, q⟩ := zr1
 subst er
 obtain ⟨o', g1, a', vs', rfl, g2, g3, g4⟩ := k1.ownAt e1
 rw [h1] at g1; cases g1
 refine ⟨a, vs', x, rfl, rfl, g2, by rw [g4.length, sizeLine_eq]; lia, ?_⟩
 have na : NM Z σ S1 a -> False := fun n => n (.inl ⟨i, _, e1, rfl, h1⟩)
 have hm : ∀ b, NM Z σ S1 b -> H1 b ≠ none -> NM Z σ S1 b /\ upd H1 a (.lst (vs' ++ [x])) b = H1 b := fun b n _ => ⟨n, ao fun z => na (by rw [<- z]; exact n)⟩
 obtain ⟨k2, st2⟩ := k1.chg (s := .own (ds ++ [d])) (o := .lst (vs' ++ [x])) e1 rfl h1 ⟨_, rfl⟩ rfl ⟨a, _, rfl, aq, g3, Reps.append (g4.mono hm fun _ x => x) (.cons (Rep.mono hm (fun _ x => x rfl) rr) .nil)⟩
 exact hc .non _ (.d .non) _ k2 (st1.trans st2) Rep.non q⟩
theorem xB {apos : Pos} {o : Expr} (i : Nat) (hK : X.K = K) (ho : PE X o (cY i)) (h : VE K X true e te va) (hbase : attributeBase o "append" X.env (eval o X.env) = eval o X.env := by rfl)
  (hfew : ((backTo pos (starEach (e :: []) X.env)).all (fun x => !x.1) && (backToKw pos (keywordEach [] X.env)).all (fun x => x.1.isSome)
   && decide ((e :: []).length + ([] : List Keyword).length + (if ([] : List Keyword).isEmpty then 0 else 1) < 30)) = true := by rfl)
  (hline : (apos.endLine == pos.line) = true := by rfl) (hs : starEach (e :: []) X.env = (false, eval e X.env) :: starEach [] X.env := by rfl) (hplain : (backTo pos (starEach [] X.env)).any (·.1) = false := by rfl) :
  VE K X m (.Call (.Attribute o "append" apos) [e] [] pos) (tBM K "list" fR (cY i) (dS te jF)) (xy i va) :=
 xA i hK ho h fun te hp => zF PySem.F.plainAttrs_list PySem.F.slot_list_append PySem.F.type_list_append ng ho (bR hp fq hs) hbase hfew hline hs hplain
def oX (i : Nat) (ve vi : VT) : VTS := fun V S => ve S fun r S1 => (∃ s, S1[i]? = some s /\ s.mut = true) /\ vi S1 fun ri S2 => ∃ j, get S2 ri = some (.int j) /\
  ((∃ ad ns k n, S2[i]? = some (.pen ad ns) /\ ixN ns.length j = some k /\ r = .d (.int n) /\ V.nx (S2.set i (.pen ad (ns.set k n)))) \/
   (∃ ds k d, S2[i]? = some (.own ds) /\ ixN ds.length j = some k /\ r = .d d /\ V.nx (S2.set i (.own (ds.set k d)))))
theorem jU {o ie : Expr} {posS : Pos} (i : Nat) (ho : PE X o (cY i)) (h : VE K X true e te va) (hi : VE K X false ie ti vi)
  (ha : ∀ v, assign (.Subscript o ie posS) X.env v = (do
   let ov <- holding [v] (eval o X.env)
   let iv <- holding [v, ov] (eval ie X.env)
   standAt posS
   holding [v, ov, iv] (setItem ov iv v)
   release [v, ov, iv] []) := by intro _; rfl)
  (hs : swapsWithSole [.Subscript o ie posS] e pos.line X.env = pure false := by rfl) (hw : swappedStores [.Subscript o ie posS] e X.env = pure none := by rfl)
  (h1 : (assignEach [.Subscript o ie posS] X.env).map (·.2) = [assign (.Subscript o ie posS) X.env] := by rfl) :
  VS K X (.Assign [.Subscript o ie posS] e pos) (dQ te (wz (cY i) ti oE)) (oX i va vi) := ⟨om h.pe (wC ho hi.pe set_list ha) hs hw h1, fun H0 Z σ H S V E k t l => by
 refine h.snd H0 Z σ H S _ _ k t fun x H1 r S1 k1 st1 rr zr1 => ?_
 obtain ⟨⟨s1, em, hm1⟩, q⟩ := zr1
 -- the slot's address stays: σ is one
 have fin : ∀ (p : Addr), σ[i]? = some (some (.ref p)) -> wz (cY i) ti oE x σ H1 E.nx := fun p hp => by
  refine ⟨.ref p, hp, hi.snd H0 Z σ H1 S1 _ _ k1 q fun y H2 ri S2 k2 st2 r2 zr1 => ?_⟩
  obtain ⟨j, ej, q2⟩ := zr1
  cases r2.get k2 ej
  have rr2 := rr.step st2
  rcases q2 with ⟨ad, ns, kk, n, e1, e2, er, q2⟩ | ⟨ds, kk, d, e1, e2, er, q2⟩
  ·subst er
   cases (show Rep K _ _ H2 x (.int n) from rr2)
   obtain ⟨o', g1, a', rfl, g2, g3⟩ := k2.ownAt e1
   rw [hp] at g1; cases g1
   refine ⟨p, _, j, kk, rfl, rfl, g3, by rw [List.length_map]; exact e2, ?_⟩
   obtain ⟨k3, st3⟩ := k2.chg (s := .pen ad (ns.set kk n)) (o := .lst ((ns.map L2.V.int).set kk (.int n))) e1 rfl hp ⟨_, rfl⟩ rfl ⟨p, rfl, g2, by rw [aq, List.map_set]⟩
   exact l.nx _ _ _ k3 ((st1.trans st2).trans st3) q2
  ·subst er
   obtain ⟨o', g1, a', vs, rfl, g2, g3, g4⟩ := k2.ownAt e1
   rw [hp] at g1; cases g1
   refine ⟨p, _, j, kk, rfl, rfl, g2, by rw [g4.length]; exact e2, ?_⟩
   have na : NM Z σ S2 p -> False := fun n => n (.inl ⟨i, _, e1, rfl, hp⟩)
   have hm : ∀ b, NM Z σ S2 b -> H2 b ≠ none -> NM Z σ S2 b /\ upd H2 p (.lst (vs.set kk x)) b = H2 b := fun b n _ => ⟨n, ao fun z => na (by rw [<- z]; exact n)⟩
   obtain ⟨k3, st3⟩ := k2.chg (s := .own (ds.set kk d)) (o := .lst (vs.set kk x)) e1 rfl hp ⟨_, rfl⟩ rfl ⟨p, _, rfl, aq, g3, Reps.set (Rep.mono hm (fun _ x => x rfl) rr2) kk (g4.mono hm fun _ x => x)⟩
   exact l.nx _ _ _ k3 ((st1.trans st2).trans st3) q2
 -- which address it is: look once
 obtain ⟨o1, g1, g2⟩ := k1.ownAt em
 cases s1 with
 | no => cases hm1
 | val d => cases hm1
 | fre d => cases hm1
 | own ds => obtain ⟨p, _, rfl, _⟩ := g2; exact fin p g1
 | pen ad ns => obtain ⟨p, rfl, _⟩ := g2; exact fin p g1
 | odi ks ds => obtain ⟨p, _, rfl, _⟩ := g2; exact fin p g1
 | obj k => obtain ⟨p, rfl, _⟩ := g2; exact fin p g1⟩
def pick : List VR -> Nat -> Option (Nat × List VR)
 | .own i :: r, 0 => some (i, r)
 | x :: r, j + 1 => (pick r j).map fun p => (p.1, x :: p.2)
 | _, _ => none
def xC (j : Nat) (p : List Int -> List D -> (D -> List Int -> Prop) -> Prop) (vr : VTA) : VT := fun S Q => vr S fun rs S1 => ∃ i rs' ad ns ds, pick rs j = some (i, rs') /\ S1[i]? = some (.pen ad ns) /\ allD rs' = some ds /\ p ns ds fun d ns' => Q (.d d) (S1.set i (.pen ad ns'))
theorem bQ.pick : ∀ {j : Nat} {vs : List V} {rs : List VR} {i : Nat} {rs' : List VR}, bQ K F Z σ S H vs rs -> VL.pick rs j = some (i, rs') -> ∃ v ws us, vs = ws ++ v :: us /\ ws.length = j /\ σ[i]? = some (some v) /\ bQ K F Z σ S H (ws ++ us) rs' /\ ws.length <= (ws ++ us).length
 | 0, _, _, i, rs', .cons (r := r) h t, e => by
  cases r with
  | d x => cases e
  | own k => cases e; exact ⟨_, [], _, rfl, rfl, h, t, by simp⟩
 | j + 1, _, _, i, rs', .cons (r := r) (rs := rs) h t, e => by
  have e' : (VL.pick rs j).map (fun p => (p.1, r :: p.2)) = some (i, rs') := by cases r <;> exact e
  obtain ⟨⟨i', q⟩, h1, h2⟩ := Option.map_eq_some_iff.mp e'
  cases h2
  obtain ⟨v, ws, us, rfl, hl, hs, rr, _⟩ := bQ.pick t h1
  exact ⟨v, _ :: ws, us, rfl, by simp [hl], hs, .cons h rr, by simp⟩
 | _, _, _, _, _, .nil, e => by cases e
theorem Reps.splitAt {N : AP} : ∀ {ws us : List V} {ds : List D}, Reps K N F H (ws ++ us) ds -> ∃ d1 d2, ds = d1 ++ d2 /\ Reps K N F H ws d1 /\ Reps K N F H us d2
 | [], us, ds, h => ⟨[], ds, rfl, .nil, h⟩
 | w :: ws, us, _, .cons h t => by
  obtain ⟨d1, d2, rfl, h1, h2⟩ := Reps.splitAt (ws := ws) t
  exact ⟨_ :: d1, d2, rfl, .cons h h1, h2⟩
section
variable {es : List Expr} {tr : TA} {vr : VTA} {x : Str} {p0 : Pos} {j k : Nat} {ps : List Str}
theorem bw {jj : Nat} {p : List Int -> List D -> (D -> List Int -> Prop) -> Prop} (E : Has X.prog X.w X.K X.mg X.base k x ps (spI K jj p)) (hr : aQ j X.A) (ha : VA K X false (e :: es) tr vr)
  (hk : k <= j := by decide) (hg : Gl X x := by rfl) (hdb : (x == ("__debug__" : Str)) = false := by decide) (he : starEach (e :: es) X.env = (false, eval e X.env) :: starEach es X.env := by rfl)
  (hpl : (backTo pos (starEach es X.env)).any (·.1) = false := by rfl) : VE K X m (.Call (.Name x p0) (e :: es) [] pos) (dU (spI K jj p) [] E0 tr) (xC jj p vr) := ⟨oG E hr ha.pe hk hg hdb he hpl, fun H0 Z σ H S Q C k t hc =>
 ha.snd H0 Z σ H S _ _ k t fun vs H1 rs S1 k1 st1 rrs zq1 => by
  obtain ⟨i, rs', ad, ns, ds, e1, e2, e3, q⟩ := zq1
  obtain ⟨v, ws, us, rfl, hl, hs, rr, _⟩ := rrs.pick e1
  obtain ⟨o, g1, a, rfl, g2, g3⟩ := k1.ownAt e2
  rw [hs] at g1; cases g1
  have ma : Mo Z σ S1 a := .inl ⟨i, _, e2, rfl, hs⟩
  obtain ⟨d1, d2, rfl, r1, r2⟩ := Reps.splitAt (rr.allD e3)
  have hm : ∀ b, NM Z σ S1 b -> H1 b ≠ none -> b ≠ a /\ H1 b = H1 b := fun b n _ => ⟨fun z => n (by rw [z]; exact ma), rfl⟩
  refine ⟨a, ws, us, ns, d1, d2, _, by rw [List.append_nil], hl, g3, r1.mono hm fun _ _ => trivial, r2.mono hm fun _ _ => trivial, q, fun d ns' v H' q g ga rv => ?_⟩
  -- the pen changed, and the heap grown
  have hG : ∀ b, upd H1 a (.lst (ns'.map V.int)) b ≠ none -> H' b = upd H1 a (.lst (ns'.map V.int)) b := fun b hb => by
   by_cases hba : b = a
   ·subst hba; rw [aq]; exact ga
   ·rw [ao hba] at hb ⊢; exact g b hba hb
  obtain ⟨k2, st2⟩ := k1.chg (s := .pen ad ns') (o := .lst (ns'.map V.int)) e2 rfl hs ⟨_, rfl⟩ rfl ⟨a, rfl, g2, aq⟩
  have k3 := k2.grow hG
  refine hc v H' (.d d) _ k3 ((st1.trans st2).trans (.grow hG)) (show Rep K _ _ H' v d from ?_) q
  refine (Rep.avoid (N' := NM Z σ (S1.set i (.pen ad ns'))) (fun b z => k3.mo (Classical.not_not.mp z)) (fun b zr1 => ?_) rv).mono (fun _ n _ => ⟨n, rfl⟩) (fun o zt1 _ => by obtain ⟨c, ec, f⟩ := zt1; exact ⟨c, ec, k1.dom c f⟩)
  obtain ⟨c, ec, f⟩ := zr1
  cases ec
  refine k2.nm ?_
  rw [ao]
  ·exact f
  ·intro z; subst z; rw [g3] at f; cases f⟩
end
end
end VL
end
section
namespace VL
open PySem L2
def Gd (K : PySem.W.Frag) (Z : AP) (J : It) (ds : List D) (σ : St) (S : List Sl) (H : Hp) : Prop := ∀ σ2 S2 H2, (∀ p, H2 p = none -> NM Z σ2 S2 p) -> Step Z σ S H σ2 S2 H2 -> ∀ i, (i < ds.length -> J.go i H2) /\ (∀ x H3, J.yld i H2 x H3 -> i < ds.length -> (∀ a, H2 a ≠ none -> H3 a = H2 a) /\ ∃ d, ds[i]? = some d /\ Rep K (NM Z σ2 S2) AnyF H3 x d) /\ (i = ds.length -> J.stop i H2)
def B3 (K : PySem.W.Frag) (wi : TI) (vi : VTN) : Prop := ∀ H0 Z σ H S Q C, OK K H0 Z σ H S -> vi S Q -> (∀ J ds H' S', OK K H0 Z σ H' S' -> Step Z σ S H σ S' H' -> Gd K Z J ds σ S' H' -> Q ds S' -> C J H') -> wi σ H C
structure VI (K : PySem.W.Frag) (X : Cx) (tg e : Expr) (wi : TI) (vi : VTN) : Prop where
 pi : PI X tg e wi
 snd : B3 K wi vi
section
variable {K : PySem.W.Frag} {X : Cx} {m : Bool} {e a b c tg : Expr} {ta tb tc te ti : TE} {va vb vc : VT} {pos : Pos} {st : Stmt} {rest : List Stmt} {t u : TS} {v w : VTS}
def Aa (va : VT) : VTN := fun S Q => va S fun r S1 => ∃ ds, r = .d (.lst ds) /\ Q ds S1
def Ab (va : VT) : VTN := fun S Q => va S fun r S1 => ∃ ds, r = .d (.tup ds) /\ Q ds S1
theorem cQ (hK : X.K = K) (h : VE K X false e te va) : VI K X tg e (uI K te) (Aa va) := ⟨by subst hK; exact rR h.pe, fun H0 Z σ H S Q C k t hc => h.snd H0 Z σ H S _ _ k t fun v H1 r S1 k1 st1 rr zq1 => by
 obtain ⟨ds, e, q⟩ := zq1
 subst e
 have rr : Rep K _ _ H1 v (.lst ds) := rr
 obtain ⟨a, vs, rfl, hq, _⟩ := rr.sqL
 refine ⟨a, rfl, ⟨vs, hq⟩, hc _ ds H1 S1 k1 st1 (fun σ2 S2 H2 _ st2 i => ?_) q⟩
 obtain ⟨a', vs', e, hq2, r2⟩ := (rr.step st2).sqL
 cases e
 refine ⟨fun hi => ?_, fun x H3 hy hi => ?_, fun hi => ⟨vs', hq2, by rw [r2.length]; lia⟩⟩
 ·obtain ⟨v, h1, _⟩ := r2.getD (List.getElem?_eq_getElem hi)
  exact ⟨vs', v, hq2, h1⟩
 ·obtain ⟨e, h2⟩ := hy
  obtain ⟨d, h3, h4⟩ := r2.get (h2 vs' hq2)
  exact ⟨fun _ _ => by rw [e], d, h3, h4.mono (fun _ n _ => ⟨n, by rw [e]⟩) fun _ _ => trivial⟩⟩
theorem xD (hK : X.K = K) (h : VE K X false e te va) : VI K X tg e (zt K te) (Ab va) := ⟨by subst hK; exact wD h.pe, fun H0 Z σ H S Q C k t hc => h.snd H0 Z σ H S _ _ k t fun v H1 r S1 k1 st1 rr zq1 => by
 obtain ⟨ds, e, q⟩ := zq1
 subst e
 have rr : Rep K _ _ H1 v (.tup ds) := rr
 obtain ⟨a, vs, rfl, hq, _⟩ := rr.sqT
 refine ⟨a, rfl, ⟨vs, hq⟩, hc _ ds H1 S1 k1 st1 (fun σ2 S2 H2 _ st2 i => ?_) q⟩
 obtain ⟨a', vs', e, hq2, r2⟩ := (rr.step st2).sqT
 cases e
 refine ⟨fun hi => ?_, fun x H3 hy hi => ?_, fun hi => ⟨vs', hq2, by rw [r2.length]; lia⟩⟩
 ·obtain ⟨v, h1, _⟩ := r2.getD (List.getElem?_eq_getElem hi)
  exact ⟨vs', v, hq2, h1⟩
 ·obtain ⟨e, h2⟩ := hy
  obtain ⟨d, h3, h4⟩ := r2.get (h2 vs' hq2)
  exact ⟨fun _ _ => by rw [e], d, h3, h4.mono (fun _ n _ => ⟨n, by rw [e]⟩) fun _ _ => trivial⟩⟩
def rg (lo : Int) (n : Nat) : List D := (List.range n).map fun (i : Nat) => D.int (lo + (i : Int))
theorem fC (lo : Int) (n : Nat) : (rg lo n).length = n := by simp [rg]
theorem oY {lo : Int} {n i : Nat} (h : i < n) : (rg lo n)[i]? = some (.int (lo + (i : Int))) := by simp [rg, h]
theorem oZ {lo : Int} {n : Nat} : Gd K Z (Itr lo n) (rg lo n) σ S H := fun σ2 S2 H2 _ st2 i => by
 rw [fC]
 refine ⟨fun h => h, fun x H3 zt1 hi => by obtain ⟨e, hx⟩ := zt1; exact ⟨fun _ _ => by rw [e], _, oY hi, by rw [hx]; exact .int _⟩, fun h => by rw [h]; exact Nat.le_refl _⟩
section
variable {tr : TA} {vr : VTA} {p : Pos}
def Ac (vr : VTA) : VTN := fun S Q => vr S fun rs S1 => ∃ j : Int, rs = [.d (.int j)] /\ -(2 ^ 62) <= j /\ j < 2 ^ 62 /\ Q (rg 0 j.toNat) S1
def Ad (vr : VTA) : VTN := fun S Q => vr S fun rs S1 => ∃ i j : Int, rs = [.d (.int i), .d (.int j)] /\ (-(2 ^ 62) <= i /\ i < 2 ^ 62 /\ -(2 ^ 62) <= j /\ j < 2 ^ 62) /\ Q (rg i (j - i).toNat) S1
theorem dJ (hg : Gl X "range") (hm : X.mg "range" = none) (ha : VA K X false [a] tr vr) (hs : starEach [a] X.env = [(false, eval a X.env)] := by rfl) : VI K X tg (.Call (.Name "range" p) [a] [] pos) (uJ tr) (Ac vr) := ⟨m3 hg hm ha.pe hs, fun H0 Z σ H S Q C k t hc =>
 ha.snd H0 Z σ H S _ _ k t fun vs H1 rs S1 k1 st1 rrs zq1 => by
  obtain ⟨j, e, h1, h2, q⟩ := zq1
  subst e
  cases rrs with
  | cons r t =>
   cases t
   cases (show Rep K _ _ H1 _ (.int j) from r)
   exact ⟨j, rfl, h1, h2, hc _ _ H1 S1 k1 st1 oZ q⟩⟩
theorem nA (hg : Gl X "range") (hm : X.mg "range" = none) (ha : VA K X false [a, b] tr vr) (hs : starEach [a, b] X.env = [(false, eval a X.env), (false, eval b X.env)] := by rfl) (hs2 : starEach [b] X.env = [(false, eval b X.env)] := by rfl) : VI K X tg (.Call (.Name "range" p) [a, b] [] pos) (uK tr) (Ad vr) := ⟨m4 hg hm ha.pe hs hs2, fun H0 Z σ H S Q C k t hc =>
 ha.snd H0 Z σ H S _ _ k t fun vs H1 rs S1 k1 st1 rrs zq1 => by
  obtain ⟨i, j, e, h1, q⟩ := zq1
  subst e
  cases rrs with
  | cons r t =>
   cases t with
   | cons r' t =>
    cases t
    cases (show Rep K _ _ H1 _ (.int i) from r)
    cases (show Rep K _ _ H1 _ (.int j) from r')
    exact ⟨i, j, rfl, h1, hc _ _ H1 S1 k1 st1 oZ q⟩⟩
end
def runFor (vg : VG) (vb : VTS) (V : aW) : List D -> List Sl -> Prop
 | [] => V.nx
 | d :: r => fun S => vg d S fun S3 => vb ⟨runFor vg vb V r, V.rt, V.nx, runFor vg vb V r⟩ S3
def Ae (vi : VTN) (vg : VG) (vb : VTS) : VTS := fun V S => vi S fun ds S1 => runFor vg vb V ds S1 \/ ∃ Iv : Nat -> List Sl -> Prop, Iv 0 S1 /\ (∀ i d S2, ds[i]? = some d -> Iv i S2 -> vg d S2 fun S3 => vb { V with nx := Iv (i + 1), ct := Iv (i + 1), bk := V.nx } S3) /\ ∀ S2, Iv ds.length S2 -> V.nx S2
theorem d9 {body : List Stmt} {wi : TI} {vi : VTN} {g : TG} {vg : VG} (hp : PassesOwn (model X.prog X.w) X.A X.env X.xe) (hc : X.calm = true) (hi : VI K X tg e wi vi) (hg : VGe K X tg g vg) (hb : VSs K X body t v) (hs : ∀ x, foldedSetIterable e X.env x = pure x := by intro _; rfl) :
  VS K X (.For tg e body [] pos) (zu wi g t) (Ae vi vg v) := ⟨wF hp hc hi.pi hg.pg hb.ps hs, fun H0 Z σ H S V E k t l => hi.snd H0 Z σ H S _ _ k t fun J ds H1 S1 k1 st1 gd hh => by
 rcases hh with hr | ⟨Iv, i0, hs, hd⟩
 ·refine ⟨fun i m σ H => m = ds.length - i /\ i <= ds.length /\ ∃ S2, OK K H0 Z σ H S2 /\ Step Z _ S1 H1 σ S2 H /\ runFor vg v V (ds.drop i) S2, ⟨ds.length, by simp, Nat.zero_le _, S1, k1, .refl, by simpa using hr⟩, ?_⟩
  rintro i m σ2 H2 ⟨rfl, hi, S2, k2, st2, p⟩
  obtain ⟨g1, g2, g3⟩ := gd σ2 S2 H2 (fun _ => k2.nm) st2 i
  by_cases hlt : i < ds.length
  ·rw [List.drop_eq_getElem_cons hlt] at p
   refine .inr ⟨g1 hlt, fun σ' H' => ∃ S', OK K H0 Z σ' H' S' /\ Step Z σ S1 H1 σ' S' H' /\ runFor vg v V (ds.drop (i + 1)) S', fun σ' H' p' => ⟨ds.length - (i + 1), by lia, rfl, hlt, p'⟩, fun x H3 y => ?_⟩
   obtain ⟨hgr, d, hd', rd⟩ := g2 x H3 y hlt
   replace k2 := k2.grow hgr
   replace st2 := st2.trans (.grow hgr)
   rw [List.getElem?_eq_getElem hlt] at hd'
   cases hd'
   refine hg.snd H0 Z σ2 H3 S2 x _ _ _ k2 rd p fun σ4 H4 S4 k4 st4 q4 => ?_
   refine hb.snd H0 Z σ4 H4 S4 _ _ k4 q4 ⟨fun σ' H' S' k' s' q' => ⟨S', k', (st2.trans st4).trans s', q'⟩, fun σ' H' S' k' s' q' => l.nx σ' H' S' k' (((st1.trans st2).trans st4).trans s') q', fun σ' H' S' k' s' q' => ⟨S', k', (st2.trans st4).trans s', q'⟩, fun v d σ' H' S' k' s' r' q' => l.rt v d σ' H' S' k' (((st1.trans st2).trans st4).trans s') r' q'⟩
  ·have e : i = ds.length := by lia
   rw [e, List.drop_length] at p
   exact .inl ⟨g3 e, l.nx _ _ _ k2 (st1.trans st2) p⟩
 refine ⟨fun i m σ H => m = ds.length - i /\ i <= ds.length /\ ∃ S2, OK K H0 Z σ H S2 /\ Step Z _ S1 H1 σ S2 H /\ Iv i S2, ⟨ds.length, by simp, Nat.zero_le _, S1, k1, .refl, i0⟩, ?_⟩
 rintro i m σ2 H2 ⟨rfl, hi, S2, k2, st2, p⟩
 obtain ⟨g1, g2, g3⟩ := gd σ2 S2 H2 (fun _ => k2.nm) st2 i
 by_cases hlt : i < ds.length
 ·refine .inr ⟨g1 hlt, fun σ' H' => ∃ S', OK K H0 Z σ' H' S' /\ Step Z σ S1 H1 σ' S' H' /\ Iv (i + 1) S', fun σ' H' p' => ⟨ds.length - (i + 1), by lia, rfl, hlt, p'⟩, fun x H3 y => ?_⟩
  obtain ⟨hgr, d, hd', rd⟩ := g2 x H3 y hlt
  replace k2 := k2.grow hgr
  replace st2 := st2.trans (.grow hgr)
  refine hg.snd H0 Z σ2 H3 S2 x d _ _ k2 rd (hs i d S2 hd' p) fun σ4 H4 S4 k4 st4 q4 => ?_
  refine hb.snd H0 Z σ4 H4 S4 _ _ k4 q4 ⟨fun σ' H' S' k' s' q' => ⟨S', k', (st2.trans st4).trans s', q'⟩, fun σ' H' S' k' s' q' => l.nx σ' H' S' k' (((st1.trans st2).trans st4).trans s') q', fun σ' H' S' k' s' q' => ⟨S', k', (st2.trans st4).trans s', q'⟩, fun v d σ' H' S' k' s' r' q' => l.rt v d σ' H' S' k' (((st1.trans st2).trans st4).trans s') r' q'⟩
 ·have e : i = ds.length := by lia
  exact .inl ⟨g3 e, l.nx _ _ _ k2 (st1.trans st2) (hd S2 (by rw [<- e]; exact p))⟩⟩
end
def bE (n : Nat) (ix : List Nat) (S : List Sl) : List Sl := List.replicate n .no ++ ix.map fun i => (S[i]?).getD .no
def jV (s t : Sl) : Sl := if s.mut then (if t.mut then t else .no) else s
def bt (n : Nat) (ix : List Nat) (T : List Sl) : Nat -> List Sl -> List Sl
 | _, [] => []
 | k, s :: r => (match ix.idxOf? k with | some j => jV s ((T[n + j]?).getD .no) | none => s) :: bt n ix T (k + 1) r
def backS (n : Nat) (ix : List Nat) (S T : List Sl) : List Sl := bt n ix T 0 S
def Zin (Z : AP) (ix : List Nat) (σ : St) (S : List Sl) : AP := fun a => Z a \/ ∃ (i : Nat) (s : Sl), i ∉ ix /\ S[i]? = some s /\ s.mut = true /\ σ[i]? = some (some (V.ref a))
section
variable {K : PySem.W.Frag} {H H' H0 : Hp} {Z : AP} {σ σ' : St} {S T : List Sl} {n : Nat} {ix : List Nat}
theorem gF (k : Nat) : (bt n ix T k S).length = S.length := by
 induction S generalizing k with
 | nil => rfl
 | cons s r ih => simp [bt, ih]
theorem sN (k : Nat) {i : Nat} {s : Sl} (h : S[i]? = some s) : (bt n ix T k S)[i]? = some (match ix.idxOf? (k + i) with | some j => jV s ((T[n + j]?).getD .no) | none => s) := by
 induction S generalizing k i with
 | nil => simp at h
 | cons s' r ih =>
  cases i with
  | zero => simp at h; subst h; rfl
  | succ i =>
   simp at h
   simp only [bt, List.getElem?_cons_succ]
   rw [ih (k + 1) h, show k + 1 + i = k + (i + 1) by lia]
theorem jk {j : Nat} {s : Sl} (h : (bE n ix S)[j]? = some s) (m : s.mut = true) : ∃ k i, j = n + k /\ ix[k]? = some i /\ S[i]? = some s := by
 unfold bE at h
 by_cases hj : j < n
 ·rw [List.getElem?_append_left (by simpa using hj)] at h
  simp [hj] at h
  subst h; cases m
 ·rw [List.getElem?_append_right (by simp; lia)] at h
  simp only [List.length_replicate, List.getElem?_map] at h
  cases hk : ix[j - n]? with
  | none => rw [hk] at h; cases h
  | some i =>
   rw [hk] at h
   simp at h
   refine ⟨j - n, i, by lia, hk, ?_⟩
   cases hs : S[i]? with
   | none => rw [hs] at h; simp at h; subst h; cases m
   | some s' => rw [hs] at h; simp at h; subst h; rfl
theorem sO {j : Nat} {s : Sl} (h : (bE n ix S)[j]? = some s) : s = .no \/ ∃ k i, j = n + k /\ ix[k]? = some i /\ S[i]? = some s := by
 unfold bE at h
 by_cases hj : j < n
 ·rw [List.getElem?_append_left (by simpa using hj)] at h
  simp [hj] at h
  exact .inl h.symm
 ·rw [List.getElem?_append_right (by simp; lia)] at h
  simp only [List.length_replicate, List.getElem?_map] at h
  cases hk : ix[j - n]? with
  | none => rw [hk] at h; cases h
  | some i =>
   rw [hk] at h
   simp at h
   cases hs : S[i]? with
   | none => rw [hs] at h; simp at h; exact .inl h.symm
   | some s' => rw [hs] at h; simp at h; subst h; exact .inr ⟨j - n, i, by lia, hk, hs⟩
theorem eN {k i : Nat} (h : ix[k]? = some i) : (capt n ix σ)[n + k]? = some ((σ[i]?).getD none) := by
 unfold capt
 rw [List.getElem?_append_right (by simp)]
 simp [h]
theorem sP {k i : Nat} (h : ix[k]? = some i) : (bE n ix S)[n + k]? = some ((S[i]?).getD .no) := by
 unfold bE
 rw [List.getElem?_append_right (by simp)]
 simp [h]
theorem cE {k i : Nat} (h : ix[k]? = some i) (e : (capt n ix σ)[n + k]? = some (some v)) : σ[i]? = some (some v) := by
 rw [eN h] at e
 cases hs : σ[i]? with
 | none => rw [hs] at e; cases e
 | some o => rw [hs] at e; simp at e; rw [e]
theorem kX {a : Addr} : Mo (Zin Z ix σ S) (capt n ix σ) (bE n ix S) a ↔ Mo Z σ S a := by
 constructor
 ·rintro (⟨j, s, h1, h2, h3⟩ | h | ⟨i, s, _, h1, h2, h3⟩)
  ·obtain ⟨k, i, rfl, hk, hs⟩ := jk h1 h2
   exact .inl ⟨i, s, hs, h2, cE hk h3⟩
  ·exact .inr h
  ·exact .inl ⟨i, s, h1, h2, h3⟩
 ·rintro (⟨i, s, h1, h2, h3⟩ | h)
  ·by_cases hi : i ∈ ix
   ·obtain ⟨k, hk⟩ := List.getElem?_of_mem hi
    refine .inl ⟨n + k, s, ?_, h2, ?_⟩
    ·rw [sP hk, h1]; rfl
    ·rw [eN hk, h3]; rfl
   ·exact .inr (.inr ⟨i, s, hi, h1, h2, h3⟩)
  ·exact .inr (.inl h)
theorem nB {l : List Nat} (h : l.Nodup) : ∀ {i j x : Nat}, l[i]? = some x -> l[j]? = some x -> i = j := fun {i j x} h1 h2 => by
 obtain ⟨a, e1⟩ := List.getElem?_eq_some_iff.mp h1
 obtain ⟨b, e2⟩ := List.getElem?_eq_some_iff.mp h2
 have hp := List.pairwise_iff_getElem.mp h
 rcases Nat.lt_trichotomy i j with c | c | c
 ·exact (hp i j a b c (by rw [e1, e2])).elim
 ·exact c
 ·exact (hp j i b a c (by rw [e1, e2])).elim
theorem OK.capt (k : OK K H0 Z σ H S) (hn : ix.Nodup) : OK K H0 (Zin Z ix σ S) (L2.capt n ix σ) H (bE n ix S) where
 len := by simp [L2.capt, bE]
 dom := k.dom
 zl := fun a z => by
  rcases z with z | ⟨i, s, _, h1, h2, h3⟩
  ·exact k.zl a z
  ·exact k.mo (.inl ⟨i, s, h1, h2, h3⟩)
 nz := fun j s a h1 h2 h3 z => by
  obtain ⟨q, i, rfl, hk, hs⟩ := jk h1 h2
  have e := cE hk h3
  rcases z with z | ⟨i', s', hi', g1, g2, g3⟩
  ·exact k.nz i s a hs h2 e z
  ·have := k.inj i i' a s s' hs g1 h2 g2 e g3
   subst this
   exact hi' (List.mem_of_getElem? hk)
 inj := fun j j' a s s' h1 h2 m1 m2 h3 h4 => by
  obtain ⟨q, i, rfl, hk, hs⟩ := jk h1 m1
  obtain ⟨q', i', rfl, hk', hs'⟩ := jk h2 m2
  have := k.inj i i' a s s' hs hs' m1 m2 (cE hk h3) (cE hk' h4)
  subst this
  rw [nB hn hk hk']
 at_ := fun j o s h1 h2 => by
  have hN : ∀ a, NM Z σ S a -> NM (Zin Z ix σ S) (L2.capt n ix σ) (bE n ix S) a := fun a x z => x (kX.mp z)
  rcases sO h2 with rfl | ⟨q, i, rfl, hk, hs⟩
  ·trivial
  ·rw [eN hk] at h1
   obtain ⟨o', e1, sl⟩ := k.ownAt hs
   rw [e1] at h1
   simp at h1
   subst h1
   cases s with
   | no => trivial
   | val d => obtain ⟨v, e, r⟩ := sl; exact ⟨v, e, r.mono (fun a x _ => ⟨hN a x, rfl⟩) fun _ x => x⟩
   | fre d => obtain ⟨v, e, r⟩ := sl; exact ⟨v, e, r.mono (fun a x _ => ⟨hN a x, rfl⟩) fun _ x => x⟩
   | own ds => obtain ⟨a, vs, e, e', e0, r⟩ := sl; exact ⟨a, vs, e, e', e0, r.mono (fun a x _ => ⟨hN a x, rfl⟩) fun _ x => x⟩
   | pen ad ns => exact sl
   | odi ks ds => obtain ⟨a, vs, e, e', e0, ek, r⟩ := sl; exact ⟨a, vs, e, e', e0, ⟨ek.1, ek.2.mono (fun a x _ => ⟨hN a x, rfl⟩) fun _ x => x⟩, r.mono (fun a x _ => ⟨hN a x, rfl⟩) fun _ x => x⟩
   | obj k => obtain ⟨a, e, e0, r⟩ := sl; exact ⟨a, e, e0, k.mono (fun a x _ => ⟨hN a x, rfl⟩) rfl r⟩
theorem o8 {i j : Nat} (h : ix.idxOf? i = some j) : ix[j]? = some i := by
 unfold List.idxOf? at h
 obtain ⟨h1, h2, _⟩ := List.findIdx?_eq_some_iff_getElem.mp h
 rw [List.getElem?_eq_getElem h1]
 simpa using h2
theorem o9 {i : Nat} (h : ix.idxOf? i = none) : i ∉ ix := by
 unfold List.idxOf? at h
 intro hm
 have := List.findIdx?_eq_none_iff.mp h i hm
 simp at this
theorem jW {i : Nat} {s : Sl} (h : S[i]? = some s) : (backS n ix S T)[i]? = some (match ix.idxOf? i with | some j => jV s ((T[n + j]?).getD .no) | none => s) := by
 have := sN (n := n) (ix := ix) (T := T) 0 h
 rwa [Nat.zero_add] at this
theorem cG {i : Nat} {s' : Sl} (h : (backS n ix S T)[i]? = some s') (m : s'.mut = true) : ∃ s, S[i]? = some s /\ s.mut = true /\ ((∃ j, ix[j]? = some i /\ T[n + j]? = some s') \/ (i ∉ ix /\ s = s')) := by
 have hl : i < S.length := by
  have := (List.getElem?_eq_some_iff.mp h).1
  rwa [show (backS n ix S T).length = S.length from gF 0] at this
 have e := jW (n := n) (ix := ix) (T := T) (List.getElem?_eq_getElem hl)
 rw [h] at e
 have e := Option.some.inj e
 refine ⟨_, List.getElem?_eq_getElem hl, ?_⟩
 cases hx : ix.idxOf? i with
 | none =>
  rw [hx] at e
  have e : s' = S[i] := e
  exact ⟨by rw [<- e]; exact m, .inr ⟨o9 hx, e.symm⟩⟩
 | some j =>
  rw [hx] at e
  simp only [jV] at e
  by_cases hm : (S[i]).mut = true
  ·rw [if_pos hm] at e
   refine ⟨hm, .inl ⟨j, o8 hx, ?_⟩⟩
   cases ht : T[n + j]? with
   | none => rw [ht] at e; simp [Sl.mut] at e; subst e; cases m
   | some t =>
    rw [ht] at e
    simp only [Option.getD_some] at e
    by_cases htm : t.mut = true
    ·rw [if_pos htm] at e; rw [e]
    ·rw [if_neg htm] at e; subst e; cases m
  ·rw [if_neg hm] at e; subst e; exact (hm m).elim
theorem nE {i : Nat} {s' : Sl} (h : (backS n ix S T)[i]? = some s') (m : s'.mut = false) : s' = .no \/ S[i]? = some s' := by
 have hl : i < S.length := by
  have := (List.getElem?_eq_some_iff.mp h).1
  rwa [show (backS n ix S T).length = S.length from gF 0] at this
 have e := jW (n := n) (ix := ix) (T := T) (List.getElem?_eq_getElem hl)
 rw [h] at e
 have e := Option.some.inj e
 cases hx : ix.idxOf? i with
 | none => rw [hx] at e; exact .inr (by rw [List.getElem?_eq_getElem hl, e])
 | some j =>
  rw [hx] at e
  simp only [jV] at e
  by_cases hm : (S[i]).mut = true
  ·rw [if_pos hm] at e
   by_cases htm : ((T[n + j]?).getD .no).mut = true
   ·rw [if_pos htm] at e; rw [e, htm] at m; cases m
   ·rw [if_neg htm] at e; exact .inl e
  ·rw [if_neg hm] at e; exact .inr (by rw [List.getElem?_eq_getElem hl, e])
theorem OK.back (k : OK K H0 Z σ H S) (k' : OK K H0 (Zin Z ix σ S) σ' H' T) (st : Step (Zin Z ix σ S) (L2.capt n ix σ) (bE n ix S) H σ' T H') (hσ : ∀ (i : Nat) (v : V), (L2.capt n ix σ)[i]? = some (some v) -> σ'[i]? = some (some v)) :
  OK K H0 Z σ H' (backS n ix S T) /\ Step Z σ S H σ (backS n ix S T) H' /\ ∀ a, NM (Zin Z ix σ S) σ' T a -> NM Z σ (backS n ix S T) a := by
 have mo' : ∀ a, Mo Z σ (backS n ix S T) a -> Mo (Zin Z ix σ S) σ' T a := fun a z => by
  rcases z with ⟨i, s', h1, h2, h3⟩ | z
  ·obtain ⟨s, e, em, ⟨j, hj, ht⟩ | ⟨hi, rfl⟩⟩ := cG h1 h2
   ·exact .inl ⟨n + j, s', ht, h2, hσ _ _ (by rw [eN hj, h3]; rfl)⟩
   ·exact .inr (.inr ⟨i, s, hi, e, em, h3⟩)
  ·exact .inr (.inl z)
 have nm' : ∀ a, NM (Zin Z ix σ S) σ' T a -> NM Z σ (backS n ix S T) a := fun a x z => x (mo' a z)
 have nm0 : ∀ a, NM Z σ S a -> NM (Zin Z ix σ S) (L2.capt n ix σ) (bE n ix S) a := fun a x z => x (kX.mp z)
 have old : ∀ a, NM Z σ S a -> H a ≠ none -> NM Z σ (backS n ix S T) a /\ H' a = H a := fun a x e => ⟨nm' a (st.1 a (nm0 a x) e).2, (st.1 a (nm0 a x) e).1⟩
 refine ⟨⟨by rw [show (backS n ix S T).length = S.length from gF 0]; exact k.len, fun i o s' h1 h2 => ?_, fun i j a s t h1 h2 m1 m2 h3 h4 => ?_, fun a e => k'.dom a e, fun a z => k'.zl a (.inl z), fun i s a h1 m h3 z => ?_⟩, ⟨fun a x e => ⟨(old a x e).2, (old a x e).1⟩, st.2.1, fun a z e => st.2.2 a (.inl z) e⟩, nm'⟩
 ·cases hm : s'.mut with
  | true =>
   obtain ⟨s, e, em, ⟨j, hj, ht⟩ | ⟨hi, rfl⟩⟩ := cG h2 hm
   ·have eo : ∃ v, o = some v := by
     obtain ⟨o', e1, q⟩ := k.ownAt e
     rw [h1] at e1; cases e1
     cases s with
     | no => cases em
     | val d => cases em
     | fre d => cases em
     | own ds => obtain ⟨a, _, e, _⟩ := q; exact ⟨_, e⟩
     | pen ad ns => obtain ⟨a, e, _⟩ := q; exact ⟨_, e⟩
     | odi ks ds => obtain ⟨a, _, e, _⟩ := q; exact ⟨_, e⟩
     | obj k => obtain ⟨a, e, _⟩ := q; exact ⟨_, e⟩
    obtain ⟨v, rfl⟩ := eo
    have q := k'.at_ (n + j) (some v) s' (hσ _ _ (by rw [eN hj, h1]; rfl)) ht
    cases s' with
    | no => cases hm
    | val d => cases hm
    | fre d => cases hm
    | own ds => obtain ⟨a, vs, e, e', e0, r⟩ := q; exact ⟨a, vs, e, e', e0, r.mono (fun a x _ => ⟨nm' a x, rfl⟩) fun _ x => x⟩
    | pen ad ns => exact q
    | odi ks ds => obtain ⟨a, vs, e, e', e0, ek, r⟩ := q; exact ⟨a, vs, e, e', e0, ⟨ek.1, ek.2.mono (fun a x _ => ⟨nm' a x, rfl⟩) fun _ x => x⟩, r.mono (fun a x _ => ⟨nm' a x, rfl⟩) fun _ x => x⟩
    | obj k => obtain ⟨a, e, e0, r⟩ := q; exact ⟨a, e, e0, k.mono (fun a x _ => ⟨nm' a x, rfl⟩) rfl r⟩
   ·obtain ⟨o', e1, q⟩ := k.ownAt e
    rw [h1] at e1; cases e1
    have hz : ∀ a us, o = some (V.ref a) -> H a = some us -> H' a = H a := fun a us eo ea => st.2.2 a (.inr ⟨i, s, hi, e, em, by rw [h1, eo]⟩) (by simp [ea])
    cases s with
    | no => cases hm
    | val d => cases hm
    | fre d => cases hm
    | own ds => obtain ⟨a, vs, e, e', e0, r⟩ := q; exact ⟨a, vs, e, (hz a _ e e').trans e', e0, r.mono old fun _ x => x⟩
    | pen ad ns => obtain ⟨a, e, e1, e'⟩ := q; exact ⟨a, e, e1, (hz a _ e e').trans e'⟩
    | odi ks ds => obtain ⟨a, vs, e, ⟨ob, e'⟩, e0, ek, r⟩ := q; exact ⟨a, vs, e, ⟨ob, (hz a _ e e').trans e'⟩, e0, ⟨ek.1, ek.2.mono old fun _ x => x⟩, r.mono old fun _ x => x⟩
    | obj k => obtain ⟨a, e, e0, r⟩ := q; exact ⟨a, e, e0, k.mono old (hz a _ e (Option.ne_none_iff_exists'.mp (k.ism r).ne).choose_spec) r⟩
  | false =>
   rcases nE h2 hm with rfl | e
   ·trivial
   ·have q := k.at_ i o s' h1 e
    cases s' with
    | no => trivial
    | val d => obtain ⟨v, e, r⟩ := q; exact ⟨v, e, r.mono old fun _ x => x⟩
    | fre d => obtain ⟨v, e, r⟩ := q; exact ⟨v, e, r.mono old fun _ x => x⟩
    | own ds => cases hm
    | pen ad ns => cases hm
    | odi ks ds => cases hm
    | obj k => cases hm
 ·obtain ⟨s0, e0, em0, c1⟩ := cG h1 m1
  obtain ⟨t0, f0, fm0, c2⟩ := cG h2 m2
  exact k.inj i j a s0 t0 e0 f0 em0 fm0 h3 h4
 ·obtain ⟨s0, e0, em0, c1⟩ := cG h1 m
  exact k.nz i s0 a e0 em0 h3 z
end
section
variable {K : PySem.W.Frag} {X : Cx} {e a b c tg elt iter : Expr} {te : TE} {va : VT} {pos : Pos}
structure VTs (K : PySem.W.Frag) (X : Cx) (ifs : List Expr) (te : TT) (t : VTT) : Prop where
 pe : PTs X ifs te
 snd : SndT K te t
def uW : VTT := fun S Q => Q true S
theorem fW : VTs K X [] uP uW := ⟨sC, fun _ _ _ _ _ _ _ k h q => q _ _ _ k .refl h⟩
theorem fX {tA : TT} {wA : VTT} (h : VTe K X c tA wA) : VTs K X [c] tA wA := ⟨sE h.pe, h.snd⟩
def ph (vi : VTN) (n : Nat) (ix : List Nat) (vg : VG) (vt : VTT) (ve : VT) : VTN := fun S Q => vi S fun ds S1 => ds.length <= 1000000 /\ ∃ Iv : Nat -> List D -> List Sl -> Prop, Iv 0 [] S1 /\
 (∀ i d ys S2, ds[i]? = some d -> Iv i ys S2 -> vg d (bE n ix S2) fun S3 => vt S3 fun b S4 => if b = true then ve S4 fun r S5 => ∃ x, r = .d x /\ Iv (i + 1) (ys ++ [x]) (backS n ix S2 S5) else Iv (i + 1) ys (backS n ix S2 S4)) /\
 ∀ ys S2, Iv ds.length ys S2 -> Q ys S2
theorem cg {ifs : List Expr} {scope : Scope} {tg cs : List Str} {target : Expr} {wi : TI} {vi : VTN} {g : TG} {vg : VG} {tc : TT} {vt : VTT} {te : TE} {ve : VT} (Sc : bD X scope tg cs ix) (hcalm : X.calm = true) (kg : d0 tg.length ix g) (hnd : ix.Nodup)
  (hi : VI K X target iter wi vi) (hg : ∀ C fp s H, VGe K (aI X scope (tg ++ cs) C fp s H) target g vg) (hc : ∀ C fp s H, VTs K (aI X scope (tg ++ cs) C fp s H) ifs tc vt) (he : ∀ C fp s H, VE K (aI X scope (tg ++ cs) C fp s H) true elt te ve)
  (hs : ∀ x, foldedSetIterable iter X.env x = pure x := by intro _; rfl) : VN K X (.ListComp elt [⟨target, iter, ifs, 0⟩] scope pos) (jN wi tg.length ix g tc te) (ph vi tg.length ix vg vt ve) := by
 have sg : SndG K g vg := (hg 0 [] X.s₀ (fun _ => none)).snd
 have sc : SndT K tc vt := (hc 0 [] X.s₀ (fun _ => none)).snd
 have se : SndE K true te ve := (he 0 [] X.s₀ (fun _ => none)).snd
 refine ⟨sF Sc hcalm kg hi.pi (fun C fp s H => (hg C fp s H).pg) (fun C fp s H => (hc C fp s H).pe) (fun C fp s H => (he C fp s H).pe) hs, fun H0 Z σ H S Q C k t hq => ?_⟩
 refine hi.snd H0 Z σ H S _ _ k t fun J ds H1 S1 k1 st1 gd zr1 => ?_
 obtain ⟨hl, Iv, i0, hs, hd⟩ := zr1
 refine ⟨fun i m ys H => m = ds.length - i /\ i <= ds.length /\ ys.length <= i /\ ∃ S2 zs, OK K H0 Z σ H S2 /\ Step Z σ S1 H1 σ S2 H /\ Reps K (NM Z σ S2) (Fr H0) H ys zs /\ Iv i zs S2, ⟨ds.length, by simp, Nat.zero_le _, Nat.le_refl _, S1, [], k1, .refl, .nil, i0⟩, ?_⟩
 rintro i m ys H2 ⟨rfl, hi, hy, S2, zs, k2, st2, rz, p⟩
 obtain ⟨g1, g2, g3⟩ := gd σ S2 H2 (fun _ => k2.nm) st2 i
 have hsz : (1000000 : Nat) < sizeLine := by rw [sizeLine_eq]; lia
 by_cases hlt : i < ds.length
 ·refine .inr ⟨g1 hlt, by lia, fun ys' H' => ys'.length <= i + 1 /\ ∃ S' zs', OK K H0 Z σ H' S' /\ Step Z σ S1 H1 σ S' H' /\ Reps K (NM Z σ S') (Fr H0) H' ys' zs' /\ Iv (i + 1) zs' S', fun ys' H' zt1 => by obtain ⟨p1, p2⟩ := zt1; exact ⟨ds.length - (i + 1), by lia, rfl, hlt, p1, p2⟩, fun x H3 y => ?_⟩
  obtain ⟨hgr, d, hd', rd⟩ := g2 x H3 y hlt
  replace k2 := k2.grow hgr
  replace st2 := st2.trans (.grow hgr)
  replace rz := rz.step (.grow hgr)
  have kc := k2.capt (n := tg.length) hnd
  have rd' : Rep K (NM (Zin Z ix σ S2) (L2.capt tg.length ix σ) (bE tg.length ix S2)) AnyF H3 x d := rd.mono (fun a n _ => ⟨fun z => n (kX.mp z), rfl⟩) fun _ x => x
  -- the target leaves what the block took over
  have h1 := sg H0 _ _ H3 _ x d _ (fun σ4 H4 => ∃ S4, OK K H0 (Zin Z ix σ S2) σ4 H4 S4 /\ Step (Zin Z ix σ S2) (L2.capt tg.length ix σ) (bE tg.length ix S2) H3 σ4 S4 H4 /\ vt S4 fun b S5 => if b = true then ve S5 fun r S6 => ∃ x, r = .d x /\ Iv (i + 1) (zs ++ [x]) (backS tg.length ix S2 S6) else Iv (i + 1) zs (backS tg.length ix S2 S5)) kc rd' (hs i d zs S2 hd' p) (fun σ4 H4 S4 k4 st4 q4 => ⟨S4, k4, st4, q4⟩)
  have h2 := kg x σ H3 _ h1
  refine (hg 0 [] X.s₀ (fun _ => none)).mono _ _ _ _ _ ?_ h2
  rintro σ4 H4 ⟨⟨hl4, hσ4⟩, S4, k4, st4, q4⟩
  refine sc H0 _ σ4 H4 S4 _ _ k4 q4 fun bb H5 S5 k5 st5 q5 => ?_
  cases bb with
  | false =>
   rw [if_neg Bool.false_ne_true] at q5 ⊢
   obtain ⟨kb, sb, nb⟩ := k2.back k5 (st4.trans st5) hσ4
   exact ⟨by lia, _, zs, kb, st2.trans sb, rz.step sb, q5⟩
  | true =>
   rw [if_pos rfl] at q5 ⊢
   refine se H0 _ σ4 H5 S5 _ _ k5 q5 fun vv H6 r S6 k6 st6 rr zr1 => ?_
   obtain ⟨xx, er, q6⟩ := zr1
   subst er
   obtain ⟨kb, sb, nb⟩ := k2.back k6 ((st4.trans st5).trans st6) hσ4
   refine ⟨by simp; lia, _, zs ++ [xx], kb, st2.trans sb, Reps.append (rz.step sb) (.cons (Rep.mono (fun a n _ => ⟨nb a n, rfl⟩) (fun _ x => x rfl) rr) .nil), q6⟩
 ·have e : i = ds.length := by lia
  refine .inl ⟨g3 e, by lia, fun l hp => ?_⟩
  exact hq l ys zs H2 _ S2 k2 (st1.trans st2) hp (aJ hp) aq (bW hp (rz.mono (fun _ n _ => ⟨n, rfl⟩) fun _ x _ => x)) (hd zs S2 (by rw [<- e]; exact p))
theorem pz {elt iter : Expr} {pos spos py : Pos} {yy : Str} {ii : Nat} {ifs : List Expr} {scope : Scope} {tg cs : List Str} {target : Expr} {wi : TI} {vi : VTN} {g : TG} {vg : VG} {tc : TT} {vt : VTT} {te : TE} {ve : VT} (hN0 : X.N.Nodup) (hi0 : X.N[ii]? = some yy) (hx0 : Loc X.env.scope yy) (hf0 : X.fn yy = true \/ X.env.scope.names.lookup yy = some .local)
  (Sc : bD X scope tg cs ix) (hcalm : X.calm = true) (kg : d0 tg.length ix g) (hnd : ix.Nodup)
  (hi : VI K X target iter wi vi) (hg : ∀ C fp s H, VGe K (aI X scope (tg ++ cs) C fp s H) target g vg) (hc : ∀ C fp s H, VTs K (aI X scope (tg ++ cs) C fp s H) ifs tc vt) (he : ∀ C fp s H, VE K (aI X scope (tg ++ cs) C fp s H) true elt te ve)
  (hsw : swapsWith (.ListComp elt [⟨target, iter, ifs, 0⟩] scope pos) (some (.Name yy py)) spos.line X.env = pure true := by rfl) (hs : ∀ x, foldedSetIterable iter X.env x = pure x := by intro _; rfl) : VS K X (.Assign [.Name yy py] (.ListComp elt [⟨target, iter, ifs, 0⟩] scope pos) spos) (dQ (jN wi tg.length ix g tc te) (bC ii)) (ny (xk (ph vi tg.length ix vg vt ve)) (vgN ii)) := by
 have h := cg (pos := pos) Sc hcalm kg hnd hi hg hc he hs
 refine ⟨oO hN0 hi0 hx0 Sc hcalm kg hi.pi (fun C fp s H => (hg C fp s H).pg) (fun C fp s H => (hc C fp s H).pe) (fun C fp s H => (he C fp s H).pe) hf0 hsw hs, kW (aT (m := false) h).snd fun H0 Z σ H S v d Q C k r zt1 hc => by obtain ⟨hi, q⟩ := zt1; exact hc _ _ _ (k.setVal hi r).1 (k.setVal hi r).2 q⟩
end
end VL
end
section
namespace VL
open PySem L2
section
variable {P : Program} {w : World} {K : PySem.W.Frag} {mg : Str -> Option Value} {base : Heap}
def slots (n : Nat) (ds : List D) : List Sl := ds.map .val ++ List.replicate (n - ds.length) .no
theorem gG {N : List Str} {i : Nat} (h : vs[i]? = some v) : (start N vs)[i]? = some (some v) := by
 unfold L2.start
 have hi := (List.getElem?_eq_some_iff.mp h).1
 rw [List.getElem?_append_left (by simpa using hi)]
 simp [h]
theorem jX {n : Nat} {i : Nat} {s : Sl} (h : (slots n ds)[i]? = some s) : s = .no \/ ∃ d, s = .val d /\ ds[i]? = some d := by
 unfold slots at h
 by_cases hi : i < ds.length
 ·rw [List.getElem?_append_left (by simpa using hi)] at h
  simp [hi] at h
  subst h
  exact .inr ⟨_, rfl, by simp [hi]⟩
 ·rw [List.getElem?_append_right (by simpa using hi)] at h
  have := List.mem_of_getElem? h
  exact .inl (List.eq_of_mem_replicate this)
theorem bj {n : Nat} {i : Nat} {s : Sl} (h : (slots n ds)[i]? = some s) : s.mut = false := by
 rcases jX h with rfl | ⟨d, rfl, _⟩ <;> rfl
theorem eO {N : List Str} (r : Reps K Any AnyF H vs ds) : OK K H (fun _ => False) (start N vs) H (slots N.length ds) where
 len := by simp [L2.start, slots, r.length]
 dom := fun _ e => e
 zl := fun _ z => z.elim
 nz := fun i s a h m _ => by rw [bj h] at m; cases m
 inj := fun i j a s t h1 h2 m1 => by rw [bj h1] at m1; cases m1
 at_ := fun i o s h1 h2 => by
  rcases jX h2 with rfl | ⟨d, rfl, e⟩
  ·trivial
  ·obtain ⟨v, e1, e2⟩ := r.getD e
   rw [gG e1] at h1
   cases h1
   refine ⟨v, rfl, e2.mono (fun a _ _ => ⟨?_, rfl⟩) fun _ x => x⟩
   rintro (⟨j, s, g1, g2, _⟩ | z)
   ·rw [bj g1] at g2; cases g2
   ·exact z
theorem cW {x : Str} {st : Stmt} {N ps : List Str} {k : Nat} (S : Src K mg x st) (sc : aA N ps (ai st))
  (hb : ∀ (kV doc pm : Value) (an : Option Addr) (cdv ct : Value) (us : List Value), us.length = ps.length -> bindArgs (PySem.W.fnOf x x (bz st) (aS st) (ai st) .none kV doc pm an cdv ct) ⟨us, []⟩ = pure (ps.zip us))
  (len : ∀ ds R, p ds R -> ds.length = ps.length)
  (hbody : ∀ (f : Addr) (cdv : Value) (A : Around) (outer : List Env) (s : Shared) (H : Hp) (E : XK), aQ k (A.deeper (PyProof.Rows.envOfC x (ai st) s.heap.objs.size f cdv)) ->
   ∃ ts t, VSs K (ft CX0 P w K mg base N x (ai st) f cdv A outer s H E).nox (aS st) ts t /\ ∀ ds R, p ds R -> t { nx := fun _ => R .non, rt := fun d _ => R d } (slots N.length ds)) : Has P w K mg base (k + 1) x ps (spP K p) := by
 refine S.has sc hb (fun vs H Q E zq1 => by obtain ⟨ds, R, r, h, _⟩ := zq1; rw [r.length]; exact len ds R h) fun f cdv A outer s H vs Q E hr ⟨ds, R, r, h, fin⟩ => ?_
 obtain ⟨ts, t, vs', q⟩ := hbody f cdv A outer s H E hr
 have k0 := eO (N := N) r
 have st0 : ∀ {σ' S' H'}, Step (fun _ => False) (start N vs) (slots N.length ds) H σ' S' H' -> ∀ a, H a ≠ none -> H' a = H a := fun st a e => (st.1 a (by
  rintro (⟨j, s, g1, g2, _⟩ | z)
  ·rw [bj g1] at g2; cases g2
  ·exact z) e).1
 refine ⟨ts, vs'.ps, vs'.snd H _ _ H _ _ _ k0 (q ds R h) ⟨fun σ' H' S' k' st q => fin .non .non H' q (st0 st) .non, fun σ' H' S' k' st q => q.elim, fun σ' H' S' k' st q => q.elim, fun v d σ' H' S' k' st rr q => fin d v H' q (st0 st) (rr.mono (fun _ _ _ => ⟨trivial, rfl⟩) fun _ x => x)⟩⟩
def cR (n : Nat) (a : Addr) (ns : List Int) (ds es : List D) : List Sl := ds.map .val ++ .pen (some a) ns :: (es.map .val ++ List.replicate (n - (ds.length + 1 + es.length)) .no)
theorem iJ {n : Nat} {a : Addr} {ds es : List D} {i : Nat} {s : Sl} (h : (cR n a ns ds es)[i]? = some s) : s = .no \/ (∃ d, s = .val d /\ (ds ++ .non :: es)[i]? = some d /\ i ≠ ds.length) \/ (i = ds.length /\ s = .pen (some a) ns) := by
 unfold cR at h
 by_cases hi : i < ds.length
 ·rw [List.getElem?_append_left (by simpa using hi)] at h
  simp [hi] at h
  subst h
  exact .inr (.inl ⟨_, rfl, by rw [List.getElem?_append_left hi]; simp [hi], by lia⟩)
 ·by_cases hi2 : i = ds.length
  ·subst hi2
   rw [List.getElem?_append_right (by simp)] at h
   simp at h
   exact .inr (.inr ⟨rfl, h.symm⟩)
  ·rw [List.getElem?_append_right (by simp; lia)] at h
   rw [List.length_map] at h
   obtain ⟨j, hj⟩ : ∃ j, i - ds.length = j + 1 := ⟨i - ds.length - 1, by lia⟩
   rw [hj, List.getElem?_cons_succ] at h
   by_cases hj2 : j < es.length
   ·rw [List.getElem?_append_left (by simpa using hj2)] at h
    simp [hj2] at h
    subst h
    refine .inr (.inl ⟨_, rfl, ?_, hi2⟩)
    rw [List.getElem?_append_right (by lia), hj, List.getElem?_cons_succ]
    simp [hj2]
   ·rw [List.getElem?_append_right (by simpa using hj2)] at h
    exact .inl (List.eq_of_mem_replicate (List.mem_of_getElem? h))
theorem mq {x : Str} {st : Stmt} {N ps : List Str} {k : Nat} (j : Nat) {p : List Int -> List D -> (D -> List Int -> Prop) -> Prop} (S : Src K mg x st) (sc : aA N ps (ai st))
  (hb : ∀ (kV doc pm : Value) (an : Option Addr) (cdv ct : Value) (us : List Value), us.length = ps.length -> bindArgs (PySem.W.fnOf x x (bz st) (aS st) (ai st) .none kV doc pm an cdv ct) ⟨us, []⟩ = pure (ps.zip us))
  (len : ∀ ns ds R, p ns ds R -> ds.length + 1 = ps.length)
  (hbody : ∀ (f : Addr) (cdv : Value) (A : Around) (outer : List Env) (s : Shared) (H : Hp) (E : XK), aQ k (A.deeper (PyProof.Rows.envOfC x (ai st) s.heap.objs.size f cdv)) ->
   ∃ ts t, VSs K (ft CX0 P w K mg base N x (ai st) f cdv A outer s H E).nox (aS st) ts t /\ ∀ a ns ds es R, ds.length = j -> p ns (ds ++ es) R -> t { nx := fun S' => ∃ ns', S'[j]? = some (.pen (some a) ns') /\ R .non ns', rt := fun d S' => ∃ ns', S'[j]? = some (.pen (some a) ns') /\ R d ns' } (cR N.length a ns ds es)) :
  Has P w K mg base (k + 1) x ps (spI K j p) := by
 refine S.has sc hb (fun vs H Q E zq1 => by
  obtain ⟨a, ws, us, ns, ds, es, R, e, hl, hp, r1, r2, h, _⟩ := zq1
  have := len _ _ _ h
  rw [e, List.length_append, List.length_cons, r1.length, r2.length]
  rw [List.length_append] at this
  lia) fun f cdv A outer s H vs Q E hr zr1 => ?_
 obtain ⟨a, ws, us, ns, ds, es, R, e, hl, hp, r1, r2, h, fin⟩ := zr1
 subst e
 obtain ⟨ts, t, vs', q⟩ := hbody f cdv A outer s H E hr
 have hdl : ds.length = j := by rw [<- r1.length]; exact hl
 subst hdl
 have hmut : ∀ {i : Nat} {s : Sl}, (cR N.length a ns ds es)[i]? = some s -> s.mut = true -> i = ds.length /\ s = .pen (some a) ns := fun {i s} h m => by
  rcases iJ h with rfl | ⟨d, rfl, _⟩ | h
  ·cases m
  ·cases m
  ·exact h
 have hpen : (start N (ws ++ .ref a :: us))[ds.length]? = some (some (V.ref a)) := gG (by rw [<- hl]; simp)
 have hmo : ∀ b, Mo (fun _ => False) (start N (ws ++ .ref a :: us)) (cR N.length a ns ds es) b -> b = a := fun b z => by
  rcases z with ⟨i, s, g1, g2, g3⟩ | z
  ·obtain ⟨rfl, _⟩ := hmut g1 g2
   rw [hpen] at g3; cases g3; rfl
  ·exact z.elim
 have hll : N.length - (ws.length + (us.length + 1)) = N.length - (ds.length + 1 + es.length) := by rw [r1.length, r2.length]; lia
 have k0 : OK K H (fun _ => False) (start N (ws ++ .ref a :: us)) H (cR N.length a ns ds es) := {
  len := by simp [L2.start, cR, r1.length, r2.length]; lia
  dom := fun _ e => e
  zl := fun _ z => z.elim
  nz := fun _ _ _ _ _ _ z => z
  inj := fun i j a s t h1 h2 m1 m2 _ _ => by rw [(hmut h1 m1).1, (hmut h2 m2).1]
  at_ := fun i o s h1 h2 => by
   rcases iJ h2 with rfl | ⟨d, rfl, e, hi⟩ | ⟨rfl, rfl⟩
   ·trivial
   ·have rr : ∃ v, (ws ++ .ref a :: us)[i]? = some v /\ Rep K (· ≠ a) AnyF H v d := by
     by_cases hi2 : i < ds.length
     ·rw [List.getElem?_append_left hi2] at e
      obtain ⟨v, e1, e2⟩ := r1.getD e
      exact ⟨v, by rw [List.getElem?_append_left (by rw [r1.length]; exact hi2)]; exact e1, e2⟩
     ·rw [List.getElem?_append_right (by lia)] at e
      obtain ⟨j, hj⟩ : ∃ j, i - ds.length = j + 1 := ⟨i - ds.length - 1, by lia⟩
      rw [hj, List.getElem?_cons_succ] at e
      obtain ⟨v, e1, e2⟩ := r2.getD e
      exact ⟨v, by rw [List.getElem?_append_right (by rw [r1.length]; lia), r1.length, hj, List.getElem?_cons_succ]; exact e1, e2⟩
    obtain ⟨v, e1, e2⟩ := rr
    rw [gG e1] at h1
    cases h1
    exact ⟨v, rfl, e2.mono (fun b n _ => ⟨fun z => n (hmo b z), rfl⟩) fun _ x => x⟩
   ·rw [hpen] at h1
    cases h1
    exact ⟨a, rfl, fun b z => by cases z; rfl, hp⟩ }
 have st0 : ∀ {σ' S' H'}, Step (fun _ => False) (start N (ws ++ .ref a :: us)) (cR N.length a ns ds es) H σ' S' H' -> ∀ b, b ≠ a -> H b ≠ none -> H' b = H b := fun st b n e => (st.1 b (fun z => n (hmo b z)) e).1
 have pn : ∀ {σ' S' H' ns'}, OK K H (fun _ => False) σ' H' S' -> S'[ds.length]? = some (.pen (some a) ns') -> σ'[ds.length]? = some (some (V.ref a)) /\ H' a = some (.lst (ns'.map .int)) := fun k' e => by
  obtain ⟨o, e1, b, rfl, e2, e3⟩ := k'.ownAt e
  obtain rfl := e2 a rfl
  exact ⟨e1, e3⟩
 refine ⟨ts, vs'.ps, vs'.snd H _ _ H _ _ _ k0 (q a ns ds es R rfl h) ⟨fun σ' H' S' k' st zt1 => by obtain ⟨ns', e, q⟩ := zt1; exact fin .non ns' .non H' q (st0 st) (pn k' e).2 .non, fun σ' H' S' k' st q => q.elim, fun σ' H' S' k' st q => q.elim, fun v d σ' H' S' k' st rr ⟨ns', e, q⟩ => fin d ns' v H' q (st0 st) (pn k' e).2 (rr.mono (fun b n _ => ⟨fun z => ?_, rfl⟩) fun _ x => x)⟩⟩
 subst z
 exact n _ _ _ e (pn k' e).1
end
end VL
end
section
namespace VL
open PySem L2
mutual
def pd : D -> PyData
 | .int i => .int i
 | .bl b => .bool b
 | .non => .none
 | .str x => .str x
 | .ty _ => .none
 | .dic _ _ => .none
 | .exc _ => .none
 | .tup ds => .tuple (pds ds)
 | .lst ds => .list (pds ds)
def pds : List D -> List PyData
 | [] => []
 | d :: r => pd d :: pds r
end
mutual
def noTy : D -> Bool
 | .ty _ => false
 | .dic _ _ => false
 | .exc _ => false
 | .tup ds => gH ds
 | .lst ds => gH ds
 | _ => true
def gH : List D -> Bool
 | [] => true
 | d :: r => noTy d && gH r
end
section
variable {K : PySem.W.Frag} {X : Cx} {pins : List (Addr × Obj)} {σ : St} {H : Hp} {s : Shared} {N : AP} {F : FP}
mutual
theorem aV (I : Inv X pins σ H s) (hK : X.K = K) {v : V} {d : D} {u : Value} : Rep K N F H v d -> noTy d = true -> RelV v u -> ∃ as, Reads s.heap u (pd d) as := fun hh ee rr => by
 cases hh with
 | int i => have r := rr; obtain ⟨t, rfl⟩ := r; exact ⟨_, .int i t⟩
 | bl b => have r := rr; cases r; exact ⟨_, .bool b⟩
 | non => have r := rr; cases r; exact ⟨_, .none⟩
 | str x => have r := rr; obtain ⟨t, rfl⟩ := r; exact ⟨_, .str x t⟩
 | ty x => have e := ee; cases e
 | dic n f h _ _ rs => have e := ee; simp [noTy] at e
 | exc n h _ => have e := ee; simp [noTy] at e
 | tup n h rs =>
  have e := ee
  have r := rr
  cases r
  obtain ⟨its, rv, ⟨o, ho, hc, n, hd⟩, _⟩ := I.tuple (xs := _) (.inl h)
  obtain ⟨as, ra⟩ := bF I hK rs (by simpa [noTy] using e) rv
  exact ⟨as, .tuple ho hc hd (by simpa using ra)⟩
 | tupK h rs =>
  have e := ee
  have r := rr
  cases r
  obtain ⟨its, rv, ⟨o, ho, hc, n, hd⟩, _⟩ := I.tuple (xs := _) (by rw [hK]; exact eJ h)
  obtain ⟨as, ra⟩ := bF I hK rs (by simpa [noTy] using e) rv
  exact ⟨as, .tuple ho hc hd (by simpa using ra)⟩
 | lst n f h rs =>
  have e := ee
  have r := rr
  cases r
  obtain ⟨its, rv, pl, _⟩ := I.list (xs := _) (.inl (.inl h))
  obtain ⟨o, ho, hc, n, hd⟩ := pl.isList
  obtain ⟨as, ra⟩ := bF I hK rs (by simpa [noTy] using e) rv
  exact ⟨_, .list ho hc hd (by simpa using ra)⟩
 | lstF n f h rs =>
  have e := ee
  have r := rr
  cases r
  obtain ⟨its, rv, pl, _⟩ := I.list (xs := _) (.inl (.inr ⟨_, h⟩))
  obtain ⟨o, ho, hc, n, hd⟩ := pl.isList
  obtain ⟨as, ra⟩ := bF I hK rs (by simpa [noTy] using e) rv
  exact ⟨_, .list ho hc hd (by simpa using ra)⟩
 | lstK f h rs =>
  have e := ee
  have r := rr
  cases r
  obtain ⟨its, rv, pl, _⟩ := I.list (xs := _) (by rw [hK]; exact gA h)
  obtain ⟨o, ho, hc, n, hd⟩ := pl.isList
  obtain ⟨as, ra⟩ := bF I hK rs (by simpa [noTy] using e) rv
  exact ⟨_, .list ho hc hd (by simpa using ra)⟩
theorem bF (I : Inv X pins σ H s) (hK : X.K = K) {vs : List V} {ds : List D} {us : List Value} : Reps K N F H vs ds -> gH ds = true -> Vals vs us -> ∃ as, ReadsAll s.heap us (pds ds) as := fun hh ee rr => by
 cases hh with
 | nil => have r := rr; cases r; exact ⟨_, .nil⟩
 | cons h t =>
  have e := ee
  have r := rr
  simp only [gH, Bool.and_eq_true] at e
  cases r with
  | cons r1 r2 =>
   obtain ⟨as, ra⟩ := aV I hK h e.1 r1
   obtain ⟨bs, rb⟩ := bF I hK t e.2 r2
   exact ⟨_, .cons ra rb⟩
end
end
structure Okd (d : D) : Prop where
 ty : noTy d = true
 lay : (pd d).canLay0 = true
 dep : (pd d).depth <= 40
def xE (K : PySem.W.Frag) (neg : Bool) : R2 := fun x y H Q => ∃ d1 d2, Rep K Any AnyF H x d1 /\ Rep K Any AnyF H y d2 /\ Okd d1 /\ Okd d2 /\ Q (.bl (if neg then !PyData.eqv (pd d1) (pd d2) else PyData.eqv (pd d1) (pd d2))) H
def gI (neg : Bool) : D -> D -> (D -> Prop) -> Prop := fun d1 d2 q => Okd d1 /\ Okd d2 /\ q (.bl (if neg then !PyData.eqv (pd d1) (pd d2) else PyData.eqv (pd d1) (pd d2)))
def xF (K : PySem.W.Frag) (neg : Bool) : R2 := fun x y H Q => ∃ d ds, Rep K Any AnyF H x d /\ (Rep K Any AnyF H y (.lst ds) \/ Rep K Any AnyF H y (.tup ds)) /\ Okd d /\ Okd (.lst ds) /\ Q (.bl (if neg then !(pds ds).any (fun y => PyData.eqv y (pd d)) else (pds ds).any (fun y => PyData.eqv y (pd d)))) H
def kY (neg : Bool) : D -> D -> (D -> Prop) -> Prop := fun d d2 q => ∃ ds, (d2 = .lst ds \/ d2 = .tup ds) /\ Okd d /\ Okd (.lst ds) /\ q (.bl (if neg then !(pds ds).any (fun y => PyData.eqv y (pd d)) else (pds ds).any (fun y => PyData.eqv y (pd d))))
section
variable {K : PySem.W.Frag} {X : Cx}
theorem kZ (hK : X.K = K) (hu : X.A.units + 64 < cLine) : OpR X (compareOp .Eq) (xE K false) := by
 rintro pins s σ H x y v u Q I rx ry ⟨d1, d2, r1, r2, o1, o2, q⟩
 obtain ⟨as, ra⟩ := aV I hK r1 o1.ty rx
 obtain ⟨bs, rb⟩ := aV I hK r2 o2.ty ry
 exact SeqAt.compareEq_reads ra rb o1.lay o2.lay (by have := o1.dep; lia) ⟨.bl _, H, I, rfl, q⟩
theorem pA (hK : X.K = K) (hu : X.A.units + 64 < cLine) : OpR X (compareOp .NotEq) (xE K true) := by
 rintro pins s σ H x y v u Q I rx ry ⟨d1, d2, r1, r2, o1, o2, q⟩
 obtain ⟨as, ra⟩ := aV I hK r1 o1.ty rx
 obtain ⟨bs, rb⟩ := aV I hK r2 o2.ty ry
 exact SeqAt.compareNe_reads ra rb o1.lay o2.lay (by have := o1.dep; lia) ⟨.bl _, H, I, rfl, q⟩
theorem iK (o : Okd (.lst ds)) : PyData.canLayAll0 (pds ds) = true /\ PyData.depthAll (pds ds) <= 40 /\ noTy (.tup ds) = true := by
 refine ⟨by simpa [pd, PyData.canLay0] using o.lay, ?_, by simpa [noTy] using o.ty⟩
 have := o.dep
 simp only [pd, PyData.depth] at this
 lia
theorem xG (hK : X.K = K) (hu : X.A.units + 64 < cLine) : OpR X (compareOp .In) (xF K false) := by
 rintro pins s σ H x y v u Q I rx ry ⟨d, ds, r1, r2, o1, o2, q⟩
 obtain ⟨as, ra⟩ := aV I hK r1 o1.ty rx
 obtain ⟨h1, h2, h3⟩ := iK o2
 rcases r2 with r2 | r2
 ·obtain ⟨bs, rb⟩ := aV I hK r2 o2.ty ry
  exact SeqAt.in_list_reads (by simpa [pd] using rb) ra h1 o1.lay (by lia) ⟨.bl _, H, I, rfl, q⟩
 ·obtain ⟨bs, rb⟩ := aV I hK r2 h3 ry
  exact SeqAt.in_tuple_reads (by simpa [pd] using rb) ra h1 o1.lay (by lia) ⟨.bl _, H, I, rfl, q⟩
theorem nF (hK : X.K = K) (hu : X.A.units + 64 < cLine) : OpR X (compareOp .NotIn) (xF K true) := by
 rintro pins s σ H x y v u Q I rx ry ⟨d, ds, r1, r2, o1, o2, q⟩
 obtain ⟨as, ra⟩ := aV I hK r1 o1.ty rx
 obtain ⟨h1, h2, h3⟩ := iK o2
 rcases r2 with r2 | r2
 ·obtain ⟨bs, rb⟩ := aV I hK r2 o2.ty ry
  exact SeqAt.notIn_list_reads (by simpa [pd] using rb) ra h1 o1.lay (by lia) ⟨.bl _, H, I, rfl, q⟩
 ·obtain ⟨bs, rb⟩ := aV I hK r2 h3 ry
  exact SeqAt.notIn_tuple_reads (by simpa [pd] using rb) ra h1 o1.lay (by lia) ⟨.bl _, H, I, rfl, q⟩
theorem jY {neg : Bool} : cf K (xE K neg) (gI neg) := fun x y H d1 d2 q C r1 r2 zt1 hc => by obtain ⟨o1, o2, h⟩ := zt1; exact ⟨d1, d2, r1, r2, o1, o2, hc _ _ h fun _ _ => .bl _⟩
theorem uX {neg : Bool} : cf K (xF K neg) (kY neg) := fun x y H d1 d2 q C r1 r2 zt1 hc => by obtain ⟨ds, e, o1, o2, h⟩ := zt1; exact ⟨d1, ds, r1, e.imp (fun e => by rw [<- e]; exact r2) (fun e => by rw [<- e]; exact r2), o1, o2, hc _ _ h fun _ _ => .bl _⟩
end
theorem cj {α : Type} (f : α -> D) : ∀ l : List α, pds (l.map f) = l.map fun x => pd (f x)
 | [] => rfl
 | _ :: r => by simp [pds, cj f r]
theorem fD {α : Type} {f : α -> D} (h : ∀ x, noTy (f x) = true) : ∀ l : List α, gH (l.map f) = true
 | [] => rfl
 | _ :: r => by simp [gH, h, fD h r]
theorem gJ {α : Type} {f : α -> PyData} (h : ∀ x, (f x).canLay0 = true) : ∀ l : List α, PyData.canLayAll0 (l.map f) = true
 | [] => rfl
 | _ :: r => by simp [PyData.canLayAll0, h, gJ h r]
theorem gK {α : Type} {f : α -> PyData} {n : Nat} (h : ∀ x, (f x).depth <= n) : ∀ l : List α, PyData.depthAll (l.map f) <= n
 | [] => by simp [PyData.depthAll]
 | x :: r => by simp only [List.map_cons, PyData.depthAll]; exact Nat.max_le.mpr ⟨h x, gK h r⟩
structure Enc {α : Type} (n : Nat) (f : α -> D) : Prop where
 ty : ∀ x, noTy (f x) = true
 lay : ∀ x, (pd (f x)).canLay0 = true
 dep : ∀ x, (pd (f x)).depth <= n
 eq : ∀ x y, PyData.eqv (pd (f x)) (pd (f y)) = true ↔ x = y
theorem ef {α : Type} {f : α -> PyData} (h : ∀ x y, PyData.eqv (f x) (f y) = true ↔ x = y) : ∀ l m : List α, PyData.eqvAll (l.map f) (m.map f) = true ↔ l = m
 | [], [] => by simp [PyData.eqvAll]
 | [], _ :: _ => by simp [PyData.eqvAll]
 | _ :: _, [] => by simp [PyData.eqvAll]
 | x :: r, y :: t => by simp [PyData.eqvAll, h, ef h r t]
theorem eP : Enc 0 D.int := ⟨fun _ => rfl, fun _ => rfl, fun _ => Nat.le_refl _, fun x y => by simp [pd, PyData.eqv]⟩
theorem xH : Enc 0 D.bl := ⟨fun _ => rfl, fun _ => rfl, fun _ => Nat.le_refl _, fun x y => by simp [pd, PyData.eqv]⟩
theorem Enc.tup {α : Type} {n : Nat} {f : α -> D} (e : Enc n f) : Enc (n + 1) (fun l : List α => D.tup (l.map f)) where
 ty := fun l => by simp only [noTy]; exact fD e.ty l
 lay := fun l => by simp only [pd, PyData.canLay0, cj]; exact gJ e.lay l
 dep := fun l => by simp only [pd, PyData.depth, cj]; exact Nat.succ_le_succ (gK e.dep l)
 eq := fun l m => by simp only [pd, PyData.eqv, cj]; exact ef e.eq l m
theorem Enc.lst {α : Type} {n : Nat} {f : α -> D} (e : Enc n f) : Enc (n + 1) (fun l : List α => D.lst (l.map f)) where
 ty := fun l => by simp only [noTy]; exact fD e.ty l
 lay := fun l => by simp only [pd, PyData.canLay0, cj]; exact gJ e.lay l
 dep := fun l => by simp only [pd, PyData.depth, cj]; exact Nat.succ_le_succ (gK e.dep l)
 eq := fun l m => by simp only [pd, PyData.eqv, cj]; exact ef e.eq l m
theorem lg : Enc 1 eT := eP.tup
theorem pB : Enc 2 eL := lg.lst
theorem Enc.okd {α : Type} {n : Nat} {f : α -> D} (e : Enc n f) (hn : n <= 40) (x : α) : Okd (f x) := ⟨e.ty x, e.lay x, Nat.le_trans (e.dep x) hn⟩
theorem Enc.eqv {α : Type} [DecidableEq α] {n : Nat} {f : α -> D} (e : Enc n f) (x y : α) : PyData.eqv (pd (f x)) (pd (f y)) = decide (x = y) := by
 rw [Bool.eq_iff_iff, e.eq, decide_eq_true_iff]
theorem Enc.any {α : Type} [DecidableEq α] {n : Nat} {f : α -> D} (e : Enc n f) (x : α) (l : List α) : (pds (l.map f)).any (fun y => PyData.eqv y (pd (f x))) = decide (x ∈ l) := by
 rw [cj, List.any_map]
 induction l with
 | nil => simp
 | cons a r ih =>
  rw [List.any_cons, ih]
  simp only [Function.comp, e.eqv]
  rw [Bool.eq_iff_iff]
  simp only [Bool.or_eq_true, decide_eq_true_eq, List.mem_cons]
  exact ⟨fun z => z.elim (fun z => .inl z.symm) .inr, fun z => z.elim (fun z => .inl z.symm) .inr⟩
theorem uY {α : Type} [DecidableEq α] {n : Nat} {f : α -> D} (e : Enc n f) {x y : α} (h : q (.bl (decide (x = y)))) (hn : n <= 40 := by decide) : gI false (f x) (f y) q := ⟨e.okd hn x, e.okd hn y, by simpa [e.eqv] using h⟩
theorem uZ {α : Type} [DecidableEq α] {n : Nat} {f : α -> D} (e : Enc n f) {x y : α} (h : q (.bl (!decide (x = y)))) (hn : n <= 40 := by decide) : gI true (f x) (f y) q := ⟨e.okd hn x, e.okd hn y, by simpa [e.eqv] using h⟩
theorem jZ {α : Type} [DecidableEq α] {n : Nat} {f : α -> D} (e : Enc n f) {x : α} {l : List α} (h : q (.bl (!decide (x ∈ l)))) (hn : n + 1 <= 40 := by decide) : kY true (f x) (.lst (l.map f)) q := ⟨_, .inl rfl, e.okd (by lia) x, e.lst.okd hn l, by simpa only [e.any, if_true] using h⟩
end VL
namespace VL
open PySem L2
section
variable {K : PySem.W.Frag} {X : Cx}
theorem mr (hK : X.K = K) : bO X (.builtin "len") (fun xs H Q => ∃ p ys, xs = [.ref p] /\ (SqL K H p ys \/ SqT K H p ys) /\ Q (.int ys.length) H) := by subst hK; exact jc
theorem mw (hK : X.K = K) : bO X (.builtin "isinstance") (wZ K) := by subst hK; exact oI
theorem dM : bootBuiltins "sorted" = some (.builtin "sorted") := by decide +kernel
theorem gL : bootBuiltins "max" = some (.builtin "max") := by decide +kernel
end
end VL
end
section
namespace VL
open PySem L2
section
variable {S S1 : List Sl} {Q : VR -> List Sl -> Prop} {QT : Bool -> List Sl -> Prop} {QN : List D -> List Sl -> Prop} {QA : List VR -> List Sl -> Prop} {W : aW} {va vb : VT} {vr : VTA} {vt vu : VTT} {vn : VTN} {s t : VTS} {g : VG}
def Af (u : VTS) (W : aW) : List Sl -> Prop := fun S' => ∃ S'', Wk S' S'' /\ u W S''
theorem Ag {u : VTS} (h : t ⟨Af u W, W.rt, W.bk, W.ct⟩ S) : zV t u W S := h
theorem xJ {u : VTS} (h : u W S) : Af u W S := ⟨S, Wk.refl S, h⟩
def Ah (g : VG) (W : aW) : VR -> List Sl -> Prop := fun r S1 => ∃ d, r = .d d /\ g d S1 W.nx
theorem Ai (h : va S (Ah g W)) : ny va g W S := h
theorem xK (h : g d S W.nx) : Ah g W (.d d) S := ⟨d, rfl, h⟩
theorem B4 {i : Nat} {q : List Sl -> Prop} (e : Nat.ble (i + 1) S.length = true) (h : q (S.set i (.val d))) : vgN i d S q := ⟨Nat.le_of_ble_eq_true e, h⟩
theorem B5 {n : Nat} {u : List D -> List Sl -> (List Sl -> Prop) -> Prop} {q : List Sl -> Prop} (e : ds.length = n) (h : u ds S q) : vgT n u (.tup ds) S q := ⟨ds, rfl, e, h⟩
theorem xM {q : List Sl -> Prop} (h : q S) : uT [] S q := ⟨rfl, h⟩
theorem sQ {r : List D} {u : List D -> List Sl -> (List Sl -> Prop) -> Prop} {q : List Sl -> Prop} (h : g d S fun S1 => u r S1 q) : oW g u (d :: r) S q := ⟨d, r, rfl, h⟩
def u0 (i : Nat) (W : aW) : List D -> List Sl -> Prop := fun ds S1 => i < S1.length /\ W.nx (S1.set i (.own ds))
theorem xN {i : Nat} (h : vn S (u0 i W)) : uU i vn W S := h
theorem sR {i : Nat} (e : Nat.ble (i + 1) S.length = true) (h : W.nx (S.set i (.own ds))) : u0 i W ds S := ⟨Nat.le_of_ble_eq_true e, h⟩
def u5 (i : Nat) (W : aW) : List D -> List Sl -> Prop := fun ds S1 => ∃ ns : List Int, ds = ns.map .int /\ i < S1.length /\ W.nx (S1.set i (.pen none ns))
theorem xO {i : Nat} (h : vn S (u5 i W)) : uV i vn W S := h
theorem mx {i : Nat} (e : Nat.ble (i + 1) S.length = true) (h : W.nx (S.set i (.pen none ns))) : u5 i W (ns.map .int) S := ⟨ns, rfl, Nat.le_of_ble_eq_true e, h⟩
def Aj (W : aW) : VR -> List Sl -> Prop := fun r S1 => ∃ d, retD S1 r = some d /\ W.rt d S1
theorem Ak (h : va S (Aj W)) : zW va W S := h
theorem xP (e : retD S r = some d) (h : W.rt d S) : Aj W r S := ⟨d, e, h⟩
def kIf (t u : VTS) (W : aW) : Bool -> List Sl -> Prop := fun b S1 => if b = true then t W S1 else u W S1
theorem Al {u : VTS} (h : vt S (kIf t u W)) : zX vt t u W S := h
theorem Am {u : VTS} {b : Bool} (h1 : b = true -> t W S) (h2 : b = false -> u W S) : kIf t u W b S := by
 cases b with
 | true => show (if true = true then _ else _); rw [if_pos rfl]; exact h1 rfl
 | false => show (if false = true then _ else _); rw [if_neg Bool.false_ne_true]; exact h2 rfl
theorem pC {u : VTS} (h : t W S) : kIf t u W true S := by show (if true = true then _ else _); rw [if_pos rfl]; exact h
theorem pD {u : VTS} (h : u W S) : kIf t u W false S := by show (if false = true then _ else _); rw [if_neg Bool.false_ne_true]; exact h
theorem bZ {u : VTS} {p : Prop} [Decidable p] (h1 : p -> t W S) (h2 : ¬p -> u W S) : kIf t u W (decide p) S := Am (fun e => h1 (of_decide_eq_true e)) (fun e => h2 (of_decide_eq_false e))
def u9 (W : aW) : VR -> List Sl -> Prop := fun _ S1 => W.nx S1
theorem xQ (h : va S (u9 W)) : uS va W S := h
theorem sS (h : W.nx S) : u9 W r S := h
theorem xR (h : W.nx S) : uR W S := h
theorem j_c (h : Q (.d d) S) : vC d S Q := h
theorem An {i : Nat} (e : rdO i S[i]? = some r) (h : Q r S) : sH i S Q := ⟨r, e, h⟩
def pE (Q : VR -> List Sl -> Prop) : VR -> List Sl -> Prop := fun r S' => (match r with | .d d => flat d = true | .own _ => True) /\ Q r S'
theorem xS (h : va S (pE Q)) : oP va S Q := h
theorem eQ (e : flat d = true) (h : Q (.d d) S) : pE Q (.d d) S := ⟨e, h⟩
theorem pF {i : Nat} (h : Q (.own i) S) : pE Q (.own i) S := ⟨trivial, h⟩
def k2a (w : D -> D -> (D -> Prop) -> Prop) (vb : VT) (Q : VR -> List Sl -> Prop) : VR -> List Sl -> Prop := fun ra S1 => vb S1 fun rb S2 => ∃ d1 d2, get S2 ra = some d1 /\ get S2 rb = some d2 /\ w d1 d2 fun d => Q (.d d) S2
def k2b (w : D -> D -> (D -> Prop) -> Prop) (Q : VR -> List Sl -> Prop) (ra : VR) : VR -> List Sl -> Prop := fun rb S2 => ∃ d1 d2, get S2 ra = some d1 /\ get S2 rb = some d2 /\ w d1 d2 fun d => Q (.d d) S2
theorem j_2 {w : D -> D -> (D -> Prop) -> Prop} (h : va S (k2a w vb Q)) : v2 w va vb S Q := h
theorem B6 {w : D -> D -> (D -> Prop) -> Prop} {ra : VR} (h : vb S (k2b w Q ra)) : k2a w vb Q ra S := h
theorem B7 {w : D -> D -> (D -> Prop) -> Prop} {ra rb : VR} {d1 d2 : D} (e1 : get S ra = some d1) (e2 : get S rb = some d2) (h : w d1 d2 fun d => Q (.d d) S) : k2b w Q ra rb S := ⟨d1, d2, e1, e2, h⟩
theorem Ao {f : Int -> Int -> L2.V} {i j : Int} (h : q (ofV (f i j))) : wI0 f (.int i) (.int j) q := ⟨i, j, rfl, rfl, h⟩
theorem Ap {C : Int -> Int -> Prop} {f : Int -> Int -> L2.V} {i j : Int} (c : C i j) (h : q (ofV (f i j))) : wI C f (.int i) (.int j) q := ⟨i, j, rfl, rfl, c, h⟩
theorem Aq {neg : Bool} (h : q (.bl (if neg then !oQ d else oQ d))) : xf neg d .non q := ⟨rfl, h⟩
def Ar (vb : VT) (Q : VR -> List Sl -> Prop) : VR -> List Sl -> Prop := fun ra S1 => vb S1 fun rb S2 => ∃ ds i d, (get S2 ra = some (.lst ds) \/ get S2 ra = some (.tup ds)) /\ get S2 rb = some (.int i) /\ atI ds i = some d /\ Q (.d d) S2
def xT (Q : VR -> List Sl -> Prop) (ra : VR) : VR -> List Sl -> Prop := fun rb S2 => ∃ ds i d, (get S2 ra = some (.lst ds) \/ get S2 ra = some (.tup ds)) /\ get S2 rb = some (.int i) /\ atI ds i = some d /\ Q (.d d) S2
theorem B8 (h : va S (Ar vb Q)) : vIx va vb S Q := h
theorem As {ra : VR} (h : vb S (xT Q ra)) : Ar vb Q ra S := h
theorem iL {ra rb : VR} {i : Int} (e1 : get S ra = some (.lst ds)) (e2 : get S rb = some (.int i)) (e3 : atI ds i = some d) (h : Q (.d d) S) : xT Q ra rb S := ⟨ds, i, d, .inl e1, e2, e3, h⟩
theorem vf {ra rb : VR} {i : Int} (e1 : get S ra = some (.tup ds)) (e2 : get S rb = some (.int i)) (e3 : atI ds i = some d) (h : Q (.d d) S) : xT Q ra rb S := ⟨ds, i, d, .inr e1, e2, e3, h⟩
def kUn (f : Int -> L2.V) (Q : VR -> List Sl -> Prop) : VR -> List Sl -> Prop := fun r S1 => ∃ i, get S1 r = some (.int i) /\ Q (.d (ofV (f i))) S1
theorem B9 {f : Int -> L2.V} (h : va S (kUn f Q)) : vUn f va S Q := h
theorem Au {f : Int -> L2.V} {i : Int} (e : get S r = some (.int i)) (h : Q (.d (ofV (f i))) S) : kUn f Q r S := ⟨i, e, h⟩
def vj (QT : Bool -> List Sl -> Prop) : VR -> List Sl -> Prop := fun r S' => ∃ k, r = .d (.bl k) /\ QT k S'
theorem xU (h : va S (vj QT)) : iI va S QT := h
theorem sT {k : Bool} (h : QT k S) : vj QT (.d (.bl k)) S := ⟨k, rfl, h⟩
def sU (u : VTT) (QT : Bool -> List Sl -> Prop) : Bool -> List Sl -> Prop := fun c S1 => if c = true then u S1 QT else QT false S1
def kOr (u : VTT) (QT : Bool -> List Sl -> Prop) : Bool -> List Sl -> Prop := fun c S1 => if c = true then QT true S1 else u S1 QT
def Av (QT : Bool -> List Sl -> Prop) : Bool -> List Sl -> Prop := fun c S1 => QT (!c) S1
theorem Aw (h : vt S (sU vu QT)) : zK vt vu S QT := h
theorem Ca (h : vt S (kOr vu QT)) : vOr vt vu S QT := h
theorem Ax (h : vt S (Av QT)) : zL vt S QT := h
theorem xV {b : Bool} (h : QT (!b) S) : Av QT b S := h
theorem pG {b : Bool} (h1 : b = true -> vu S QT) (h2 : b = false -> QT false S) : sU vu QT b S := by
 cases b with
 | true => show (if true = true then _ else _); rw [if_pos rfl]; exact h1 rfl
 | false => show (if false = true then _ else _); rw [if_neg Bool.false_ne_true]; exact h2 rfl
theorem vm {b : Bool} (h1 : b = true -> QT true S) (h2 : b = false -> vu S QT) : kOr vu QT b S := by
 cases b with
 | true => show (if true = true then _ else _); rw [if_pos rfl]; exact h1 rfl
 | false => show (if false = true then _ else _); rw [if_neg Bool.false_ne_true]; exact h2 rfl
theorem pH (h : vu S QT) : kOr vu QT false S := vm (fun e => nomatch e) fun _ => h
theorem xW (h : QT true S) : kOr vu QT true S := vm (fun _ => h) fun e => nomatch e
theorem sV (h : vu S QT) : sU vu QT true S := pG (fun _ => h) fun e => nomatch e
theorem sW (h : QT false S) : sU vu QT false S := pG (fun e => nomatch e) fun _ => h
def pI (vb : VT) (Q : VR -> List Sl -> Prop) : VR -> List Sl -> Prop := fun r S1 => ∃ c, r = .d (.bl c) /\ if c = true then vb S1 Q else Q (.d (.bl false)) S1
def xX (vb : VT) (Q : VR -> List Sl -> Prop) : VR -> List Sl -> Prop := fun r S1 => ∃ c, r = .d (.bl c) /\ if c = true then Q (.d (.bl true)) S1 else vb S1 Q
theorem xY (h : va S (pI vb Q)) : uQ va vb S Q := h
theorem Ay (h : va S (xX vb Q)) : zM va vb S Q := h
theorem sX {c : Bool} (h1 : c = true -> vb S Q) (h2 : c = false -> Q (.d (.bl false)) S) : pI vb Q (.d (.bl c)) S := ⟨c, rfl, by
 cases c with
 | true => rw [if_pos rfl]; exact h1 rfl
 | false => rw [if_neg Bool.false_ne_true]; exact h2 rfl⟩
theorem xZ {c : Bool} (h1 : c = true -> Q (.d (.bl true)) S) (h2 : c = false -> vb S Q) : xX vb Q (.d (.bl c)) S := ⟨c, rfl, by
 cases c with
 | true => rw [if_pos rfl]; exact h1 rfl
 | false => rw [if_neg Bool.false_ne_true]; exact h2 rfl⟩
def sY (va vb : VT) (Q : VR -> List Sl -> Prop) : Bool -> List Sl -> Prop := fun c S1 => if c = true then va S1 Q else vb S1 Q
theorem Az (h : vt S (sY va vb Q)) : vIf vt va vb S Q := h
theorem pJ {b : Bool} (h1 : b = true -> va S Q) (h2 : b = false -> vb S Q) : sY va vb Q b S := by
 cases b with
 | true => show (if true = true then _ else _); rw [if_pos rfl]; exact h1 rfl
 | false => show (if false = true then _ else _); rw [if_neg Bool.false_ne_true]; exact h2 rfl
theorem AA (h : QA [] S) : xj S QA := h
def pK (vr : VTA) (QA : List VR -> List Sl -> Prop) : VR -> List Sl -> Prop := fun r S1 => vr S1 fun rs S2 => QA (r :: rs) S2
theorem x4 (h : va S (pK vr QA)) : mi va vr S QA := h
theorem sZ (h : vr S fun rs S2 => QA (r :: rs) S2) : pK vr QA r S := h
def kL (Q : VR -> List Sl -> Prop) : List VR -> List Sl -> Prop := fun rs S1 => ∃ ds, allD rs = some ds /\ ds.length <= 1000 /\ Q (.d (.tup ds)) S1
theorem AB (h : vr S (kL Q)) : zO vr S Q := h
theorem x5 (e : allD rs = some ds) (e2 : Nat.ble ds.length 1000 = true) (h : Q (.d (.tup ds)) S) : kL Q rs S := ⟨ds, e, Nat.le_of_ble_eq_true e2, h⟩
def AC (QN : List D -> List Sl -> Prop) : List VR -> List Sl -> Prop := fun rs S1 => ∃ ds, allD rs = some ds /\ ds.length <= 1000 /\ QN ds S1
theorem AD (h : vr S (AC QN)) : zP vr S QN := h
theorem x6 (e : allD rs = some ds) (e2 : Nat.ble ds.length 1000 = true) (h : QN ds S) : AC QN rs S := ⟨ds, e, Nat.le_of_ble_eq_true e2, h⟩
def AE (Q : VR -> List Sl -> Prop) : List D -> List Sl -> Prop := fun ds S1 => Q (.d (.lst ds)) S1
theorem AF (h : vn S (AE Q)) : xk vn S Q := h
theorem x8 (h : Q (.d (.lst ds)) S) : AE Q ds S := h
def kCB (w : List D -> (D -> Prop) -> Prop) (Q : VR -> List Sl -> Prop) : List VR -> List Sl -> Prop := fun rs S1 => ∃ ds, gets S1 rs = some ds /\ w ds fun d => Q (.d d) S1
theorem Cb {w : List D -> (D -> Prop) -> Prop} (h : vr S (kCB w Q)) : vCB w vr S Q := h
theorem AG {w : List D -> (D -> Prop) -> Prop} (e : gets S rs = some ds) (h : w ds fun d => Q (.d d) S) : kCB w Q rs S := ⟨ds, e, h⟩
theorem x9 {es : List D} (h : q (.int es.length)) : xo [.lst es] q := ⟨es, .inl rfl, h⟩
theorem ya {es : List D} (h : q (.int es.length)) : xo [.tup es] q := ⟨es, .inr rfl, h⟩
theorem Cd {f : Int -> Int -> Int} {i j : Int} (h : q (.int (f i j))) : wMM f [.int i, .int j] q := ⟨i, j, rfl, h⟩
theorem Ce (h : vr S (kCB p Q)) : vFn p vr S Q := h
def AH (p : List D -> (D -> Prop) -> Prop) (QN : List D -> List Sl -> Prop) : List VR -> List Sl -> Prop := fun rs S1 => ∃ ds, gets S1 rs = some ds /\ p ds fun d => ∃ es, d = .lst es /\ flats es = true /\ QN es S1
theorem AI (h : vr S (AH p QN)) : xp p vr S QN := h
theorem yb (e : gets S rs = some ds) (h : p ds fun d => ∃ es, d = .lst es /\ flats es = true /\ QN es S) : AH p QN rs S := ⟨ds, e, h⟩
def AJ (j : Nat) (p : List Int -> List D -> (D -> List Int -> Prop) -> Prop) (Q : VR -> List Sl -> Prop) : List VR -> List Sl -> Prop := fun rs S1 => ∃ i rs' ad ns ds, pick rs j = some (i, rs') /\ S1[i]? = some (.pen ad ns) /\ allD rs' = some ds /\ p ns ds fun d ns' => Q (.d d) (S1.set i (.pen ad ns'))
theorem AK {j : Nat} {p : List Int -> List D -> (D -> List Int -> Prop) -> Prop} (h : vr S (AJ j p Q)) : xC j p vr S Q := h
theorem yc {j : Nat} {p : List Int -> List D -> (D -> List Int -> Prop) -> Prop} {rs rs' : List VR} {i : Nat} {ad : Option Addr} (e1 : pick rs j = some (i, rs')) (e2 : S[i]? = some (.pen ad ns)) (e3 : allD rs' = some ds) (h : p ns ds fun d ns' => Q (.d d) (S.set i (.pen ad ns'))) : AJ j p Q rs S := ⟨i, rs', ad, ns, ds, e1, e2, e3, h⟩
def my (QN : List D -> List Sl -> Prop) : List VR -> List Sl -> Prop := fun rs S1 => ∃ r ds, rs = [r] /\ (get S1 r = some (.lst ds) \/ get S1 r = some (.tup ds)) /\ flats ds = true /\ QN ds S1
theorem pL (h : vr S (my QN)) : mm vr S QN := h
theorem pM (e : get S r = some (.tup ds)) (f : flats ds = true) (h : QN ds S) : my QN [r] S := ⟨r, ds, rfl, .inr e, f, h⟩
def pN (Q : VR -> List Sl -> Prop) : List VR -> List Sl -> Prop := fun rs S1 => ∃ r ds, rs = [r] /\ (get S1 r = some (.lst ds) \/ r = .d (.tup ds)) /\ flats ds = true /\ Q (.d (.tup ds)) S1
theorem tf (h : vr S (pN Q)) : oT vr S Q := h
theorem mz (e : get S r = some (.lst ds)) (f : flats ds = true) (h : Q (.d (.tup ds)) S) : pN Q [r] S := ⟨r, ds, rfl, .inl e, f, h⟩
def AL (i : Nat) (Q : VR -> List Sl -> Prop) : VR -> List Sl -> Prop := fun r S1 => ∃ d ds, r = .d d /\ S1[i]? = some (.own ds) /\ ds.length <= 1000000 /\ Q (.d .non) (S1.set i (.own (ds ++ [d])))
theorem AM {i : Nat} (e : S[i]? = some (.own ds)) (h : va S (AL i Q)) : xy i va S Q := ⟨⟨ds, e⟩, h⟩
theorem pO {i : Nat} (e : S[i]? = some (.own ds)) (e2 : ds.length <= 1000000) (h : Q (.d .non) (S.set i (.own (ds ++ [d])))) : AL i Q (.d d) S := ⟨d, ds, rfl, e, e2, h⟩
def mB (i : Nat) (vi : VT) (W : aW) : VR -> List Sl -> Prop := fun r S1 => (∃ s, S1[i]? = some s /\ s.mut = true) /\ vi S1 fun ri S2 => ∃ j, get S2 ri = some (.int j) /\
  ((∃ ad ns k n, S2[i]? = some (.pen ad ns) /\ ixN ns.length j = some k /\ r = .d (.int n) /\ W.nx (S2.set i (.pen ad (ns.set k n)))) \/
   (∃ ds k d, S2[i]? = some (.own ds) /\ ixN ds.length j = some k /\ r = .d d /\ W.nx (S2.set i (.own (ds.set k d)))))
def mD (i : Nat) (W : aW) (r : VR) : VR -> List Sl -> Prop := fun ri S2 => ∃ j, get S2 ri = some (.int j) /\
  ((∃ ad ns k n, S2[i]? = some (.pen ad ns) /\ ixN ns.length j = some k /\ r = .d (.int n) /\ W.nx (S2.set i (.pen ad (ns.set k n)))) \/
   (∃ ds k d, S2[i]? = some (.own ds) /\ ixN ds.length j = some k /\ r = .d d /\ W.nx (S2.set i (.own (ds.set k d)))))
theorem tj {i : Nat} (h : va S (mB i vb W)) : oX i va vb W S := h
theorem pP {i : Nat} {s : Sl} (e : S[i]? = some s) (m : s.mut = true) (h : vb S (mD i W r)) : mB i vb W r S := ⟨⟨s, e, m⟩, h⟩
theorem nG {i : Nat} {ri : VR} {j n : Int} {ad : Option Addr} {k : Nat} (e1 : get S ri = some (.int j)) (e2 : S[i]? = some (.pen ad ns)) (e3 : ixN ns.length j = some k) (h : W.nx (S.set i (.pen ad (ns.set k n)))) : mD i W (.d (.int n)) ri S := ⟨j, e1, .inl ⟨ad, ns, k, n, e2, e3, rfl, h⟩⟩
def kFor (g : VG) (b : VTS) (W : aW) : List D -> List Sl -> Prop := fun ds S1 => runFor g b W ds S1 \/ ∃ Iv : Nat -> List Sl -> Prop, Iv 0 S1 /\ (∀ i d S2, ds[i]? = some d -> Iv i S2 -> g d S2 fun S3 => b { W with nx := Iv (i + 1), ct := Iv (i + 1), bk := W.nx } S3) /\ ∀ S2, Iv ds.length S2 -> W.nx S2
theorem AN {b : VTS} (h : vn S (kFor g b W)) : Ae vn g b W S := h
theorem jl {b : VTS} (Iv : Nat -> List Sl -> Prop) (h0 : Iv 0 S) (h1 : ∀ i d S2, ds[i]? = some d -> Iv i S2 -> g d S2 fun S3 => b ⟨Iv (i + 1), W.rt, W.nx, Iv (i + 1)⟩ S3) (h2 : ∀ S2, Iv ds.length S2 -> W.nx S2) : kFor g b W ds S := .inr ⟨Iv, h0, h1, h2⟩
theorem jm {b : VTS} {lo : Int} {n : Nat} (Iv : Nat -> List Sl -> Prop) (h0 : Iv 0 S) (h1 : ∀ i S2, i < n -> Iv i S2 -> g (.int (lo + (i : Int))) S2 fun S3 => b ⟨Iv (i + 1), W.rt, W.nx, Iv (i + 1)⟩ S3) (h2 : ∀ S2, Iv n S2 -> W.nx S2) : kFor g b W (rg lo n) S :=
 .inr ⟨Iv, h0, fun i d S2 e p => by
  have hi : i < n := by have := (List.getElem?_eq_some_iff.mp e).1; rwa [fC] at this
  rw [oY hi] at e
  cases e
  exact h1 i S2 hi p, fun S2 p => h2 S2 (by rwa [fC] at p)⟩
def AO (QN : List D -> List Sl -> Prop) : VR -> List Sl -> Prop := fun r S1 => ∃ ds, r = .d (.lst ds) /\ QN ds S1
def AQ (QN : List D -> List Sl -> Prop) : VR -> List Sl -> Prop := fun r S1 => ∃ ds, r = .d (.tup ds) /\ QN ds S1
theorem AR (h : va S (AO QN)) : Aa va S QN := h
theorem AS (h : va S (AQ QN)) : Ab va S QN := h
theorem yd (h : QN ds S) : AO QN (.d (.lst ds)) S := ⟨ds, rfl, h⟩
theorem ye (h : QN ds S) : AQ QN (.d (.tup ds)) S := ⟨ds, rfl, h⟩
def AT (QN : List D -> List Sl -> Prop) : List VR -> List Sl -> Prop := fun rs S1 => ∃ j : Int, rs = [.d (.int j)] /\ -(2 ^ 62) <= j /\ j < 2 ^ 62 /\ QN (rg 0 j.toNat) S1
def AU (QN : List D -> List Sl -> Prop) : List VR -> List Sl -> Prop := fun rs S1 => ∃ i j : Int, rs = [.d (.int i), .d (.int j)] /\ (-(2 ^ 62) <= i /\ i < 2 ^ 62 /\ -(2 ^ 62) <= j /\ j < 2 ^ 62) /\ QN (rg i (j - i).toNat) S1
theorem AV (h : vr S (AT QN)) : Ac vr S QN := h
theorem AW (h : vr S (AU QN)) : Ad vr S QN := h
theorem yf {j : Int} (h1 : 0 <= j /\ j < 1000000) (h : QN (rg 0 j.toNat) S) : AT QN [.d (.int j)] S := ⟨j, rfl, by lia, by lia, h⟩
theorem yg {i j : Int} (h1 : -1000000 <= i /\ i < 1000000 /\ -1000000 <= j /\ j < 1000000) (h : QN (rg i (j - i).toNat) S) : AU QN [.d (.int i), .d (.int j)] S := ⟨i, j, rfl, ⟨by lia, by lia, by lia, by lia⟩, h⟩
def iM (n : Nat) (ix : List Nat) (g : VG) (vt : VTT) (ve : VT) (QN : List D -> List Sl -> Prop) : List D -> List Sl -> Prop := fun ds S1 => ds.length <= 1000000 /\ ∃ Iv : Nat -> List D -> List Sl -> Prop, Iv 0 [] S1 /\
 (∀ i d ys S2, ds[i]? = some d -> Iv i ys S2 -> g d (bE n ix S2) fun S3 => vt S3 fun b S4 => if b = true then ve S4 fun r S5 => ∃ x, r = .d x /\ Iv (i + 1) (ys ++ [x]) (backS n ix S2 S5) else Iv (i + 1) ys (backS n ix S2 S4)) /\
 ∀ ys S2, Iv ds.length ys S2 -> QN ys S2
theorem yh {n : Nat} {ve : VT} (h : vn S (iM n ix g vt ve QN)) : ph vn n ix g vt ve S QN := h
def eh (ve : VT) (A : D -> List Sl -> Prop) (B : List Sl -> Prop) : Bool -> List Sl -> Prop := fun b S4 => if b = true then ve S4 fun r S5 => ∃ x, r = .d x /\ A x S5 else B S4
def lh (A : D -> List Sl -> Prop) : VR -> List Sl -> Prop := fun r S5 => ∃ x, r = .d x /\ A x S5
theorem tm {n : Nat} {ve : VT} (Iv : Nat -> List D -> List Sl -> Prop) (hl : ds.length <= 1000000) (h0 : Iv 0 [] S)
  (h1 : ∀ i d ys S2, ds[i]? = some d -> Iv i ys S2 -> g d (bE n ix S2) fun S3 => vt S3 (eh ve (fun x S5 => Iv (i + 1) (ys ++ [x]) (backS n ix S2 S5)) (fun S4 => Iv (i + 1) ys (backS n ix S2 S4)))) (h2 : ∀ ys S2, Iv ds.length ys S2 -> QN ys S2) : iM n ix g vt ve QN ds S := ⟨hl, Iv, h0, h1, h2⟩
theorem pQ {n : Nat} {ve : VT} {lo : Int} {m : Nat} (Iv : Nat -> List D -> List Sl -> Prop) (hl : m <= 1000000) (h0 : Iv 0 [] S)
  (h1 : ∀ i ys S2, i < m -> Iv i ys S2 -> g (.int (lo + (i : Int))) (bE n ix S2) fun S3 => vt S3 (eh ve (fun x S5 => Iv (i + 1) (ys ++ [x]) (backS n ix S2 S5)) (fun S4 => Iv (i + 1) ys (backS n ix S2 S4)))) (h2 : ∀ ys S2, Iv m ys S2 -> QN ys S2) : iM n ix g vt ve QN (rg lo m) S :=
 ⟨by rw [fC]; exact hl, Iv, h0, fun i d ys S2 e p => by
  have hi : i < m := by have := (List.getElem?_eq_some_iff.mp e).1; rwa [fC] at this
  rw [oY hi] at e
  cases e
  exact h1 i ys S2 hi p, fun ys S2 p => h2 ys S2 (by rwa [fC] at p)⟩
theorem yi (h : QT true S) : uW S QT := h
theorem eS {ve : VT} {A : D -> List Sl -> Prop} {B : List Sl -> Prop} {b : Bool} (h1 : b = true -> ve S (lh A)) (h2 : b = false -> B S) : eh ve A B b S := by
 cases b with
 | true => show (if true = true then _ else _); rw [if_pos rfl]; exact h1 rfl
 | false => show (if false = true then _ else _); rw [if_neg Bool.false_ne_true]; exact h2 rfl
theorem nH {ve : VT} {A : D -> List Sl -> Prop} {B : List Sl -> Prop} (h : ve S (lh A)) : eh ve A B true S := eS (fun _ => h) fun e => nomatch e
theorem j3 {A : D -> List Sl -> Prop} {x : D} (h : A x S) : lh A (.d x) S := ⟨x, rfl, h⟩
theorem AX {i j : Int} (h : q (.bl (decide (i = j)))) : wEq (.int i) (.int j) q := ⟨.int i, .int j, rfl, rfl, rfl, by simpa using h⟩
theorem AY {i j : Int} (h : q (.bl (!decide (i = j)))) : wNe (.int i) (.int j) q := ⟨.int i, .int j, rfl, rfl, rfl, by simpa using h⟩
theorem AZ {c : String} {b : Bool} (hn : ∀ n, d ≠ .ty n) (e : nq (tyD d) c = some b) (h : q (.bl b)) (hE : isE d = false := by with_unfolding_all rfl) : zT [d, .ty c] q := ⟨d, c, b, rfl, hn, hE, e, h⟩
end
end VL
end
section
namespace VL
open PySem L2
section
variable {K : PySem.W.Frag} {X : Cx} {m : Bool} {e a b c o : Expr} {ta tb tc te : TE} {va vb vc : VT} {pos : Pos}
def A0 : D -> D -> (D -> Prop) -> Prop := fun d1 d2 q => ∃ ns ms, d1 = eT ns /\ d2 = eT ms /\ q (.bl (HT.lexLt ns ms))
theorem A1 : cf K (zA K) A0 := by
 rintro x y H d1 d2 q C r1 r2 ⟨ns, ms, rfl, rfl, h⟩ hc
 obtain ⟨p, vs, rfl, h1, rr⟩ := Rep.sqT r1
 obtain ⟨p', vs', rfl, h2, rr'⟩ := Rep.sqT r2
 cases Reps.toInts rr
 cases Reps.toInts rr'
 exact ⟨p, p', ns, ms, rfl, rfl, h1, h2, hc _ _ h fun _ _ => .bl _⟩
theorem A2 {ns ms : List Int} (h : q (.bl (HT.lexLt ns ms))) : A0 (eT ns) (eT ms) q := ⟨ns, ms, rfl, rfl, h⟩
theorem mE : ∀ {ps : List Addr} {nss : List (List Int)} {N : AP} {F : FP} {H : Hp}, Tups K (fun _ => none) ps nss -> Reps K N F H (ps.map V.ref) (nss.map eT)
 | _, _, _, _, _, .nil => .nil
 | _, _, _, _, _, .cons h t => .cons (.tupK h Reps.ints) (mE t)
end
section
variable {S : List Sl} {Q : VR -> List Sl -> Prop} {QT : Bool -> List Sl -> Prop} {W : aW} {va vb : VT} {vt vu : VTT} {t u : VTS} {b : Bool}
theorem A3 (e : b = false) (h : vu S QT) : kOr vu QT b S := by subst e; exact pH h
theorem A4 (e : b = true) (h : t W S) : kIf t u W b S := by subst e; exact pC h
theorem A5 (e : b = false) (h : u W S) : kIf t u W b S := by subst e; exact pD h
theorem Cf (e : b = true) (h : va S Q) : sY va vb Q b S := by subst e; exact pJ (fun _ => h) fun e => nomatch e
theorem Cg (e : b = false) (h : vb S Q) : sY va vb Q b S := by subst e; exact pJ (fun e => nomatch e) fun _ => h
theorem A6 {c : Bool} (e : c = true) (h : vb S Q) : pI vb Q (.d (.bl c)) S := by subst e; exact sX (fun _ => h) fun e => nomatch e
theorem A7 {c : Bool} (e : c = false) (h : vb S Q) : xX vb Q (.d (.bl c)) S := by subst e; exact xZ (fun e => nomatch e) fun _ => h
end
section
variable {α : Type} {S : List Sl} {QN : List D -> List Sl -> Prop} {g : VG} {vt : VTT} {ve : VT} {n : Nat} {ix : List Nat}
theorem bH {β : Type} {xs : List α} {en : α -> β} {i : Nat} {d : β} (h : (xs.map en)[i]? = some d) : ∃ x, xs[i]? = some x /\ d = en x /\ x ∈ xs /\ xs.take (i + 1) = xs.take i ++ [x] := by
 rw [List.getElem?_map] at h
 obtain ⟨x, h1, h2⟩ := Option.map_eq_some_iff.mp h
 refine ⟨x, h1, h2.symm, List.mem_of_getElem? h1, ?_⟩
 rw [List.take_add_one, h1]
 rfl
theorem dr {xs : List α} {en f : α -> D} {p : α -> Bool} (hl : xs.length <= 1000000)
  (h : ∀ x ∈ xs, ∀ (A : D -> List Sl -> Prop) (B : List Sl -> Prop), (∀ S5, backS n ix S S5 = S -> p x = true -> A (f x) S5) -> (∀ S5, backS n ix S S5 = S -> p x = false -> B S5) -> g (en x) (bE n ix S) fun S3 => vt S3 (eh ve A B))
  (h2 : QN ((xs.filter p).map f) S) : iM n ix g vt ve QN (xs.map en) S := by
 refine tm (fun i ys S' => S' = S /\ ys = ((xs.take i).filter p).map f) (by simpa using hl) ⟨rfl, by simp⟩ ?_ ?_
 ·rintro i d ys S2 e ⟨rfl, rfl⟩
  obtain ⟨x, h1, rfl, hm, ht⟩ := bH e
  refine h x hm _ _ (fun S5 e5 hp => ⟨e5, ?_⟩) (fun S5 e5 hp => ⟨e5, ?_⟩)
  ·rw [ht, List.filter_append, List.map_append]
   simp [hp]
  ·rw [ht, List.filter_append, List.map_append]
   simp [hp]
 ·rintro ys S2 ⟨rfl, rfl⟩
  rw [List.length_map, List.take_length]
  exact h2
theorem comp_map {xs : List α} {en f : α -> D} (hl : xs.length <= 1000000)
  (h : ∀ x ∈ xs, ∀ (A : D -> List Sl -> Prop) (B : List Sl -> Prop), (∀ S5, backS n ix S S5 = S -> A (f x) S5) -> g (en x) (bE n ix S) fun S3 => vt S3 (eh ve A B))
  (h2 : QN (xs.map f) S) : iM n ix g vt ve QN (xs.map en) S := by
 refine dr (p := fun _ => true) hl (fun x hx A B hA _ => h x hx A B fun S5 e => hA S5 e rfl) ?_
 rwa [List.filter_eq_self.mpr (by intros; rfl)]
end
section
variable {α : Type} [DecidableEq α] {n : Nat} {f : α -> D} {x y : α} {l : List α} {q : D -> Prop}
theorem A8 (e : Enc n f) (hx : x ∉ l) (h : q (.bl true)) (hn : n + 1 <= 40 := by decide) : kY true (f x) (.lst (l.map f)) q := jZ e (by rw [decide_eq_false hx]; exact h) hn
theorem A9 (e : Enc n f) (hx : x ∈ l) (h : q (.bl false)) (hn : n + 1 <= 40 := by decide) : kY true (f x) (.lst (l.map f)) q := jZ e (by rw [decide_eq_true hx]; exact h) hn
theorem vp (e : Enc n f) (hx : x = y) (h : q (.bl true)) (hn : n <= 40 := by decide) : gI false (f x) (f y) q := uY e (by rw [decide_eq_true hx]; exact h) hn
theorem vq (e : Enc n f) (hx : x ≠ y) (h : q (.bl false)) (hn : n <= 40 := by decide) : gI false (f x) (f y) q := uY e (by rw [decide_eq_false hx]; exact h) hn
theorem Ba (e : Enc n f) (hx : x ≠ y) (h : q (.bl true)) (hn : n <= 40 := by decide) : gI true (f x) (f y) q := uZ e (by rw [decide_eq_false hx]; exact h) hn
theorem Bb (e : Enc n f) (hx : x = y) (h : q (.bl false)) (hn : n <= 40 := by decide) : gI true (f x) (f y) q := uZ e (by rw [decide_eq_true hx]; exact h) hn
end
end VL
end
section
namespace VL
open PySem L2 PySem.SeqAt PySem.Spec PyProof.Rows
section
variable {X : Cx} {pins : List (Addr × Obj)} {σ : L2.St} {H : Hp} {s : Shared} {K : PySem.W.Frag}
def vy (K : PySem.W.Frag) (le : Int -> Int -> Prop) : List V -> Hp -> VK -> Prop := fun xs H Q => ∃ (l : Addr) (ns : List Int), xs = [.ref l] /\ SqL K H l (ns.map V.int) /\ ns ≠ [] /\ ∀ M, M ∈ ns -> (∀ a ∈ ns, le M a) -> Q (.int M) H
theorem li (hK : X.K = K) (hc : X.calm = true) : bO X (.builtin "max") (vy K fun M a => a <= M) := by
 rintro pins s σ H xs us Q I r ⟨l, ns, e, hq, hne, q⟩
 subst e hK
 obtain ⟨u, rfl, rx⟩ := Vals.one r
 cases rx
 obtain ⟨vs, rv, pl, _⟩ := I.list hq
 obtain ⟨m, F⟩ := I.fr
 exact PySem.W.kso_max F gk pl.isList (by simpa using intsAre_of rv) (List.length_pos_iff.mpr hne) (I.ok.hd hc) fun h' M t tk F' N' h1 h2 => ⟨.int M, H, I.led (t' := tk) F.ns F' N', ⟨_, rfl⟩, q M h1 h2⟩
def vz (le : Int -> Int -> Prop) : List D -> (D -> Prop) -> Prop := fun ds q => ∃ ns : List Int, ds = [.lst (ns.map .int)] /\ ns ≠ [] /\ ∀ M, M ∈ ns -> (∀ a ∈ ns, le M a) -> q (.int M)
theorem lj {le : Int -> Int -> Prop} : fJ K (vy K le) (vz le) := by
 rintro xs H ds q C r ⟨ns, rfl, hne, h⟩ hc
 obtain ⟨v, rfl, rv⟩ := rep1 r
 obtain ⟨a, vs, rfl, hq, rr⟩ := rv.sqL
 cases Reps.toInts rr
 exact ⟨a, ns, rfl, hq, hne, fun M h1 h2 => hc _ _ (h M h1 h2) fun _ _ => .int _⟩
end
section
variable {K : PySem.W.Frag} {X : Cx} {m : Bool} {e a b : Expr} {ta tb te : TE} {va vb : VT} {tr : TA} {vr : VTA} {pos p : Pos}
def Bc (va : VT) : VTT := fun S Q => va S fun r S1 => ∃ d b, get S1 r = some d /\ tru d = some b /\ Q b S1
theorem pR (hK : X.K = K) (h : VE K X false e te va) (he : ∀ whole, isTrue e X.env whole = (do let v <- whole; standAt e.pos; holding [v] (truthy v)) := by intro _; rfl) : VTe K X e (fun σ H Q => te σ H fun x H' => ∃ k, TruV K x H' k /\ Q k H') (Bc va) :=
 ⟨by subst hK; exact ot h.pe he, fun H0 Z σ H S Q C k t hc => h.snd H0 Z σ H S _ _ k t fun v H1 r S1 k1 st1 rr zq1 => by
  obtain ⟨d, b, e1, e2, q⟩ := zq1
  refine ⟨b, ?_, hc b H1 S1 k1 st1 q⟩
  have r1 := rr.get k1 e1
  cases d with
  | int i => cases r1; cases e2; rfl
  | bl i => cases r1; cases e2; rfl
  | non => cases r1; cases e2; rfl
  | str i => cases e2
  | ty i => cases e2
  | dic ks i => cases e2
  | exc i => cases e2
  | tup ds => obtain ⟨a, vs, rfl, hq, rr'⟩ := r1.sqT; cases e2; exact .inr (.inl ⟨vs, hq, by cases rr' <;> rfl⟩)
  | lst ds => obtain ⟨a, vs, rfl, hq, rr'⟩ := r1.sqL; cases e2; exact .inl ⟨vs, hq, by cases rr' <;> rfl⟩⟩
def Bd (i : Nat) (t : VTN) : VTN := fun S Q => (∃ ds, S[i]? = some (.own ds)) /\ t S fun es S1 => ∃ ds, S1[i]? = some (.own ds) /\ ds.length + es.length <= 1000000 /\ Q (ds ++ es) S1
theorem pS {t : VTN} (i : Nat) (ho : PE X a (cY i)) (h : VN K X b tb t) : VN K X (.BinOp a .Add b pos) (tOp zG (cY i) tb) (Bd i t) := ⟨oo wW ho h.pe, fun H0 Z σ H S Q C k zq1 hc => by
 obtain ⟨⟨ds0, e0⟩, t⟩ := zq1
 obtain ⟨o, g1, c, us, rfl, g2, g3, g4⟩ := k.ownAt e0
 refine ⟨.ref c, g1, h.snd H0 Z σ H S _ _ k t fun a' vs es H1 H' S1 k1 st1 ha hg hl rr zr1 => ?_⟩
 obtain ⟨ds, e1, hlen, q⟩ := zr1
 obtain ⟨o', g1', c', us', rfl, g2', g3', g4'⟩ := k1.ownAt e1
 rw [g1] at g1'; cases g1'
 have k2 := k1.grow hg
 have g2'' : H' c = some (.lst us') := by rw [hg c (by simp [g2'])]; exact g2'
 refine ⟨c, a', us', vs, rfl, rfl, g2'', hl, by rw [g4'.length, rr.length, sizeLine_eq]; lia, fun p hp => ?_⟩
 refine hc p _ _ H' _ S1 k2 (st1.trans (.grow hg)) hp (aJ hp) aq (Reps.append ?_ ?_) q
 ·exact bW hp ((g4'.mono (fun b n e => ⟨n, hg b e⟩) fun _ x => x).mono (fun _ n _ => ⟨n, rfl⟩) fun _ x _ => x)
 ·exact bW hp (rr.mono (fun _ n _ => ⟨n.1, rfl⟩) fun _ x _ => x)⟩
abbrev VO := List Sl -> (Option Int -> List Sl -> Prop) -> Prop
def Ci (K : PySem.W.Frag) (te : TO) (t : VO) : Prop := ∀ H0 Z σ H S Q C, OK K H0 Z σ H S -> t S Q -> (∀ o H' S', OK K H0 Z σ H' S' -> Step Z σ S H σ S' H' -> Q o S' -> C o H') -> te σ H C
structure VOe (K : PySem.W.Frag) (X : Cx) (e : Option Expr) (te : TO) (t : VO) : Prop where
 pe : PO X e te
 snd : Ci K te t
def Be : VO := fun S Q => Q none S
def pT (va : VT) : VO := fun S Q => va S fun r S1 => ∃ i, r = .d (.int i) /\ Q (some i) S1
theorem tw : VOe K X none lV Be := ⟨rZ, fun _ _ _ _ _ _ _ k h q => q _ _ _ k .refl h⟩
theorem tx (h : VE K X false e te va) : VOe K X (some e) (uM te) (pT va) := ⟨sd h.pe, fun H0 Z σ H S Q C k t hc => h.snd H0 Z σ H S _ _ k t fun v H1 r S1 k1 st1 rr zq1 => by
 obtain ⟨i, e, q⟩ := zq1
 subst e
 cases (show Rep K _ _ H1 v (.int i) from rr)
 exact ⟨i, rfl, hc _ H1 S1 k1 st1 q⟩⟩
def cutD (ds : List D) (lo hi : Option Int) : List D := (ds.drop (HT.sIx ds.length 0 lo)).take (HT.sIx ds.length ds.length hi - HT.sIx ds.length 0 lo)
theorem pU {N : AP} (r : Reps K N F H vs ds) (lo hi : Option Int) : Reps K N F H (m9 vs lo hi) (cutD ds lo hi) := by
 unfold m9 cutD
 rw [r.length]
 exact (r.drop _).take _
def vSl (va : VT) (vl vh : VO) : VTN := fun S Q => va S fun r S1 => vl S1 fun lo S2 => vh S2 fun hi S3 => ∃ ds, get S3 r = some (.lst ds) /\ flats ds = true /\ Q (cutD ds lo hi) S3
theorem gM : ∀ {ds : List D} (n : Nat), flats ds = true -> flats (ds.drop n) = true
 | _, 0, h => by simpa using h
 | [], _ + 1, h => by simpa using h
 | d :: r, n + 1, h => by simp only [flats, Bool.and_eq_true] at h; simpa using gM n h.2
theorem gN : ∀ {ds : List D} (n : Nat), flats ds = true -> flats (ds.take n) = true
 | _, 0, h => by simp [flats]
 | [], _ + 1, h => by simpa using h
 | d :: r, n + 1, h => by simp only [flats, Bool.and_eq_true] at h; simp [flats, h.1, gN n h.2]
theorem Bf {lo hi : Option Expr} {tl th : TO} {vl vh : VO} {p2 : Pos} (hK : X.K = K) (h : VE K X false e te va) (hl : VOe K X lo tl vl) (hh : VOe K X hi th vh) : VN K X (.Subscript e (.Slice lo hi none p2) pos) (tSl (zE K) te tl th) (vSl va vl vh) :=
 ⟨by subst hK; exact oB si h.pe hl.pe hh.pe, fun H0 Z σ H S Q C k t hc => h.snd H0 Z σ H S _ _ k t fun v H1 r S1 k1 st1 rr t1 => hl.snd H0 Z σ H1 S1 _ _ k1 t1 fun lo H2 S2 k2 st2 t2 => hh.snd H0 Z σ H2 S2 _ _ k2 t2 fun hi H3 S3 k3 st3 zq1 => by
  obtain ⟨ds, e, f, q⟩ := zq1
  obtain ⟨a, vs, rfl, hq, rs⟩ := ((rr.step st2).step st3).elems k3 e
  exact ⟨a, vs, rfl, hq, fun p hp => hc p _ _ H3 _ S3 k3 ((st1.trans st2).trans st3) hp (aJ hp) aq (fA hp (pU rs lo hi) (by unfold cutD; exact gN _ (gM _ f))) q⟩⟩
end
end VL
end
section
namespace VL
open PySem L2
section
variable {S : List Sl} {Q : VR -> List Sl -> Prop} {QT : Bool -> List Sl -> Prop} {QN : List D -> List Sl -> Prop} {W : aW} {va vb : VT} {vr : VTA} {vn : VTN} {vl vh : VO}
@[irreducible] def tD (i : Nat) (QN : List D -> List Sl -> Prop) : List D -> List Sl -> Prop := fun es S1 => ∃ ds, S1[i]? = some (.own ds) /\ ds.length + es.length <= 1000000 /\ QN (ds ++ es) S1
theorem Bg {i : Nat} (e : S[i]? = some (.own ds)) (h : vn S (tD i QN)) : Bd i vn S QN := by unfold tD at h; exact ⟨⟨ds, e⟩, h⟩
theorem lq {i : Nat} {es ds : List D} (e : S[i]? = some (.own ds)) (hl : ds.length + es.length <= 1000000) (h : QN (ds ++ es) S) : tD i QN es S := by unfold tD; exact ⟨ds, e, hl, h⟩
@[irreducible] def tE (QT : Bool -> List Sl -> Prop) : VR -> List Sl -> Prop := fun r S1 => ∃ d b, get S1 r = some d /\ tru d = some b /\ QT b S1
theorem Bh (h : va S (tE QT)) : Bc va S QT := by unfold tE at h; exact h
theorem jn {b : Bool} (e : get S r = some d) (e2 : tru d = some b) (h : QT b S) : tE QT r S := by unfold tE; exact ⟨d, b, e, e2, h⟩
@[irreducible] def tF (vl vh : VO) (QN : List D -> List Sl -> Prop) : VR -> List Sl -> Prop := fun r S1 => vl S1 fun lo S2 => vh S2 fun hi S3 => ∃ ds, get S3 r = some (.lst ds) /\ flats ds = true /\ QN (cutD ds lo hi) S3
@[irreducible] def tG (r : VR) (vh : VO) (QN : List D -> List Sl -> Prop) : Option Int -> List Sl -> Prop := fun lo S2 => vh S2 fun hi S3 => ∃ ds, get S3 r = some (.lst ds) /\ flats ds = true /\ QN (cutD ds lo hi) S3
@[irreducible] def pV (r : VR) (lo : Option Int) (QN : List D -> List Sl -> Prop) : Option Int -> List Sl -> Prop := fun hi S3 => ∃ ds, get S3 r = some (.lst ds) /\ flats ds = true /\ QN (cutD ds lo hi) S3
theorem Cj (h : va S (tF vl vh QN)) : vSl va vl vh S QN := by unfold tF at h; exact h
theorem yj (h : vl S (tG r vh QN)) : tF vl vh QN r S := by unfold tF; unfold tG at h; exact h
theorem yk {lo : Option Int} (h : vh S (pV r lo QN)) : tG r vh QN lo S := by unfold tG; unfold pV at h; exact h
theorem yl {lo hi : Option Int} (e : get S r = some (.lst ds)) (f : flats ds = true) (h : QN (cutD ds lo hi) S) : pV r lo QN hi S := by unfold pV; exact ⟨ds, e, f, h⟩
theorem tI {lo hi : Option Int} {ds es : List D} (e : get S r = some (.lst ds)) (f : flats ds = true) (e2 : cutD ds lo hi = es) (h : QN es S) : pV r lo QN hi S := yl e f (by rw [e2]; exact h)
variable {QO : Option Int -> List Sl -> Prop}
theorem ym (h : QO none S) : Be S QO := h
@[irreducible] def kVo (QO : Option Int -> List Sl -> Prop) : VR -> List Sl -> Prop := fun r S1 => ∃ i, r = .d (.int i) /\ QO (some i) S1
theorem pW (h : va S (kVo QO)) : pT va S QO := by unfold kVo at h; exact h
theorem Bi {i : Int} (h : QO (some i) S) : kVo QO (.d (.int i)) S := by unfold kVo; exact ⟨i, rfl, h⟩
theorem lr {le : Int -> Int -> Prop} (hne : ns ≠ []) (h : ∀ M, M ∈ ns -> (∀ a ∈ ns, le M a) -> q (.int M)) : vz le [.lst (ns.map .int)] q := ⟨ns, rfl, hne, h⟩
end
end VL
end
section
namespace L2
open PySem PySem.Spec PyProof.Rows
theorem eV : ∀ {vs : List Value} {ns : List Int}, IntsAre vs ns -> Vals (ns.map V.int) vs
 | _, _, .nil => .nil
 | _, _, .cons n t r => .cons ⟨t, rfl⟩ (eV r)
theorem Inv.made_list {X : Cx} {s : Shared} {m : Str -> Option Value} {h' : Heap} {D : Addr} {vs' : List Value} {c : Nat} {ws : List V} (hex : X.ex = []) (I : Inv X pins σ H s) (Fn : s.heap.Ns X.env.locals m) (F' : Fr X.base X.env.locals h' m)
  (N' : News X.base X.env.locals h' ((D, PySem.W.listOf vs'.toArray c) :: bG X.base s.heap X.env.locals)) (hlt : ∀ q ∈ bG X.base s.heap X.env.locals, q.1 < D) (r : Vals ws vs') (hz : ws.length <= sizeLine) :
  H D = none /\ Inv X pins σ (upd H D (.lst ws)) { s with heap := h' } := by
 have N1 : News X.base X.env.locals h' (bG X.base s.heap X.env.locals) := fun p hp => N' p (List.mem_cons_of_mem _ hp)
 have I1 : Inv X pins σ H { s with heap := h' } := I.led (t' := s.toks) Fn F' N1
 have ND := N' (D, _) List.mem_cons_self
 have young : ∀ b o, s.heap.get? b = some o -> b ≠ D := fun b o e z => by
  by_cases hb : b = X.env.locals
  ·exact ND.2.1 (z ▸ hb)
  ·cases q : X.base.get? b with
   | some u => rw [z, ND.2.2] at q; cases q
   | none => exact absurd (hlt (b, o) (cZ hb q e)) (by rw [z]; exact Nat.lt_irrefl _)
 have hDn : H D = none := by
  cases z : H D with
  | none => rfl
  | some u =>
   obtain ⟨ob, eo⟩ := ObjOk.there (I.hok D u z)
   exact absurd rfl (young D ob eo)
 have s0D : X.s₀.heap.get? D = none := by
  cases z : X.s₀.heap.get? D with
  | none => rfl
  | some ob =>
   obtain ⟨o', e'⟩ := I.base.there D ob z (by rw [hex]; simp)
   exact absurd rfl (young D o' e')
 refine ⟨hDn, I1.trackN hDn s0D ND.2.1 (fun x c e z => ?_) (fun p hp z => ?_) ⟨hz, vs', c, r, ND.1⟩⟩
 ·obtain ⟨v, o, ho, _⟩ := I.cell x c e
  exact young c o ho z
 ·exact young p.1 p.2 (I.pin p hp).1 z
def pX (K : PySem.W.Frag) : List V -> Hp -> VK -> Prop := fun xs H Q => ∃ (l : Addr) (ns : List Int), xs = [.ref l] /\ SqL K H l (ns.map V.int) /\ ns.length < 64 /\
 ∀ (D : Addr) (ns' : List Int), H D = none -> ns'.Perm ns -> ns'.Pairwise (· <= ·) -> Q (.ref D) (upd H D (.lst (ns'.map V.int)))
theorem lu {X : Cx} (hex : X.ex = []) : bO X (.builtin "sorted") (pX X.K) := by
 intro pins s σ H xs us Q I r h
 obtain ⟨l, ns, rfl, hl, h64, q⟩ := h
 obtain ⟨u, rfl, rx⟩ := vals1 r
 cases rx
 obtain ⟨vs, rv, pl, hz⟩ := I.list hl
 obtain ⟨m, F⟩ := I.fr
 refine PySem.W.kso_sorted F gk pl.isList (intsAre_of rv) h64 fun D vs' ns' c h' F' N' hlt hi hlen hp hs _ => ?_
 obtain ⟨hD, I2⟩ := I.made_list hex F.ns F' N' hlt (eV hi) (by rw [List.length_map, hlen, sizeLine_eq]; lia)
 exact ⟨.ref D, _, I2, rfl, q D ns' hD hp hs⟩
end L2
namespace VL
open PySem L2
section
variable {K : PySem.W.Frag} {X : Cx} {m : Bool} {e : Expr} {te ta : TE} {va vb : VT} {tr : TA} {vr : VTA} {pos p : Pos}
def pY (vr : VTA) : VTN := fun S Q => vr S fun rs S1 => ∃ r ns, rs = [r] /\ get S1 r = some (.lst (ns.map .int)) /\ ns.length < 64 /\ ∀ ns' : List Int, ns'.Perm ns -> ns'.Pairwise (· <= ·) -> Q (ns'.map .int) S1
theorem pZ (hK : X.K = K) (hex : X.ex = []) (hg : Gl X "sorted") (hm : X.mg "sorted" = none) (hb : bootBuiltins "sorted" = some (.builtin "sorted")) (ha : VA K X false [e] tr vr) (he : starEach [e] X.env = [(false, eval e X.env)] := by rfl) :
  VN K X (.Call (.Name "sorted" p) [e] [] pos) (tCB (pX K) tr) (pY vr) :=
 ⟨by subst hK; exact di (lu hex) hg hm hb ha.pe (by decide) (by decide) he rfl, fun H0 Z σ H S Q C k t hc => ha.snd H0 Z σ H S _ _ k t fun vs H1 rs S1 k1 st1 rrs zq1 => by
  obtain ⟨r, ns, e1, e2, h2, q⟩ := zq1
  subst e1
  obtain ⟨v, rfl, rv⟩ := rrs.one
  obtain ⟨a, ys, rfl, hq, rr⟩ := rv.elems k1 e2
  cases Reps.toInts rr
  exact ⟨a, ns, rfl, hq, h2, fun D ns' hD hp hs => hc D _ _ H1 _ S1 k1 st1 hD (aJ hD) aq Reps.ints (q ns' hp hs)⟩⟩
end
end VL
end
section
namespace VL
open PySem L2
section
variable {K : PySem.W.Frag} {X : Cx} {m : Bool} {e o : Expr} {te : TE} {vb : VT} {pos : Pos}
def Bj (rows : List (Int × List (List Int))) (vb : VT) : VT := fun S Q => vb S fun rb S1 => ∃ k nss, get S1 rb = some (.int k) /\ (k, nss) ∈ rows /\ Q (.d (.tup (nss.map eT))) S1
theorem yn {a : Addr} {rows : List (Int × List (List Int))} (hK : X.K = K) (hd : okD K a rows = true) (ho : PE X o (tC (.ref a))) (h : VE K X false e te vb) (hs : fQ e) : VE K X m (.Subscript o e pos) (tOp (zH K rows) (tC (.ref a)) te) (Bj rows vb) :=
 ⟨by subst hK; exact oC sv ho h.pe hs, fun H0 Z σ H S Q C k t hc => h.snd H0 Z σ H S _ _ k t fun v H1 r S1 k1 st1 rr zq1 => by
  obtain ⟨i, nss, e1, hi, q⟩ := zq1
  cases rr.get k1 e1
  refine ⟨a, i, nss, rfl, rfl, hd, hi, fun v tt => ?_⟩
  obtain ⟨a', ps, rfl, h⟩ := tt
  obtain ⟨h1, h2⟩ := h fun _ => none
  exact hc _ H1 (.d (.tup (nss.map eT))) S1 k1 st1 (show Rep K _ _ H1 (.ref a') (.tup (nss.map eT)) from .tupK h1 (mE h2)) q⟩
end
section
variable {S : List Sl} {Q : VR -> List Sl -> Prop} {vb : VT}
@[irreducible] def tJ (rows : List (Int × List (List Int))) (Q : VR -> List Sl -> Prop) : VR -> List Sl -> Prop := fun rb S1 => ∃ k nss, get S1 rb = some (.int k) /\ (k, nss) ∈ rows /\ Q (.d (.tup (nss.map eT))) S1
theorem Bk {rows : List (Int × List (List Int))} (h : vb S (tJ rows Q)) : Bj rows vb S Q := by unfold tJ at h; exact h
theorem yo {rows : List (Int × List (List Int))} {k : Int} {nss : List (List Int)} (e : get S r = some (.int k)) (hm : (k, nss) ∈ rows) (h : Q (.d (.tup (nss.map eT))) S) : tJ rows Q r S := by unfold tJ; exact ⟨k, nss, e, hm, h⟩
end
end VL
end
section
namespace L2
open PySem PySem.Spec PyProof.Rows
theorem gO {P : Program} {w : World} : ∀ {ms : List Int} {us : List Value}, Vals (ms.map V.int) us -> ItemsAre (intKind P w) ms us
 | [], _, r => by rw [List.map_nil] at r; cases r; exact .nil
 | m :: ms, _, r => by
  rw [List.map_cons] at r
  cases r with
  | cons h t => obtain ⟨tk, rfl⟩ := h; exact .cons (intKind_is _ _ _ _) (gO t)
section
variable {X : Cx} {pins : List (Addr × Obj)} {σ : St} {H : Hp} {s : Shared}
theorem gP {b : Addr} (I : Inv X pins σ H s) (h : SqT X.K H b (ms.map V.int)) : (tupleKind (intKind X.prog X.w)).is s.heap ms b := by
 obtain ⟨its, r, ⟨o, h1, h2, n, h3⟩, _⟩ := I.tuple h
 exact ⟨o, its.toArray, n, h1, h2, h3, by simpa using gO r⟩
def cS (K : PySem.W.Frag) (H : Hp) (es : List (List Int × Addr × V)) : Prop := ∀ x ∈ es, SqT K H x.2.1 (x.1.map V.int)
theorem EV.keys {xs : List (List Int × Addr × Value)} (r : EV es xs) : es.map (·.1) = xs.map (·.1) := by
 induction r with
 | nil => rfl
 | cons h t ih => rw [List.map_cons, List.map_cons, ih, h.1]
theorem EV.mem {xs : List (List Int × Addr × Value)} (r : EV es xs) : ∀ x ∈ xs, ∃ e ∈ es, e.1 = x.1 /\ e.2.1 = x.2.1 := by
 induction r with
 | nil => intro x h; exact nomatch h
 | @cons p q ps qs h t ih =>
  intro x hx
  rcases List.mem_cons.mp hx with rfl | hx
  ·exact ⟨p, List.mem_cons_self, h.1, h.2.1⟩
  ·obtain ⟨e, h1, h2⟩ := ih x hx
   exact ⟨e, List.mem_cons_of_mem _ h1, h2⟩
theorem fY {a : Addr} {ob : Obj} (I : Inv X pins σ H s) (e : H a = some (bK a ob es)) (k : cS X.K H es) : es.length <= sizeLine /\ (a == sysModules) = false /\ (es.map (·.1)).Nodup /\
  ∃ xs, EV es xs /\ s.heap.DictOfH (tupleKind (intKind X.prog X.w)) a xs := by
 obtain ⟨z, m, nd, xs, ev, o, ds, ep, h1, h2, h3, h4⟩ := fT I e
 refine ⟨z, m, nd, xs, ev, o, ds, ep, h1, h2, h3, h4, fun x hx => ?_, by rw [<- ev.keys]; exact nd⟩
 obtain ⟨e, he, e1, e2⟩ := ev.mem x hx
 rw [<- e1, <- e2]
 exact gP I (k e he)
def atE (es : List (List Int × Addr × V)) (k : List Int) : Option V := (es.find? fun x => decide (x.1 = k)).map (·.2.2)
theorem EV.at_ {xs : List (List Int × Addr × Value)} (r : EV es xs) (k : List Int) : RelO (atE es k) ((atKey xs k).map (·.2)) := by
 induction r with
 | nil => exact True.intro
 | @cons p q ps qs h t ih =>
  obtain ⟨h1, _, h2⟩ := h
  by_cases e : p.1 = k
  ·have e' : q.1 = k := h1.symm.trans e
   have a : atE (p :: ps) k = some p.2.2 := by simp [atE, List.find?_cons, e]
   have b : atKey (q :: qs) k = some q.2 := by simp [atKey, List.find?_cons, e']
   rw [a, b]; exact h2
  ·have e' : ¬ q.1 = k := fun z => e (h1.trans z)
   have a : atE (p :: ps) k = atE ps k := by simp [atE, List.find?_cons, e]
   have b : atKey (q :: qs) k = atKey qs k := by simp [atKey, List.find?_cons, e']
   rw [a, b]; exact ih
theorem iN : ∀ {o : Option V} {u : Option Value}, RelO o u -> o.isSome = u.isSome
 | some _, some _, _ => rfl
 | none, none, _ => rfl
 | some _, none, h => h.elim
 | none, some _, h => h.elim
theorem j4 {k : List Int} : (atE es k).isSome = decide (k ∈ es.map (·.1)) := by
 induction es with
 | nil => rfl
 | cons p ps ih =>
  by_cases e : p.1 = k
  ·simp [atE, List.find?_cons, e]
  ·have a : atE (p :: ps) k = atE ps k := by simp [atE, List.find?_cons, e]
   rw [a, ih]
   have : ¬ k = p.1 := fun z => e z.symm
   simp [this]
def yp (K : PySem.W.Frag) (neg : Bool) : R2 := fun y x H Q => ∃ b a ms es, y = .ref b /\ x = .ref a /\ SqT K H b (ms.map V.int) /\ (∃ ob, H a = some (bK a ob es)) /\ cS K H es /\ Q (.bl (if neg then !decide (ms ∈ es.map (·.1)) else decide (ms ∈ es.map (·.1)))) H
end
section
variable {X : Cx}
theorem yq (hu : X.A.units + 64 < cLine) : OpR X (compareOp .In) (yp X.K false) := by
 rintro pins s σ H x y v u Q I rx ry ⟨b, a, ms, es, e1, e2, h1, ⟨ob, h2⟩, h3, q⟩
 subst e1; subst e2
 cases rx; cases ry
 obtain ⟨z, m, nd, xs, ev, dd⟩ := fY I h2 h3
 refine wpAny_in_heap (tupleKind_room_in1 (by lia)) (gP I h1) m dd ?_
 have e := iN (ev.at_ ms)
 rw [Option.isSome_map, j4] at e
 rw [<- e]
 exact ⟨.bl _, H, I.tok _, rfl, q⟩
end
end L2
namespace L2
open PySem PySem.Spec PyProof.Rows
def fE (es : List (List Int × Addr × V)) (k : List Int) (b : Addr) (v : V) : List (List Int × Addr × V) := if k ∈ es.map (·.1) then es.map (fun x => if x.1 = k then (x.1, x.2.1, v) else x) else es ++ [(k, b, v)]
theorem p6 (es : List (List Int × Addr × V)) (k : List Int) (b : Addr) (v : V) : (fE es k b v).length <= es.length + 1 := by
 unfold fE; split <;> simp
theorem EV.repl {xs : List (List Int × Addr × Value)} (r : EV es xs) (k : List Int) {u : Value} (rv : RelV v u) : EV (es.map fun x => if x.1 = k then (x.1, x.2.1, v) else x) (xs.map (putAt k u)) := by
 induction r with
 | nil => exact .nil
 | @cons p q ps qs h t ih =>
  rw [List.map_cons, List.map_cons]
  refine .cons ?_ ih
  obtain ⟨h1, h2, h3⟩ := h
  unfold putAt
  by_cases e : p.1 = k
  ·rw [if_pos e, if_pos (h1.symm.trans e)]; exact ⟨h1, h2, rv⟩
  ·rw [if_neg e, if_neg (fun z => e (h1.trans z))]; exact ⟨h1, h2, h3⟩
theorem EV.put {xs : List (List Int × Addr × Value)} (r : EV es xs) (k : List Int) {b : Addr} {u : Value} (rv : RelV v u) : EV (fE es k b v) (storedH xs k b u) := by
 have e : decide (k ∈ es.map (·.1)) = (atKey xs k).isSome := by
  have := iN (r.at_ k)
  rw [Option.isSome_map, j4] at this
  exact this
 unfold fE storedH
 by_cases q : (atKey xs k).isSome = true
 ·rw [if_pos q, if_pos (of_decide_eq_true (e.trans q))]; exact r.repl k rv
 ·rw [if_neg q, if_neg (fun z => q (e.symm.trans (decide_eq_true z)))]; exact Paired.snoc r ⟨rfl, rfl, rv⟩
section
variable {X : Cx} {o i value : Expr} {pos pos' : Pos} {td ty tv : TE}
def vA (K : PySem.W.Frag) (td ty tv : TE) : TS := fun D σ H => tv σ H fun v H1 => td σ H1 fun x H2 => ty σ H2 fun y H3 => ∃ a b ms es, x = .ref a /\ y = .ref b /\ SqT K H3 b (ms.map V.int) /\ (∃ ob, H3 a = some (bK a ob es)) /\ cS K H3 es /\ es.length < sizeLine /\
 ∀ ob, D.nx σ (upd H3 a (bK a ob (fE es ms b v)))
theorem yr {s : Shared} {a b : Addr} {ob : Obj} {r : Value} {A : Around} {E : Value -> Shared -> Prop} {Q : Unit -> Shared -> Prop} (hu : A.units + 1 < cLine) (I : Inv X pins σ H s) (h1 : SqT X.K H b (ms.map V.int)) (h2 : H a = some (bK a ob es)) (h3 : cS X.K H es) (hl : es.length < sizeLine) (rv : RelV v r)
  (h : ∀ ob s', Inv X pins σ (upd H a (bK a ob (fE es ms b v))) s' -> Q () s') : wpAny (model X.prog X.w) A (setItem (.ref a) (.ref b) r) Q E s := by
 obtain ⟨z, m, nd, xs, ev, dd⟩ := fY I h2 h3
 refine wpAny_setItem_heap (hsz := by rw [<- Paired.length ev]; exact z) (tupleKind_room_in1 hu) (gP I h1) dd fun h' dd' hs => ?_
 obtain ⟨q, ds, ep, hq, g2, g3, g4, _, g5⟩ := dd'
 refine h q _ (I.write (x := a) (e := a) (by rw [h2]; exact True.intro) (.inl rfl) (fun b q hb z => (hs.2 b hb).trans z) ⟨q, hq⟩ (jK.ok ⟨?_, m, ?_, _, ev.put ms rv, q, ds, ep, hq, g2, g3, g4⟩ hq))
 ·have := p6 es ms b v; lia
 ·rw [(ev.put ms rv).keys]; exact g5
theorem tK (hu : X.A.units + 64 < cLine) (ho : PE X o td) (hi : PE X i ty) (hv : PE X value tv) (hs : swapsWith value (some (.Subscript o i pos')) pos.line X.env = pure false) :
  PS X (.Assign [.Subscript o i pos'] value pos) (vA X.K td ty tv) := by
 intro pins s σ H D I h
 refine wpAny_Assign_Subscript (thn (hv pins s σ H _ I h) fun r s1 ⟨v, H1, I1, rv, q1⟩ => thn (ho pins s1 σ H1 _ I1 q1) fun u s2 ⟨x, H2, I2, rx, q2⟩ => thn (hi pins s2 σ H2 _ I2 q2) fun iv s3 zr1 => ?_) hs
 obtain ⟨y, H3, I3, ry, a, b, ms, es, ex, ey, h1, ⟨ob, h2⟩, h3, hl, q3⟩ := zr1
 subst ex; subst ey
 obtain rfl : u = Value.ref a := rx
 obtain rfl : iv = Value.ref b := ry
 exact yr (by lia) I3 h1 h2 h3 hl rv fun ob s4 I4 => ⟨σ, _, I4, q3 ob⟩
theorem yt {s : Shared} (I : Inv X pins σ H s) : sysModules < s.heap.objs.size := by
 have h : mainGlobals < s.heap.objs.size := (I.mod.glob.keeps I.bk).lt
 exact Nat.lt_trans (by decide) h
def vB : TE := fun _ H Q => ∀ p ob, H p = none -> Q (.ref p) (upd H p (bK p ob []))
theorem tL : PE X (.Dict [] [] pos) vB := fun pins s σ H Q I h =>
 wpAny_Dict_empty ⟨.ref s.heap.objs.size, _, I.laid (a := s.heap.objs.size) (o := bK s.heap.objs.size _ []) (t' := s.toks) (fun _ _ q => Heap.get?_push_of_some _ q) (Nat.le_refl _)
  (jK.ok ⟨Nat.zero_le _, beq_eq_false_iff_ne.mpr (Ne.symm (Nat.ne_of_lt (yt I))), List.nodup_nil, [], .nil, _, #[], 0, Heap.get?_push_size _ rfl, ⟨rfl, rfl, rfl⟩, rfl, rfl⟩ (Heap.get?_push_size _ rfl)), rfl, h _ _ (I.hok.fresh (Nat.le_refl _))⟩
end
end L2
namespace VL
open PySem L2
def dc (kvs : List (List Int × D)) : D := .dic (kvs.map (·.1)) (kvs.map (·.2))
def od (kvs : List (List Int × D)) : Sl := .odi (kvs.map (·.1)) (kvs.map (·.2))
def cH (kvs : List (List Int × D)) (k : List Int) (d : D) : List (List Int × D) := if k ∈ kvs.map (·.1) then kvs.map (fun x => if x.1 = k then (x.1, d) else x) else kvs ++ [(k, d)]
def dt (kvs : List (List Int × D)) (k : List Int) : Option D := (kvs.find? fun x => decide (x.1 = k)).map (·.2)
section
variable {K : PySem.W.Frag} {N : AP} {F : FP} {H : Hp}
theorem fF : ∀ {es : List (List Int × Addr × V)}, Reps K N F H (es.map fun x => .ref x.2.1) ((es.map (·.1)).map kT) -> cS K H es
 | [], _ => fun _ h => nomatch h
 | e :: es, r => by
  cases r with
  | cons h t =>
   intro x hx
   rcases List.mem_cons.mp hx with rfl | hx
   ·obtain ⟨a, vs, e1, hq, rr⟩ := Rep.sqT (show Rep K N F H _ (.tup (x.1.map D.int)) from h)
    cases e1
    cases Reps.toInts rr
    exact hq
   ·exact fF t x hx
theorem Rep.dct {ks : List (List Int)} (h : Rep K N F H v (.dic ks ds)) : ∃ a es, v = .ref a /\ N a /\ F (some a) /\ (∃ ob, H a = some (bK a ob es)) /\ es.map (·.1) = ks /\ cS K H es /\ Reps K N F H (es.map fun x => .ref x.2.1) (ks.map kT) /\ Reps K N F H (es.map (·.2.2)) ds := by
 cases h with
 | dic n f h e rk r => subst e; exact ⟨_, _, rfl, n, f, ⟨_, h⟩, rfl, fF rk, rk, r⟩
theorem iO {k : List Int} (hv : Rep K N F H v d) : ∀ {es : List (List Int × Addr × V)} {kvs : List (List Int × D)}, es.map (·.1) = kvs.map (·.1) -> Reps K N F H (es.map (·.2.2)) (kvs.map (·.2)) ->
  Reps K N F H ((es.map fun x => if x.1 = k then (x.1, x.2.1, v) else x).map (·.2.2)) ((kvs.map fun x => if x.1 = k then (x.1, d) else x).map (·.2))
 | [], [], _, _ => .nil
 | e :: es, p :: kvs, ek, r => by
  simp only [List.map_cons, List.cons.injEq] at ek
  cases r with
  | cons h t =>
   simp only [List.map_cons]
   refine .cons ?_ (iO hv ek.2 t)
   by_cases hk : e.1 = k
   ·rw [if_pos hk, if_pos (ek.1.symm.trans hk)]; exact hv
   ·rw [if_neg hk, if_neg (fun z => hk (ek.1.trans z))]; exact h
 | [], _ :: _, ek, _ => by simp at ek
 | _ :: _, [], ek, _ => by simp at ek
theorem lw (es : List (List Int × Addr × V)) (k : List Int) (v : V) : (es.map fun x => if x.1 = k then (x.1, x.2.1, v) else x).map (·.1) = es.map (·.1) := by
 rw [List.map_map]
 refine List.map_congr_left fun x _ => ?_
 simp only [Function.comp]; split <;> rfl
theorem ly (es : List (List Int × Addr × V)) (k : List Int) (v : V) : (es.map fun x => if x.1 = k then (x.1, x.2.1, v) else x).map (fun x => V.ref x.2.1) = es.map fun x => V.ref x.2.1 := by
 rw [List.map_map]
 refine List.map_congr_left fun x _ => ?_
 simp only [Function.comp]; split <;> rfl
theorem cT (kvs : List (List Int × D)) (k : List Int) (d : D) : (kvs.map fun x => if x.1 = k then (x.1, d) else x).map (·.1) = kvs.map (·.1) := by
 rw [List.map_map]
 refine List.map_congr_left fun x _ => ?_
 simp only [Function.comp]; split <;> rfl
theorem tM {k : List Int} {b : Addr} (hv : Rep K N F H v d) {F' : FP} (hb : Rep K N F' H (.ref b) (kT k)) (ek : es.map (·.1) = kvs.map (·.1))
  (rk : Reps K N F' H (es.map fun x => V.ref x.2.1) ((kvs.map (·.1)).map kT)) (r : Reps K N F H (es.map (·.2.2)) (kvs.map (·.2))) :
  (fE es k b v).map (·.1) = (cH kvs k d).map (·.1) /\ Reps K N F' H ((fE es k b v).map fun x => V.ref x.2.1) (((cH kvs k d).map (·.1)).map kT) /\ Reps K N F H ((fE es k b v).map (·.2.2)) ((cH kvs k d).map (·.2)) := by
 unfold fE cH
 by_cases hk : k ∈ es.map (·.1)
 ·rw [if_pos hk, if_pos (by rw [<- ek]; exact hk), lw, cT, ly]
  exact ⟨ek, rk, iO hv ek r⟩
 ·rw [if_neg hk, if_neg (by rw [<- ek]; exact hk)]
  simp only [List.map_append, List.map_cons, List.map_nil]
  exact ⟨by rw [ek], Reps.append rk (.cons hb .nil), Reps.append r (.cons hv .nil)⟩
end
section
variable {K : PySem.W.Frag} {X : Cx} {m : Bool} {e o ie : Expr} {te ti : TE} {va vi : VT} {pos posS : Pos}
def Bl (neg : Bool) : D -> D -> (D -> Prop) -> Prop := fun d1 d2 q => ∃ ms kvs, d1 = kT ms /\ d2 = dc kvs /\ q (.bl (if neg then !decide (ms ∈ kvs.map (·.1)) else decide (ms ∈ kvs.map (·.1))))
theorem Bm {neg : Bool} : cf K (yp K neg) (Bl neg) := by
 rintro x y H d1 d2 q C r1 r2 ⟨ms, kvs, rfl, rfl, h⟩ hc
 obtain ⟨b, vs, rfl, hq, rr⟩ := Rep.sqT (show Rep K _ _ H x (.tup (ms.map D.int)) from r1)
 cases Reps.toInts rr
 obtain ⟨a, es, rfl, _, _, ha, ek, hk, _, _⟩ := Rep.dct (show Rep K _ _ H y (.dic _ _) from r2)
 refine ⟨b, a, ms, es, rfl, rfl, hq, ha, hk, ?_⟩
 rw [ek]
 exact hc _ _ h fun _ _ => .bl _
theorem Bn (hK : X.K = K) (hu : X.A.units + 64 < cLine) : OpR X (compareOp .In) (yp K false) := by subst hK; exact yq hu
abbrev VTD := List Sl -> (List (List Int × D) -> List Sl -> Prop) -> Prop
def Ck (K : PySem.W.Frag) (te : TE) (t : VTD) : Prop := ∀ H0 Z σ H S Q C, OK K H0 Z σ H S -> t S Q -> (∀ a es kvs H1 H' S', OK K H0 Z σ H1 S' -> Step Z σ S H σ S' H1 -> H1 a = none -> (∀ b, H1 b ≠ none -> H' b = H1 b) -> (∃ ob, H' a = some (bK a ob es)) ->
 es.map (·.1) = kvs.map (·.1) -> Reps K (fun b => NM Z σ S' b /\ b ≠ a) AnyF H' (es.map fun x => V.ref x.2.1) ((kvs.map (·.1)).map kT) -> Reps K (fun b => NM Z σ S' b /\ b ≠ a) (Fr H0) H' (es.map (·.2.2)) (kvs.map (·.2)) -> Q kvs S' -> C (.ref a) H') -> te σ H C
structure VDe (K : PySem.W.Frag) (X : Cx) (e : Expr) (te : TE) (t : VTD) : Prop where
 pe : PE X e te
 snd : Ck K te t
def vD : VTD := fun S Q => Q [] S
theorem p7 : VDe K X (.Dict [] [] pos) vB vD := ⟨tL, fun H0 Z σ H S Q C k t hc => fun p ob hp => hc p [] [] H _ S k .refl hp (aJ hp) ⟨ob, aq⟩ rfl .nil .nil t⟩
def vE (i : Nat) (t : VTD) : VTS := fun V S => t S fun kvs S1 => i < S1.length /\ V.nx (S1.set i (od kvs))
theorem mF {i : Nat} {x : Str} {pos' : Pos} {tn : VTD} (ps : ∀ te, PE X e te -> PS X (.Assign [.Name x pos'] e pos) (dQ te (bC i))) (h : VDe K X e te tn) : VS K X (.Assign [.Name x pos'] e pos) (dQ te (bC i)) (vE i tn) :=
 ⟨ps te h.pe, fun H0 Z σ H S V E k t l => h.snd H0 Z σ H S _ _ k t fun a es kvs H1 H' S' k1 st1 ha hg hl ek rk rr zq1 => by
  obtain ⟨hi, q⟩ := zq1
  obtain ⟨k2, st2⟩ := k1.setNew (s := od kvs) hi ha hg ⟨a, es, rfl, hl, k1.dom a ha, ⟨ek, rk⟩, rr⟩ rfl
  exact l.nx _ _ _ k2 (st1.trans st2) q⟩
def vF (i : Nat) (ve vi : VT) : VTS := fun V S => ve S fun r S1 => (∃ kvs, S1[i]? = some (od kvs)) /\ vi S1 fun ri S2 => ∃ d ms kvs, r = .d d /\ get S2 ri = some (kT ms) /\ S2[i]? = some (od kvs) /\ kvs.length <= 1000000 /\ V.nx (S2.set i (od (cH kvs ms d)))
theorem jo (i : Nat) (hK : X.K = K) (hu : X.A.units + 64 < cLine) (ho : PE X o (cY i)) (h : VE K X true e te va) (hi : VE K X false ie ti vi) (hs : swapsWith e (some (.Subscript o ie posS)) pos.line X.env = pure false := by rfl) :
  VS K X (.Assign [.Subscript o ie posS] e pos) (vA K (cY i) ti te) (vF i va vi) := ⟨by subst hK; exact tK hu ho hi.pe h.pe hs, fun H0 Z σ H S V E k t l => by
 refine h.snd H0 Z σ H S _ _ k t fun x H1 r S1 k1 st1 rr zr1 => ?_
 obtain ⟨⟨kvs0, e0⟩, q⟩ := zr1
 obtain ⟨o1, g1, p, es0, rfl, _⟩ := k1.ownAt e0
 refine ⟨.ref p, g1, hi.snd H0 Z σ H1 S1 _ _ k1 q fun y H2 ri S2 k2 st2 rr2 zr1 => ?_⟩
 obtain ⟨d, ms, kvs, er, ek, e1, hl, q2⟩ := zr1
 subst er
 obtain ⟨o2, g2, p', es, e2, h2, h3, ⟨h4, h5⟩, h6⟩ := k2.ownAt e1
 rw [g1] at g2; cases g2; cases e2
 have rx : Rep K (NM Z σ S2) (FM H0 true) H2 x d := Rep.step (show Rep K (NM Z σ S1) (FM H0 true) H1 x d from rr) st2
 have ry : ∃ b, y = .ref b /\ SqT K H2 b (ms.map L2.V.int) /\ Rep K (NM Z σ S2) AnyF H2 (.ref b) (kT ms) := by
  cases ri with
  | d z =>
   cases ek
   obtain ⟨b, vs, rfl, hq, rr⟩ := Rep.sqT (show Rep K _ _ H2 y (.tup (ms.map D.int)) from rr2)
   cases Reps.toInts rr
   exact ⟨b, rfl, hq, Rep.mono (fun _ n _ => ⟨n, rfl⟩) (fun _ _ => trivial) rr2⟩
  | own j =>
   have ek : getO S2[j]? = some (kT ms) := ek
   cases es : S2[j]? with
   | none => rw [es] at ek; cases ek
   | some s => rw [es] at ek; cases s <;> cases ek
 obtain ⟨b, rfl, hq, rb⟩ := ry
 have hk : cS K H2 es := fF (by rw [h4]; exact h5)
 refine ⟨p, b, ms, es, rfl, rfl, hq, h2, hk, ?_, ?_⟩
 ·have : es.length = kvs.length := by have := congrArg List.length h4; simpa using this
  rw [sizeLine_eq]; lia
 ·intro obn
  have na : NM Z σ S2 p -> False := fun n => n (.inl ⟨i, _, e1, rfl, g1⟩)
  have hm : ∀ b, NM Z σ S2 b -> H2 b ≠ none -> NM Z σ S2 b /\ upd H2 p (bK p obn (fE es ms b x)) b = H2 b := fun b n _ => ⟨n, ao fun z => na (by rw [<- z]; exact n)⟩
  have hm' : ∀ c, NM Z σ S2 c -> H2 c ≠ none -> NM Z σ S2 c /\ upd H2 p (bK p obn (fE es ms b x)) c = H2 c := fun c n _ => ⟨n, ao fun z => na (by rw [<- z]; exact n)⟩
  obtain ⟨z1, z2, z3⟩ := tM (k := ms) (b := b) (Rep.mono hm' (fun _ x => x rfl) rx) (Rep.mono hm' (fun _ x => x) rb) h4 (h5.mono hm' fun _ x => x) (h6.mono hm' fun _ x => x)
  obtain ⟨k3, st3⟩ := k2.chgD (s := od (cH kvs ms d)) (o := bK p obn (fE es ms b x)) e1 rfl g1 rfl ⟨p, _, rfl, ⟨obn, aq⟩, h3, ⟨z1, z2⟩, z3⟩
  exact l.nx _ _ _ k3 ((st1.trans st2).trans st3) q2⟩
end
end VL
end
section
namespace VL
open PySem L2
section
variable {S : List Sl} {Q : VR -> List Sl -> Prop} {QN : List D -> List Sl -> Prop} {QD : List (List Int × D) -> List Sl -> Prop} {W : aW} {va vb : VT} {vr : VTA} {vd : VTD}
theorem yu (h : QD [] S) : vD S QD := h
@[irreducible] def mG (i : Nat) (W : aW) : List (List Int × D) -> List Sl -> Prop := fun kvs S1 => i < S1.length /\ W.nx (S1.set i (od kvs))
theorem yv {i : Nat} (h : vd S (mG i W)) : vE i vd W S := by unfold mG at h; exact h
theorem tN {i : Nat} (e : Nat.ble (i + 1) S.length = true) (h : W.nx (S.set i (od kvs))) : mG i W kvs S := by unfold mG; exact ⟨Nat.le_of_ble_eq_true e, h⟩
@[irreducible] def mH (i : Nat) (vi : VT) (W : aW) : VR -> List Sl -> Prop := fun r S1 => (∃ kvs, S1[i]? = some (od kvs)) /\ vi S1 fun ri S2 => ∃ d ms kvs, r = .d d /\ get S2 ri = some (kT ms) /\ S2[i]? = some (od kvs) /\ kvs.length <= 1000000 /\ W.nx (S2.set i (od (cH kvs ms d)))
@[irreducible] def jq (i : Nat) (r : VR) (W : aW) : VR -> List Sl -> Prop := fun ri S2 => ∃ d ms kvs, r = .d d /\ get S2 ri = some (kT ms) /\ S2[i]? = some (od kvs) /\ kvs.length <= 1000000 /\ W.nx (S2.set i (od (cH kvs ms d)))
theorem yw {i : Nat} {vi : VT} (h : va S (mH i vi W)) : vF i va vi W S := by unfold mH at h; exact h
theorem tO {i : Nat} {vi : VT} (e : S[i]? = some (od kvs)) (h : vi S (jq i r W)) : mH i vi W r S := by unfold mH; unfold jq at h; exact ⟨⟨kvs, e⟩, h⟩
theorem gQ {i : Nat} {ri : VR} (e1 : get S ri = some (kT ms)) (e2 : S[i]? = some (od kvs)) (hl : kvs.length <= 1000000) (h : W.nx (S.set i (od (cH kvs ms d)))) : jq i (.d d) W ri S := by unfold jq; exact ⟨d, ms, kvs, rfl, e1, e2, hl, h⟩
theorem yx {neg : Bool} {d1 d2 : D} (e1 : d1 = kT ms) (e2 : d2 = dc kvs) (h : q (.bl (if neg then !decide (ms ∈ kvs.map (·.1)) else decide (ms ∈ kvs.map (·.1))))) : Bl neg d1 d2 q := ⟨ms, kvs, e1, e2, h⟩
end
theorem yz {α : Type} [DecidableEq α] {n : Nat} {f : α -> D} (e : Enc n f) {x : α} {l : List α} (h : q (.bl (decide (x ∈ l)))) (hn : n + 1 <= 40 := by decide) : kY false (f x) (.tup (l.map f)) q := ⟨_, .inr rfl, e.okd (by lia) x, e.lst.okd hn l, by simpa only [e.any, Bool.false_eq_true, if_false] using h⟩
theorem nI {ve : VT} {A : D -> List Sl -> Prop} {B : List Sl -> Prop} (h : B S) : eh ve A B false S := eS (fun e => nomatch e) fun _ => h
section
variable {K : PySem.W.Frag} {X : Cx} {e : Expr} {te : TE} {va : VT} {pos pos' : Pos} {x : Str}
theorem aC {i : Nat} (hN : X.N.Nodup) (hi : X.N[i]? = some x) (hx : Loc X.env.scope x) (h : VE K X false e te va) (hs : swapsWith e (some (.Name x pos')) pos.line X.env = pure false := by rfl)
  (hf : X.fn x = true \/ X.env.scope.names.lookup x = some .local := by first | exact .inl rfl | exact .inr rfl | assumption) : VS K X (.Assign [.Name x pos'] e pos) (dQ te (bC i)) (ny va (vgN i)) := xu (fun _ h => df hN hi hx h hs hf) h
end
end VL
end
section
namespace VL
open PySem L2
theorem Cm {r : List D} : atI (d :: r) 0 = some d := ja (j := 0) rfl
end VL
end
section
namespace VL
open PySem L2
section
variable {S : List Sl} {Q : VR -> List Sl -> Prop} {QN : List D -> List Sl -> Prop} {va vb : VT} {vr : VTA}
@[irreducible] def jr (QN : List D -> List Sl -> Prop) : List VR -> List Sl -> Prop := fun rs S1 => ∃ (r : VR) (ns : List Int), rs = [r] /\ get S1 r = some (.lst (ns.map .int)) /\ ns.length < 64 /\ ∀ ns' : List Int, ns'.Perm ns -> ns'.Pairwise (· <= ·) -> QN (ns'.map .int) S1
theorem tP (h : vr S (jr QN)) : pY vr S QN := by unfold jr at h; exact h
theorem p8 (e : get S r = some (.lst (ns.map .int))) (hl : ns.length < 64) (h : ∀ ns' : List Int, ns'.Perm ns -> ns'.Pairwise (· <= ·) -> QN (ns'.map .int) S) : jr QN [r] S := by unfold jr; exact ⟨r, ns, rfl, e, hl, h⟩
end
end VL
end
section
namespace L2
open PySem PySem.Spec PyProof.Rows PySem.W
structure Flies (P : Program) (w : World) (outer : List Env) (H : Hp) (s : Shared) (x : Addr) (cls a0 : Value) (B : Heap) (H' : Hp) (s' : Shared) : Prop where
 os : s'.os = s.os
 bare : AllBare s'.gens
 fly : Heap.FlyingW B outer x cls a0 s'.heap
 frm : ∀ b ∈ frs outer, ∀ o, s.heap.get? b = some o -> ∃ sl, s'.heap.get? b = some { o with slots := sl }
 hok : HOk P w H' B
 cov : ∀ b o, s.heap.get? b = some o -> H b = none -> b ∉ frs outer -> B.get? b = some o
 same : ∀ b, H b ≠ none -> H' b = H b
 free : ∀ b o, s.heap.get? b = some o -> H b = none -> H' b = none
 new : s.heap.get? x = none
def CX1 (P : Program) (w : World) : CXT := fun outer H s E e s' => ∃ x cls a0 B H', e = .ref x /\ Flies P w outer H s x cls a0 B H' s' /\ E cls none H'
section
variable {P : Program} {w : World} {outer : List Env} {H H' : Hp} {s s' : Shared} {x : Addr} {cls a0 : Value} {B : Heap}
theorem Flies.hok' (f : Flies P w outer H s x cls a0 B H' s') : HOk P w H' s'.heap := f.hok.kept f.fly.1
theorem Flies.un (f : Flies P w outer H s x cls a0 B H' s') : Un (frs outer) [] H H' s.heap s'.heap where
 keep := fun b o e n nb _ => f.fly.1 b o (f.cov b o e n nb)
 slot := fun b o e _ hb _ => f.frm b hb o e
 free := fun b o e n _ => f.free b o e n
 there := fun b o e _ => by
  cases n : H b with
  | none =>
   by_cases hb : b ∈ frs outer
   ·obtain ⟨sl, q⟩ := f.frm b hb o e
    exact ⟨_, q⟩
   ·exact ⟨o, f.fly.1 b o (f.cov b o e n hb)⟩
  | some u => exact ObjOk.there (f.hok' b u (by rw [f.same b (by rw [n]; simp)]; exact n))
 tups := fun b xs e => by rw [f.same b (by rw [e]; simp)]; exact e
 frzs := fun b o u e => by rw [f.same b (by rw [e]; simp)]; exact e
 tbls := fun b ps e => ⟨#[], by rw [f.same b (by rw [e]; simp), e]; simp⟩
theorem Flies.noX (f : Flies P w outer H s x cls a0 B H' s') : H' x = none := by
 cases n : H' x with
 | none => rfl
 | some u =>
  obtain ⟨o, e⟩ := ObjOk.there (f.hok x u n)
  rw [f.fly.2.1] at e
  cases e
theorem p9 {h : Heap} {as : List Addr} (k : HOk P w H h) (hf : ∀ a ∈ as, H a = none) : HOk P w H (hideAll h as) := fun b u e => by
 have nb : ∀ c v, H c = some v -> c ∉ as := fun c v q z => by rw [hf c z] at q; cases q
 refine (k b u e).stay (fun c v hc q => hideAll_get _ q ?_) (fun c q => q) fun c xs q => q
 rcases hc with rfl | hc
 ·exact nb c u e
 ·exact nb c _ hc
end
structure du (X : Cx) (Hin : Hp) (E : XK) : Prop where
 first : ∀ pins σ H s h1 x cls args, Inv X pins σ H s -> Heap.MadeExcOf s.heap h1 x cls args -> (∀ b, Hin b ≠ none -> H b = Hin b) -> E cls none H -> ∀ tk, X.xe (.ref x) { s with heap := h1, toks := tk }
 next : ∀ pins σ H s e s', Inv X pins σ H s -> CX1 X.prog X.w X.stack H s (fun c _ H' => (∀ b, Hin b ≠ none -> H' b = Hin b) /\ E c none H') e s' -> X.xe e s'
section
variable {P : Program} {w : World} {K : PySem.W.Frag} {mg : Str -> Option Value} {base : Heap} {N : List Str} {qual : Str} {scope : Scope} {f : Addr} {cd : Value} {A : Around} {outer : List Env} {s : Shared} {H : Hp} {E : XK}
theorem nJ : du (ft (CX1 P w) P w K mg base N qual scope f cd A outer s H E) H E where
 first := fun pins σ Hc sr h1 x cls args I hx fr he tk => by
  have nf : ∀ b ∈ frs outer, ∀ o, s.heap.get? b = some o -> ∀ vs, o.data ≠ .fields vs := fun b hb o e => by
   obtain ⟨_, o', e', n⟩ := I.ok.funs.mem hb
   have e' : s.heap.get? b = some o' := e'
   rw [e] at e'; cases e'
   exact n
  refine wpAny_leaves_madeW (base := hideAll sr.heap (frs (envOfC qual scope s.heap.objs.size f cd :: outer))) I.ok.frames rfl (fun b o q => of_hideAll _ q) (funFrames_hide I.stack fun env he a ha => List.mem_filterMap.mpr ⟨env, he, ha⟩) hx fun h' t fl _ _ up => ?_
  refine ⟨x, cls, .ref t, _, Hc, rfl, ⟨I.os, I.bare, fl, fun b hb o e => ?_, p9 I.hok I.stkFree, fun b o e n nb => ?_, fr, fun b o e n => ?_, ?_⟩, he⟩
  ·obtain ⟨sl, q⟩ := I.base.slot b o e (I.ok.frf b hb) hb (by intro z; cases z)
   obtain ⟨sl', q'⟩ := up b _ (hx.keeps _ _ q) (nf b hb o e)
   exact ⟨sl', q'⟩
  ·refine hideAll_get _ (I.base.keep b o e n nb (by intro z; cases z)) fun z => ?_
   rcases List.mem_cons.mp (I.stkSub b z) with e' | z
   ·have lt := Heap.lt_size e
    have ab : s.heap.objs.size <= b := e' ▸ I.ok.above
    exact absurd lt (Nat.not_lt.mpr ab)
   ·exact nb z
  ·exact I.base.free b o e n (by intro z; cases z)
  ·cases q : s.heap.get? x with
   | none => rfl
   | some o =>
    obtain ⟨o', e'⟩ := I.base.there x o q (by intro z; cases z)
    rw [hx.new] at e'
    cases e'
 next := fun pins σ Hc sr e s' I h => by
  obtain ⟨x, cls, a0, B, H', rfl, F, fr, he⟩ := h
  have nf : ∀ b ∈ frs outer, ∀ o, s.heap.get? b = some o -> ∀ vs, o.data ≠ .fields vs := fun b hb o e => by
   obtain ⟨_, o', e', n⟩ := I.ok.funs.mem hb
   have e' : s.heap.get? b = some o' := e'
   rw [e] at e'; cases e'
   exact n
  refine wpAny_leaves_onW I.ok.frames rfl F.fly fun h' fl up => ?_
  have sub : ∀ b ∈ frs outer, b ∈ frs (envOfC qual scope s.heap.objs.size f cd :: outer) := fun b hb => by
   obtain ⟨env, h1, h2⟩ := List.mem_filterMap.mp hb
   exact List.mem_filterMap.mpr ⟨env, List.mem_cons_of_mem _ h1, h2⟩
  refine ⟨x, cls, a0, B, H', rfl, ⟨F.os.trans I.os, F.bare, fl, fun b hb o e => ?_, F.hok, fun b o e n nb => ?_, fr, fun b o e n => ?_, ?_⟩, he⟩
  ·obtain ⟨sl, q⟩ := I.base.slot b o e (I.ok.frf b hb) hb (by intro z; cases z)
   obtain ⟨sl1, q1⟩ := F.frm b (sub b hb) _ q
   obtain ⟨sl2, q2⟩ := up b _ q1 (nf b hb o e)
   exact ⟨sl2, q2⟩
  ·refine F.cov b o (I.base.keep b o e n nb (by intro z; cases z)) (I.base.free b o e n (by intro z; cases z)) fun z => ?_
   rcases List.mem_cons.mp (I.stkSub b z) with e' | z
   ·have lt := Heap.lt_size e
    have ab : s.heap.objs.size <= b := e' ▸ I.ok.above
    exact absurd lt (Nat.not_lt.mpr ab)
   ·exact nb z
  ·obtain ⟨o', e'⟩ := I.base.there b o e (by intro z; cases z)
   exact F.free b o' e' (I.base.free b o e n (by intro z; cases z))
  ·cases q : s.heap.get? x with
   | none => rfl
   | some o =>
    obtain ⟨o', e'⟩ := I.base.there x o q (by intro z; cases z)
    rw [F.new] at e'
    cases e'
end
theorem yA {K : Frag} {h : Heap} {mg : Str -> Option Value} {x : Str} {C : Addr} {bmB : List Value} {newId : String} (X : K.In h) (hm : mg x = some (.ref C)) (q : excIn K C bmB newId = true) : OwnCls x C bmB newId mg h := by
 unfold excIn at q
 cases hl : K.lookup C with
 | none => rw [hl] at q; cases q
 | some o =>
  rw [hl] at q
  split at q
  case h_2 => cases q
  case h_1 dd cd sl e =>
  cases e
  split at q
  case h_2 => cases q
  case h_1 C' bm k0 k1 k2 k3 n k5 hm' hs =>
  have hh := X _ _ hl
  simp only [Bool.and_eq_true, beq_iff_eq, Bool.not_eq_true'] at q
  obtain ⟨⟨⟨⟨⟨q1, q2⟩, q3⟩, q4⟩, q5⟩, q6⟩ := q
  cases cd
  cases q1; cases q2
  simp only at hm' q3 q5 q6
  cases hm'; cases q3
  rw [show sl = #[k0, k1, k2, k3, some (.builtin _), k5] from Array.toList_inj.mp hs] at hh
  exact ⟨hm, _, _, _, _, _, _, _, _, _, _, _, _, _, _, _, _, _, hh, .of_isNs (isNs_of_in X q5), nsMap_none_of_in X q5 q6, tail_of_in X q4⟩
section
variable {X : Cx} {Hin : Hp} {E : XK} {C : Addr} {bmB : List Value} {B newId initId : String} {x : Str} {z : Str} {j : Nat} {np p cpos pos : Pos}
def qa (Hin : Hp) (E : XK) (C : Addr) : TS := fun _ _ H => (∀ b, Hin b ≠ none -> H b = Hin b) /\ E (.ref C) none H
theorem qb (T : du X Hin E) (FB : ExcBaseFacts B newId initId bmB) (ec : excIn X.K C bmB newId = true) (hm : X.mg x = some (.ref C)) (hc : X.calm = true) (hg : Gl X x := by rfl) (hd : (x == ("__debug__" : Str)) = false := by decide)
  (he : starEach [.Constant (.str z) j p] X.env = [(false, eval (.Constant (.str z) j p) X.env)] := by rfl) :
  PS X (.Raise (some (.Call (.Name x np) [.Constant (.str z) j p] [] cpos)) none pos) (qa Hin E C) := by
 rintro pins s σ H D I ⟨fr, ec'⟩
 have O : OwnCls x C bmB newId X.mg s.heap := yA I.kIn hm ec
 obtain ⟨tl, N, nm, q, bs, hdct, sn, sub, ab, col, dd, k0, k1, k2, k3, k5, mN, hC, hN, hni, TL⟩ := O.obj
 refine wpAny_Raise_call_subT (mN := mN) (nm := nm) (q := q) (C := C) (N := N) (bs := bs) (bm := tl) (hdct := hdct) (sn := sn) (sub := sub) (ab := ab) (col := col) (dd := dd) (k0 := k0) (k1 := k1) (k2 := k2) (k3 := k3) (k5 := k5) FB (TL.hasType FB.hasBase) (I.ok.hd hc) (by rw [he]; rfl) hni (dH I hg hm ⟨rfl, ?_⟩ hd)
 rw [he]
 refine Calls.evalArgs_plain ?_
 refine Calls.spliced_cons (Calls.Constant_str (k := j) (pos := p) (Calls.spliced_nil ⟨rfl, ?_, hC, hN, TL, fun h' e mk => ?_⟩))
 ·show 1 <= sizeLine
  rw [sizeLine_eq]; lia
 ·exact T.first pins σ H s h' e (.ref C) _ I mk fr ec' _
end
section
open Builtin Builtin.ObjectAttr Builtin.Getset_descriptor
def fZ (K : Frag) (C : Addr) : Bool := (findIn K (.ref C) "__getattribute__" == some (some (.builtin "BaseException.__getattribute__"))) && (findIn K (.ref C) "__getattr__" == some none) && (findIn K (.ref C) "__class__" == some (some (.builtin "object.__class__"))) &&
 (specialIn K (.builtin "object.__class__") "__get__" == some (some (.builtin "getset_descriptor.__get__"))) && (takesIn K (.builtin "object.__class__") == some true) && (mroIn K C (.type "object") == some true) && (mroIn K C (.type "BaseException") == some true)
section
variable {prog : Program} {w : World} {A : Around} {E : Value -> Shared -> Prop} {s : Shared} {K : Frag} {x C : Addr} {o : Obj}
theorem lz {Q : Option Value -> Shared -> Prop} (X : K.In s.heap) (ho : s.heap.get? x = some o) (hc : o.cls = .ref C) (ok : fZ K C = true) (h : Q (some (.ref C)) { s with toks := s.toks + 1 }) : wpAny (model prog w) A (getAttr? (.ref x) "__class__") Q E s := by
 obtain ⟨hp, g, d, tk, os⟩ := s
 simp only [fZ, Bool.and_eq_true, beq_iff_eq] at ok
 obtain ⟨⟨⟨⟨⟨⟨o1, o2⟩, o3⟩, o4⟩, o5⟩, o6⟩, o7⟩ := ok
 have T0 : Looks (model prog w) hp (typeOf (.ref x)) (.ref C) := hc ▸ (Looks.ld ho).andThen .now
 have T1 := looks_findIn (M := model prog w) X o1
 have T2 := looks_findIn (M := model prog w) X o2
 have T3 : Looks (model prog w) hp (find (.ref x) (.ref C) "__class__") (.bind (.builtin "getset_descriptor.__get__") (.builtin "object.__class__")) :=
  (looks_findIn X o3).andThen ((show Looks (model prog w) hp (getOf (some (.builtin "object.__class__"))) _ from looks_specialIn X o4).andThen
   ((show Looks (model prog w) hp (dataDescriptor? (some (.builtin "object.__class__")) (some (.builtin "getset_descriptor.__get__"))) (some (.builtin "getset_descriptor.__get__", .builtin "object.__class__")) from (looks_takesIn X o5).andThen .now).andThen (Looks.tag .now)))
 have T6 := looks_mroIn (M := model prog w) X o6
 have T7 : Looks (model prog w) hp (isInstance (.ref x) (.type "BaseException")) true := T0.andThen (looks_mroIn X o7)
 have gets : ∀ (A : Around) (tk : Nat), wpAny (model prog w) A (call (.builtin "getset_descriptor.__get__") [.builtin "object.__class__", .ref x, .ref C]) (fun v s' => v = .ref C /\ s' = ⟨hp, g, d, tk, os⟩) (fun _ _ => False) ⟨hp, g, d, tk, os⟩ := fun A tk => by
  refine wpAny_call (codeAny_call_builtin KF.slot_gs.plain KF.entry_gs (KF.slot_gs.check _ _ _ _ _ _ _ _ KF.type_class (KF.args_gs _ _ _) ?_))
  simp only [Builtin.«getset_descriptor.__get__», descrGet, dga_obj]
  refine wpAny_bind (wpAny_pure ?_)
  simp only [descrGetter, descrCheckInstance, descrNameAndClass, isInstance, KF.owner_class]
  repeat lk
  exact ⟨Code.quiet_builtin _ (by decide +kernel), codeAny_builtin KF.entry_class (by simp only [Builtin.«object.__class__», shownTypeOf]; (repeat lk); exact ⟨rfl, rfl⟩)⟩
 have asks : ∀ (A : Around) (tk : Nat) (nt : Tok), wpAny (model prog w) A (call (.builtin "BaseException.__getattribute__") [.ref x, .str "__class__" nt]) (fun v s' => v = .ref C /\ s' = ⟨hp, g, d, tk, os⟩) (fun _ _ => False) ⟨hp, g, d, tk, os⟩ := fun A tk nt => by
  have kd : builtinKind "BaseException.__getattribute__" = some .slot := by decide +kernel
  have sp : splitId "BaseException.__getattribute__" = some ("BaseException", "__getattribute__") := by decide +kernel
  refine wpAny_call (codeAny_call_builtin (by decide +kernel) F.entry_bexc_ga ?_)
  simp only [checkBuiltinCall, kd, sp]
  refine wpAny_bind (T7.at ?_)
  have fits : (match Manifest.signature? "BaseException.__getattribute__" with
   | some sig => Bind.checkArgs "BaseException.__getattribute__" sig { pos := [Value.ref x, Value.str "__class__" nt] }
   | _ => pure ()) = pure () := F.args_bexc_ga (.ref x) (.str "__class__" nt)
  simp only [Bool.not_true, Bool.false_eq_true, if_false]
  refine (show _ = _ from fits) ▸ wpAny_pure ?_
  refine wpAny_bind (wpAny_pure (wpAny_bind (wpAny_pure (wpAny_bind (T0.at (wpAny_bind (T3.at ?_)))))))
  exact wpAny_bind (wpAny_mono (gets _ tk) (fun v s' zt1 => by obtain ⟨a, b⟩ := zt1; exact wpAny_pure ⟨a, b⟩) fun _ _ z => z.elim)
 have no : (Value.builtin "BaseException.__getattribute__" == Value.builtin "object.__getattribute__") = false := by decide +kernel
 simp only [getAttr?, getAttrBy?, getAttrBy]
 refine wpAny_bind (wpAny_mkText (wpAny_bind (wpAny_attempt (wpAny_holding (wpAny_bind (T0.at (wpAny_bind (T1.at ?_))))))))
 simp only [no, Bool.and_false, Bool.false_eq_true, if_false, getAttrByItsOwn, hookBefore, onTheHeap, if_true]
 refine wpAny_bind (T2.at (wpAny_bind (wpAny_attempt (wpAny_holding ?_))))
 simp only [callGetattribute, Bool.false_and, Bool.false_eq_true, if_false, boundAndCalled, F.attr_ValueError.ga.bind]
 refine wpAny_bind (wpAny_pure (wpAny_mono (asks A (tk + 1) tk) (fun v s' zr1 => ?_) fun _ _ z => z.elim))
 obtain ⟨a, b⟩ := zr1
 subst a b
 exact handed_on rfl (wpAny_pure h)
def ExcAt (x C : Addr) (h : Heap) : Prop := ∃ o, h.get? x = some o /\ o.cls = .ref C
theorem tQ {cd : ClassData} (e : clsIn K C = some cd) : ∃ o, K.lookup C = some o /\ o.data = .cls cd := by
 unfold clsIn at e
 split at e
 ·next c d cd' sl q => cases e; exact ⟨_, q, rfl⟩
 ·cases e
theorem qc (hk : kitCls K (.ref C) (.ref C) = some true) (ok : fZ K C = true) (hc : (clsIn K C).isSome = true) : KitX K (.ref x) (.ref C) (ExcAt x C) where
 ty := fun M h _ zt1 => by obtain ⟨o, e, c⟩ := zt1; exact c ▸ (Looks.ld e).andThen .now
 it := fun M h X _ => (kit_cls X hk).2.1
 ne := fun h tp dd its n sl X htp => by
  obtain ⟨cd, hcd⟩ := Option.isSome_iff_exists.mp hc
  obtain ⟨o, e, d⟩ := tQ hcd
  refine Bool.eq_false_iff.mpr fun q => ?_
  cases beq_iff_eq.mp q
  have z := X _ _ e
  rw [htp] at z
  cases z
  cases d
 ca := fun X zt1 k => by obtain ⟨o, e, c⟩ := zt1; exact lz X e c ok k
end
end
section
variable {X : Cx} {pins : List (Addr × Obj)} {σ : St} {H H' : Hp} {s s' : Shared} {x : Addr} {cls a0 : Value} {B : Heap}
theorem Flies.on {h' : Heap} {tk : Nat} (I : Inv X pins σ H s) (f : Flies X.prog X.w X.stack H s x cls a0 B H' s') (fl : Heap.FlyingW B X.stack x cls a0 h') (up : s'.heap.UpToSlots h') : Flies X.prog X.w X.stack H s x cls a0 B H' { s' with heap := h', toks := tk } where
 os := f.os
 bare := f.bare
 fly := fl
 frm := fun b hb o e => by
  obtain ⟨sl, q⟩ := f.frm b hb o e
  obtain ⟨_, o', e', n⟩ := I.stack.mem hb
  rw [e] at e'; cases e'
  obtain ⟨sl', q'⟩ := up b _ q n
  exact ⟨sl', q'⟩
 hok := f.hok
 cov := f.cov
 same := f.same
 free := f.free
 new := f.new
theorem Inv.lands (I : Inv X pins σ H s) (f : Flies X.prog X.w X.stack H s x cls a0 B H' s') : Inv X pins σ H' s' :=
 I.call' (ch := []) f.os f.un f.hok' f.bare fun b z => by cases z
abbrev Cx.caught (X : Cx) (x : Addr) : Cx := { X with A := X.A.mark (some (.ref x)), calm := false }
theorem Inv.caught (I : Inv X pins σ H s) (x : Addr) : Inv (X.caught x) pins σ H s :=
 ⟨⟨I.ok.mod, I.ok.kind, I.ok.glob, I.ok.blt, I.ok.above, I.ok.inj, I.ok.has, I.ok.cab, fun z => Bool.noConfusion z, I.ok.frames, I.ok.stk, I.ok.exf, I.ok.bs, I.ok.bsz, I.ok.noex, I.ok.exfs, I.ok.funs, I.ok.frf⟩, I.os, I.bare, I.base, I.loc, I.cell, I.free, I.freeC, I.pin, I.hok, I.len⟩
theorem Inv.uncaught {x : Addr} (J : Inv (X.caught x) pins σ H s) (ok : X.Ok) : Inv X pins σ H s := ⟨ok, J.os, J.bare, J.base, J.loc, J.cell, J.free, J.freeC, J.pin, J.hok, J.len⟩
theorem tR {M : Model} {A : Around} {E : Value -> Shared -> Prop} {i : Nat} {n : Str} {Q : Unit -> Shared -> Prop} (I : Inv X pins σ H s) (hN : X.N.Nodup) (hi : X.N[i]? = some n) (hk : X.env.scope.names.lookup n = some .local) (hv : σ[i]? = some (some v))
  (h : ∀ s', Inv X pins (σ.set i none) H s' -> Q () s') : wpAny M A (unbindName X.env n) Q E s := by
 obtain ⟨m, hn, hl⟩ := id I.loc
 obtain ⟨u, _, q⟩ := hl i n v hi hv (.inl hk)
 have hm : m n = some u := by
  rcases q with ⟨_, e⟩ | ⟨z, _⟩
  ·exact e
  ·have hk' : X.env.kindOf n = some .local := hk
   rw [hk'] at z
   rcases z with z | z <;> cases z
 have hcls : (X.env.scope.kind == .class || (X.env.scope.kind == .module && X.env.locals != X.env.globals)) = false := by rw [I.ok.kind]; rfl
 have hiσ : i < σ.length := by rw [I.len]; exact (List.getElem?_eq_some_iff.mp hi).1
 refine wpAny_unbindName_local hk hn hm hcls fun h' u' hn' hs => ?_
 have far : ∀ b o, X.s₀.heap.get? b = some o -> b ≠ X.env.locals := fun b o e => Nat.ne_of_lt (Nat.lt_of_lt_of_le (Heap.lt_size e) I.ok.above)
 refine h _ ⟨I.ok, I.os, I.bare, ⟨fun b o e n hb hx => (hs.2 b (far b o e)).trans (I.base.keep b o e n hb hx), fun b o e n hb hx => ?_, I.base.free, fun b o e hx => ?_, I.base.tups, I.base.frzs, I.base.tbls⟩, ⟨_, hn', fun j y v' e1 e2 e3 => ?_⟩, fun y c e => ?_, I.free, I.freeC, fun p hp => ?_, fun b ob e => ?_, by simpa using I.len⟩
 ·obtain ⟨sl, q⟩ := I.base.slot b o e n hb hx
  exact ⟨sl, (hs.2 b (far b o e)).trans q⟩
 ·obtain ⟨o', q⟩ := I.base.there b o e hx
  exact ⟨o', (hs.2 b (far b o e)).trans q⟩
 ·have hj : j ≠ i := fun z => by
   rw [z, List.getElem?_set_self hiσ] at e2
   cases e2
  rw [List.getElem?_set_ne (Ne.symm hj)] at e2
  obtain ⟨w', r', q⟩ := hl j y v' e1 e2 e3
  refine ⟨w', r', ?_⟩
  rcases q with ⟨k, e⟩ | ⟨k, c, e, z⟩
  ·have : y ≠ n := fun e => hj (gm hN e1 (e ▸ hi))
   exact .inl ⟨k, by simp [this, e]⟩
  ·exact .inr ⟨k, c, e, z.sameBut hs (I.cne y c e)⟩
 ·obtain ⟨w', z⟩ := I.cell y c e
  exact ⟨w', z.sameBut hs (I.cne y c e)⟩
 ·obtain ⟨e, n, ne, nf, d⟩ := I.pin p hp
  exact ⟨(hs.2 p.1 ne).trans e, n, ne, nf, d⟩
 ·refine (I.hok b ob e).stay (fun c w' hc q => (hs.2 c ?_).trans q) (fun _ q => q) fun _ _ q => q
  rintro rfl
  rcases hc with rfl | hc
  ·rw [I.free] at e; cases e
  ·rw [I.free] at hc; cases hc
end
section
variable {X : Cx} {k i : Nat} {f CB : Addr} {fd : FuncData} {ps : List Str} {sp : Sp} {e0 : Expr} {es : List Expr} {ta : TA} {x cb en : Str} {b0 : Stmt} {suite : List Stmt} {th : TS} {p pos pe np hp tp : Pos}
def unE (D : Ends) (i : Nat) : Ends := { nx := fun σ H => D.nx (σ.set i none) H, rt := D.rt, bk := fun σ H => D.bk (σ.set i none) H, ct := fun σ H => D.ct (σ.set i none) H }
def Bp (K : Frag) (CB : Addr) (sp : Sp) (ta : TA) (i : Nat) (th : TS) : TS := fun D σ H => ta σ H fun vs H1 => sp vs H1 (fun _ _ => False) fun c _ H' => ∃ C, c = .ref C /\ exmOne K (.ref C) (.ref CB) = some true /\
 ∀ y o, H' y = none -> o.cls = .ref C -> th (unE D i) (σ.set i (some (.ref y))) (upd H' y (.frz o (.own y)))
theorem yB (F : fN X.prog X.w X.K X.mg X.base (CX1 X.prog X.w) k f fd ps sp) (hr : aQ k X.A) (hm : X.mg x = some (.ref f)) (hk : PySem.W.keepIn X.K (.ref f) = true) (hb : Binds X.K fd ps []) (ha : PA X (e0 :: es) ta) (hcb : X.mg cb = some (.ref CB))
  (hs : ∀ y, PSs (X.caught y) (b0 :: suite) th) (hxe : ∀ e s, ¬X.xe e s) (hex0 : X.ex = []) (hst : X.stack = X.env :: X.outer) (hfr : X.env.frame = some X.env.locals) (hN : X.N.Nodup) (hi : X.N[i]? = some en) (hloc : X.env.scope.names.lookup en = some .local)
  (hg : Gl X x := by rfl) (hgc : Gl X cb := by rfl) (hd : (x == ("__debug__" : Str)) = false := by decide) (hdc : (cb == ("__debug__" : Str)) = false := by decide) (he : starEach (e0 :: es) X.env = (false, eval e0 X.env) :: starEach es X.env := by rfl) (hpl : (backTo pos (starEach es X.env)).any (·.1) = false := by rfl)
  (hsw : swapsWith (.Call (.Name x p) (e0 :: es) [] pos) none pe.line X.env = pure false := by rfl) :
  PS X (.Try [.Expr (.Call (.Name x p) (e0 :: es) [] pos) pe] [.ExceptHandler (some (.Name cb np)) (some en) (b0 :: suite) hp] [] [] tp) (Bp X.K CB sp ta i th) := by
 intro pins s σ H D I h
 refine wpAny_Try_except (wpAny_execs_cons (wpAny_Expr_any ?_ I.quiet hsw))
 refine wpAny_Call_Name_kw (dH I hg hm ?_ hd)
 refine PySem.W.callWith_K (h₀ := X.base) I.ok.mod.kin hk (wpAny_mono (ha pos pins s σ H _ I h) (fun us s1 ⟨vs, H1, I1, r, q⟩ => ⟨I1.kIn, ?_⟩) fun e s z => (hxe e s z).elim) he hpl
 have hl : us.length = ps.length := by rw [<- r.length]; exact F.len _ _ _ _ q
 have hbd := hb s1 us I1.kIn (by rw [List.append_nil]; exact hl)
 rw [List.append_nil] at hbd
 refine wpAny_call (codeAny_mono (F.run X.A X.stack s1 H1 ⟨us, []⟩ us vs _ _ hr I1.env0 hbd r q) fun res s' hq => ?_)
 match res, hq with
 | .ok (.ret u), hq => obtain ⟨_, _, _, _, _, _, _, z⟩ := hq; exact z.elim
 | .error e, hq =>
  obtain ⟨y, cls, a0, B, H', rfl, Fl, C, rfl, hex, fin⟩ := hq
  have fr : X.A.frames = some (X.env :: X.outer) := hst ▸ I.ok.frames
  have fly0 := Fl.fly
  rw [hst] at fly0
  refine wpAny_looks_onW fr hfr fly0 fun h4 held up4 => ?_
  refine wpAny_landsW held fun h5 fly5 up5 => ?_
  have F5 : Flies X.prog X.w X.stack H1 s1 y (.ref C) a0 B H' { s' with heap := h5, toks := s'.toks } := Fl.on I1 (by rw [hst]; exact fly5) (up4.trans up5)
  have I5 := I1.lands F5
  obtain ⟨o5, ho5, hc5⟩ := fly5.there
  refine wpAny_handleBy_cons (codeAny_handlers_test (dH (I5.caught y) hgc hcb ?_ hdc)) (by intro q; cases q)
  refine exm_one (h := h5) I5.kIn (hc5 ▸ (Looks.ld ho5).andThen .now) hex _ _ _ _ (fun _ _ e => e) ?_
  refine codeAny_handlers_suite_as ?_
  refine lands_againW fly5 fun h6 fly6 up6 => ?_
  have F6 : Flies X.prog X.w X.stack H1 s1 y (.ref C) a0 B H' { s' with heap := h6, toks := s'.toks } := Fl.on I1 (by rw [hst]; exact fly6) ((up4.trans up5).trans up6)
  have I6 := I1.lands F6
  obtain ⟨o6, ho6, hc6⟩ := fly6.there
  have here : ∀ b o, s1.heap.get? b = some o -> b ≠ y := fun b o e z => by rw [z, Fl.new] at e; cases e
  have I7 : Inv (X.caught y) pins σ (upd H' y (.frz o6 (.own y))) { s' with heap := h6, toks := s'.toks } := by
   refine (I6.caught y).trackN F6.noX ?_ ?_ ?_ ?_ ⟨ho6, o6, ho6⟩
   ·cases z : X.s₀.heap.get? y with
    | none => rfl
    | some o =>
     obtain ⟨o', e'⟩ := I1.base.there y o z (by rw [hex0]; intro q; cases q)
     exact absurd rfl (here y o' e')
   ·obtain ⟨m, ⟨o, es, ep, e, _⟩, _⟩ := I1.loc
    exact (here _ o e).symm
   ·intro n c e
    obtain ⟨v, o, e', _⟩ := I1.cell n c e
    exact here c o e'
   ·intro p hp
    exact here p.1 p.2 (I1.pin p hp).1
  refine eu (X := X.caught y) I7 hN hi (.inl hloc) (show RelV (.ref y) (.ref y) from rfl) (fun s8 I8 => ?_) (.inr hloc)
  refine wpAny_mono (hs y pins s8 _ _ (unE D i) I8 (fin y o6 F6.noX hc6)) (fun fl s9 q9 => ?_) fun e s z => (hxe e s z).elim
  have let_go : ∀ {σ' : St} {H9 : Hp} {R : Unit -> Shared -> Prop}, Inv (X.caught y) pins σ' H9 s9 -> (∀ s', Inv X pins (σ'.set i none) H9 s' -> R () s') -> wpAny (model X.prog X.w) X.A (do bindName X.env en .none; unbindBehindTheSuite X.env en hp) R X.xe s9 := fun {σ' H9 R} J g => by
   have J0 := J.uncaught I.ok
   refine wpAny_bind (wpAny_bindName (eu J0 hN hi (.inl hloc) (show RelV .non .none from rfl) (fun s10 I10 => ?_) (.inr hloc)))
   refine wpAny_onRaise (tR I10 hN hi hloc (List.getElem?_set_self (by rw [J0.len]; exact (List.getElem?_eq_some_iff.mp hi).1)) fun s11 I11 => ?_)
   rw [List.set_set] at I11
   exact g s11 I11
  cases fl with
  | next => obtain ⟨σ', H9, J, q⟩ := q9; exact let_go J fun s' I' => ⟨_, _, I', q⟩
  | brk => obtain ⟨σ', H9, J, q⟩ := q9; exact let_go J fun s' I' => ⟨_, _, I', q⟩
  | cont => obtain ⟨σ', H9, J, q⟩ := q9; exact let_go J fun s' I' => ⟨_, _, I', q⟩
  | ret u => obtain ⟨v, σ', H9, J, r, q⟩ := q9; exact let_go J fun s' I' => ⟨v, _, _, I', r, q⟩
end
def cX (K : Frag) (C : Addr) : Bool := (kitCls K (.ref C) (.ref C) == some true) && fZ K C && (clsIn K C).isSome
theorem cX.kit {K : Frag} {x C : Addr} (h : cX K C = true) : KitX K (.ref x) (.ref C) (ExcAt x C) := by
 simp only [cX, Bool.and_eq_true, beq_iff_eq] at h
 exact qc h.1.1 h.1.2 h.2
def nK : Value -> V
 | .ref C => .ref C
 | .type T => .ty T
 | _ => .non
def isC : Value -> Bool
 | .ref _ => true
 | .type _ => true
 | _ => false
theorem j5 {c u : Value} (h : isC c = true) (r : RelV (nK c) u) : u = c := by
 match c, h, r with
 | .ref _, _, r => exact r
 | .type _, _, r => exact r
theorem iP : ∀ {cs us : List Value}, cs.all isC = true -> Vals (cs.map nK) us -> us = cs
 | [], _, _, .nil => rfl
 | c :: cs, _, h, .cons r t => by
  simp only [List.all_cons, Bool.and_eq_true] at h
  rw [j5 h.1 r, iP h.2 t]
def qd (K : PySem.W.Frag) : List V -> Hp -> VK -> Prop := fun xs H Q => ∃ y o C c b, xs = [.ref y, c] /\ H y = some (.frz o (.own y)) /\ o.cls = .ref C /\ cX K C = true /\
 ((∃ cv, c = nK cv /\ isC cv = true /\ kitOne K (.ref C) cv = some b) \/ (∃ t cs, c = .ref t /\ SqT K H t (cs.map nK) /\ cs.all isC = true /\ kitAny K (.ref C) cs = some b)) /\ Q (.bl b) H
theorem iQ {X : Cx} : bO X (.builtin "isinstance") (qd X.K) := by
 rintro pins s σ H xs us Q I r ⟨y, o, C, c, b, e, hy, hc, ok, h, q⟩
 subst e
 obtain ⟨u, w', rfl, rx, rc⟩ := vals2 r
 cases rx
 have at_ : ExcAt y C s.heap := ⟨o, (show ObjOk X.prog X.w H s.heap y (.frz o (.own y)) from I.hok y _ hy).1, hc⟩
 have fin : ∀ tk, EP X pins σ Q (.bool b) { s with toks := tk } := fun tk => ⟨.bl b, H, I.tok tk, rfl, q⟩
 rcases h with ⟨cv, rfl, hi, e⟩ | ⟨t, cs, rfl, hq, hi, e⟩
 ·rw [j5 hi rc]
  exact PySem.W.kia_one (cX.kit ok) I.kIn at_ e (fun z => nomatch z) fin
 ·cases rc
  obtain ⟨its, r2, tp, _⟩ := I.tuple hq
  cases iP hi r2
  obtain ⟨o2, h1, h2, n, h3⟩ := tp
  obtain ⟨oc, od, odt, osl⟩ := o2
  simp only at h2 h3
  subst h2; subst h3
  exact PySem.W.kia_tup (cX.kit ok) I.kIn at_ h1 e (fun z => nomatch z) fin
def gR : List Addr -> TA
 | [] => jF
 | c :: r => dS (tC (.ref c)) (gR r)
theorem j6 : ∀ {cs : List Addr} {Q : List V -> Hp -> Prop}, Q (cs.map V.ref) H -> gR cs σ H Q
 | [], _, h => h
 | _ :: cs, _, h => j6 (cs := cs) h
theorem qe {X : Cx} : PA X [] (gR []) := fq
theorem bI {X : Cx} {n : Str} {p : Pos} {c : Addr} {es : List Expr} {cs : List Addr} (hm : X.mg n = some (.ref c)) (hr : PA X es (gR cs)) (hg : Gl X n := by rfl) (hd : (n == ("__debug__" : Str)) = false := by decide)
  (hs : starEach (.Name n p :: es) X.env = (false, eval (.Name n p) X.env) :: starEach es X.env := by rfl) : PA X (.Name n p :: es) (gR (c :: cs)) := bR (fP hg hm rfl hd) hr hs
end L2
namespace VL
open PySem L2 PySem.W
section
variable {K : PySem.W.Frag} {X : Cx} {m : Bool} {i : Nat} {en cn : Str} {p1 p2 p3 p4 pos : Pos} {es : List Expr} {cs : List Addr} {c : Value}
theorem Bq {H0 H : Hp} {C : Addr} (k : OK K H0 Z σ H S) (h : S[i]? = some (.val (.exc (.ref C)))) : ∃ y o, σ[i]? = some (some (.ref y)) /\ H y = some (.frz o (.own y)) /\ o.cls = .ref C := by
 obtain ⟨o, e, v, rfl, r⟩ := k.ownAt h
 cases r with | exc n hh hc => exact ⟨_, _, e, hh, hc⟩
def vG (K : Frag) (i : Nat) (c : Value) : VT := fun S Q => ∃ C b, S[i]? = some (.val (.exc (.ref C))) /\ cX K C = true /\ kitOne K (.ref C) c = some b /\ Q (.d (.bl b)) S
theorem js (hK : X.K = K) (hc : isC c = true) (hcn : PE X (.Name cn p3) (tC (nK c))) (hi : X.N[i]? = some en) (hv : Vis X.env.scope en) (hg : Gl X "isinstance") (hm : X.mg "isinstance" = none) (hd : (en == ("__debug__" : Str)) = false := by decide) (hcd : (en == ("__classdict__" : Str)) = false := by decide)
  (he : starEach [.Name en p2, .Name cn p3] X.env = [(false, eval (.Name en p2) X.env), (false, eval (.Name cn p3) X.env)] := by rfl) :
  VE K X m (.Call (.Name "isinstance" p1) [.Name en p2, .Name cn p3] [] pos) (tCB (qd K) (dS (cY i) (dS (tC (nK c)) jF))) (vG K i c) :=
 ⟨by subst hK; exact di iQ hg hm aY (bR (kE hi hv hd hcd) (bR hcn fq)), fun H0 Z σ H S Q C k t hcc => by
  obtain ⟨C0, b, h1, h2, h3, q⟩ := t
  obtain ⟨y, o, e1, e2, e3⟩ := Bq k h1
  exact ⟨_, e1, y, o, C0, _, b, rfl, e2, e3, h2, .inl ⟨c, rfl, hc, h3⟩, hcc _ _ (.d (.bl b)) S k .refl (Rep.bl b) q⟩⟩
def vH (K : Frag) (i : Nat) (cs : List Addr) : VT := fun S Q => ∃ C b, S[i]? = some (.val (.exc (.ref C))) /\ cX K C = true /\ kitAny K (.ref C) (cs.map Value.ref) = some b /\ Q (.d (.bl b)) S
theorem tS {x1} (hK : X.K = K) (hcs : PA X es (gR cs)) (hz : cs.length < 100) (hi : X.N[i]? = some en) (hv : Vis X.env.scope en) (hg : Gl X "isinstance") (hm : X.mg "isinstance" = none) (hd : (en == ("__debug__" : Str)) = false := by decide) (hcd : (en == ("__classdict__" : Str)) = false := by decide)
  (he : starEach [.Name en p2, .Tuple es x1 p3] X.env = [(false, eval (.Name en p2) X.env), (false, eval (.Tuple es x1 p3) X.env)] := by rfl) :
  VE K X m (.Call (.Name "isinstance" p1) [.Name en p2, .Tuple es x1 p3] [] pos) (tCB (qd K) (dS (cY i) (dS (wM (gR cs)) jF))) (vH K i cs) :=
 ⟨by subst hK; exact di iQ hg hm aY (bR (kE hi hv hd hcd) (bR (ou hcs) fq)), fun H0 Z σ H S Q C k t hcc => by
  obtain ⟨C0, b, h1, h2, h3, q⟩ := t
  obtain ⟨y, o, e1, e2, e3⟩ := Bq k h1
  refine ⟨_, e1, j6 ⟨by rw [List.length_map, sizeLine_eq]; lia, fun p hp => ?_⟩⟩
  have g := aJ (o := .tup (cs.map V.ref)) hp
  refine ⟨y, o, C0, _, b, rfl, by rw [g y (by rw [e2]; simp)]; exact e2, e3, h2, .inr ⟨p, cs.map Value.ref, rfl, .inl (.inl ?_), by simp [isC], h3⟩, hcc _ _ (.d (.bl b)) S (k.grow g) (.grow g) (Rep.bl b) q⟩
  rw [aq, List.map_map]
  rfl⟩
end
end VL
namespace VL
open PySem L2 PySem.W
def spX (K : PySem.W.Frag) (bad : List D -> Addr -> Prop) : Sp := fun vs H _ E => ∃ ds C, Reps K Any AnyF H vs ds /\ bad ds C /\ ∀ H', (∀ a, H a ≠ none -> H' a = H a) -> E (.ref C) none H'
def iu (P : Program) (w : World) (K : PySem.W.Frag) (mg : Str -> Option Value) (base : Heap) (k : Nat) (x : Str) (ps : List Str) (bad : List D -> Addr -> Prop) : Prop :=
 ∃ (f : Addr) (fd : FuncData), fN P w K mg base (CX1 P w) k f fd ps (spX K bad) /\ mg x = some (.ref f) /\ PySem.W.keepIn K (.ref f) = true /\ Binds K fd ps []
def Fz (Hin : Hp) (Z : AP) (σ : St) (S : List Sl) (H : Hp) : Prop := ∀ a, Hin a ≠ none -> H a = Hin a /\ NM Z σ S a
theorem Fz.step {Hin H H' : Hp} {σ σ' : St} {S S' : List Sl} (f : Fz Hin Z σ S H) (st : Step Z σ S H σ' S' H') : Fz Hin Z σ' S' H' := fun a e => by
 obtain ⟨e1, n⟩ := f a e
 obtain ⟨e2, n2⟩ := st.1 a n (by rw [e1]; exact e)
 exact ⟨e2.trans e1, n2⟩
structure VXs (K : PySem.W.Frag) (X : Cx) (Hin : Hp) (E : XK) (sts : List Stmt) (ts : TS) (t : (Addr -> Prop) -> List Sl -> Prop) : Prop where
 ps : PSs X sts ts
 snd : ∀ Wc : Addr -> Prop, (∀ C, Wc C -> ∀ H', (∀ a, Hin a ≠ none -> H' a = Hin a) -> E (.ref C) none H') -> ∀ H0 Z σ H S D, OK K H0 Z σ H S -> Fz Hin Z σ S H -> t Wc S -> ts D σ H
section
variable {K : PySem.W.Frag} {X : Cx} {Hin : Hp} {E : XK} {sts rest A : List Stmt} {st : Stmt} {ts us : TS} {t u : (Addr -> Prop) -> List Sl -> Prop} {v : VTS} {pos : Pos}
theorem qf : VXs K X Hin E sts de (fun _ _ => False) := ⟨cD, fun _ _ _ _ _ _ _ _ _ _ h => h.elim⟩
theorem qg {C : Addr} {bmB : List Value} {B newId initId : String} {x z : Str} {j : Nat} {np p cpos pos : Pos} (T : du X Hin E) (FB : ExcBaseFacts B newId initId bmB) (ec : excIn X.K C bmB newId = true) (hm : X.mg x = some (.ref C)) (hc : X.calm = true) (hg : Gl X x := by rfl) (hd : (x == ("__debug__" : Str)) = false := by decide)
  (he : starEach [.Constant (.str z) j p] X.env = [(false, eval (.Constant (.str z) j p) X.env)] := by rfl) :
  VXs K X Hin E [.Raise (some (.Call (.Name x np) [.Constant (.str z) j p] [] cpos)) none pos] (qa Hin E C) (fun Wc _ => Wc C) :=
 ⟨lK (qb T FB ec hm hc hg hd he), fun Wc hE H0 Z σ H S D k f h => ⟨fun b e => (f b e).1, hE C h H fun b e => (f b e).1⟩⟩
theorem Br {c : Expr} {tc : TT} {wc : VTT} (hc : VTe K X c tc wc) (ha : VXs K X Hin E A ts t) (hr : VXs K X Hin E rest us u) : VXs K X Hin E (.If c A [] pos :: rest) (oa (rP tc ts n9) us) (fun Wc S => wc S fun b S1 => if b = true then t Wc S1 else u Wc S1) :=
 ⟨eE (og hc.pe ha.ps lJ) hr.ps, fun Wc hE H0 Z σ H S D k f h => hc.snd H0 Z σ H S _ _ k h fun b H1 S1 k1 st1 q => by
  cases b with
  | true => rw [if_pos rfl] at q ⊢; exact ha.snd Wc hE H0 Z σ H1 S1 _ k1 (f.step st1) q
  | false => rw [if_neg Bool.false_ne_true] at q ⊢; exact hr.snd Wc hE H0 Z σ H1 S1 D k1 (f.step st1) q⟩
theorem tT {k j : Nat} {x : Str} {ps : List Str} {bad : List D -> Addr -> Prop} {e : Expr} {es : List Expr} {tr : TA} {vr : VTA} {p0 cpos : Pos} (T : du X Hin E) (F : iu X.prog X.w X.K X.mg X.base k x ps bad) (hK : X.K = K) (hr : aQ j X.A) (ha : VA K X false (e :: es) tr vr)
  (hk : k <= j := by decide) (hg : Gl X x := by rfl) (hdb : (x == ("__debug__" : Str)) = false := by decide) (he : starEach (e :: es) X.env = (false, eval e X.env) :: starEach es X.env := by rfl)
  (hpl : (backTo cpos (starEach es X.env)).any (·.1) = false := by rfl) (hs : swapsWith (.Call (.Name x p0) (e :: es) [] cpos) none pos.line X.env = pure false := by rfl) :
  VXs K X Hin E (.Expr (.Call (.Name x p0) (e :: es) [] cpos) pos :: rest) (oa (oe (dU (spX K bad) [] (fun c _ H' => (∀ b, Hin b ≠ none -> H' b = Hin b) /\ E c none H') tr)) de) (fun Wc S => vr S fun rs S1 => ∃ ds C, gets S1 rs = some ds /\ bad ds C /\ Wc C) := by
 subst hK
 obtain ⟨f, fd, F, hm, kp, hb⟩ := F
 refine ⟨eE (lL (i8 F (hr.mono hk) hg hm kp hb .nil (fun pins σ H s e s' I h => T.next pins σ H s e s' I h) ha.pe hdb he hpl) hs) cD, fun Wc hE H0 Z σ H S D k f h => ?_⟩
 refine ha.snd H0 Z σ H S _ _ k h fun vs H1 rs S1 k1 st1 rrs zr1 => ?_
 obtain ⟨ds, C, e, hb, hw⟩ := zr1
 have f1 := f.step st1
 refine ⟨ds, C, by rw [List.append_nil]; exact rrs.gets k1 e, hb, fun H' g => ?_⟩
 have fr : ∀ b, Hin b ≠ none -> H' b = Hin b := fun b e => by
  have q := (f1 b e).1
  rw [<- q]
  exact g b (by rw [q]; exact e)
 exact ⟨fr, hE C hw H' fr⟩
theorem qh {P : Program} {w : World} {mg : Str -> Option Value} {base : Heap} {x : Str} {st : Stmt} {N ps : List Str} {k : Nat} {bad : List D -> Addr -> Prop} (S : Src K mg x st) (sc : aA N ps (ai st))
  (hb : ∀ (kV doc pm : Value) (an : Option Addr) (cdv ct : Value) (us : List Value), us.length = ps.length -> bindArgs (PySem.W.fnOf x x (bz st) (aS st) (ai st) .none kV doc pm an cdv ct) ⟨us, []⟩ = pure (ps.zip us))
  (len : ∀ ds C, bad ds C -> ds.length = ps.length)
  (hbody : ∀ (f : Addr) (cdv : Value) (A : Around) (outer : List Env) (s : Shared) (H : Hp) (E : XK), aQ k (A.deeper (PyProof.Rows.envOfC x (ai st) s.heap.objs.size f cdv)) -> du (ft (CX1 P w) P w K mg base N x (ai st) f cdv A outer s H E) H E ->
   ∃ ts t, VXs K (ft (CX1 P w) P w K mg base N x (ai st) f cdv A outer s H E) H E (aS st) ts t /\ ∀ ds C, bad ds C -> t (· = C) (slots N.length ds)) : iu P w K mg base (k + 1) x ps bad := by
 obtain ⟨f, fd, F, hm⟩ := S
 obtain ⟨oc, od, kV, doc, pm, an, cdv, ct, osl, rfl, lk, hcd⟩ := F.ex
 refine ⟨f, _, ox lk hcd sc (fun vs H Q E zq1 => by obtain ⟨ds, C, r, h, _⟩ := zq1; rw [r.length]; exact len ds C h) fun A outer s H vs Q E hr ⟨ds, C, r, h, fin⟩ => ?_, hm, F.kp, F.binds hb⟩
 obtain ⟨ts, t, vx, q⟩ := hbody f cdv A outer s H E hr nJ
 refine ⟨ts, vx.ps, vx.snd (· = C) (fun C' e H' g => by subst e; exact fin H' g) H _ _ H _ _ (eO (N := N) r) (fun a e => ⟨rfl, ?_⟩) (q ds C h)⟩
 rintro (⟨j, s, g1, g2, _⟩ | z)
 ·rw [bj g1] at g2; cases g2
 ·exact z
end
end VL
namespace VL
open PySem L2 PySem.W
section
variable {K : PySem.W.Frag} {H H0 : Hp} {Z : AP} {σ : St} {S : List Sl} {i : Nat}
theorem OK.letGo (k : OK K H0 Z σ H S) (hi : i < S.length) : OK K H0 Z (σ.set i none) H (S.set i .no) /\ Step Z σ S H (σ.set i none) (S.set i .no) H := by
 have n : ∀ a, NM Z σ S a -> NM Z (σ.set i none) (S.set i .no) a := fun a x z => by
  rcases ji z with z | ⟨z, _⟩
  ·exact x z
  ·cases z
 exact ⟨k.put hi (fun a x _ => ⟨n a x, rfl⟩) (fun _ _ _ _ _ _ _ => rfl) trivial (fun _ _ _ _ _ _ z => nomatch z) (fun _ e => e) k.zl (fun _ z => nomatch z), fun a x _ => ⟨rfl, n a x⟩, fun _ e => e, fun _ _ _ => rfl⟩
theorem NP.letGo {a : Addr} (h : NP σ S a) : NP (σ.set i none) (S.set i .no) a := fun j ad ns g1 g2 => by
 by_cases hj : i = j
 ·subst hj
  by_cases hl : i < S.length
  ·rw [List.getElem?_set_self hl] at g1; cases g1
  ·rw [List.getElem?_eq_none (by simpa using hl)] at g1; cases g1
 ·rw [List.getElem?_set_ne hj] at g1 g2
  exact h j ad ns g1 g2
def unV (V : aW) (i : Nat) : aW := { nx := fun S => i < S.length /\ V.nx (S.set i .no), rt := fun d S => i < S.length /\ V.rt d (S.set i .no), bk := fun S => i < S.length /\ V.bk (S.set i .no), ct := fun S => i < S.length /\ V.ct (S.set i .no) }
theorem Lf.letGo {V : aW} {E : Ends} (l : Lf K H0 Z σ S H V E) : Lf K H0 Z σ S H (unV V i) (unE E i) where
 nx := fun σ' H' S' k st zt1 => by obtain ⟨hi, q⟩ := zt1; exact l.nx _ _ _ (k.letGo hi).1 (st.trans (k.letGo hi).2) q
 bk := fun σ' H' S' k st zt1 => by obtain ⟨hi, q⟩ := zt1; exact l.bk _ _ _ (k.letGo hi).1 (st.trans (k.letGo hi).2) q
 ct := fun σ' H' S' k st zt1 => by obtain ⟨hi, q⟩ := zt1; exact l.ct _ _ _ (k.letGo hi).1 (st.trans (k.letGo hi).2) q
 rt := fun v d σ' H' S' k st r zt1 => by obtain ⟨hi, q⟩ := zt1; exact l.rt v d _ _ _ (k.letGo hi).1 (st.trans (k.letGo hi).2) (r.mono (fun a n _ => ⟨NP.letGo n, rfl⟩) fun _ x => x) q
end
section
variable {K : PySem.W.Frag} {X : Cx} {k j i : Nat} {CB : Addr} {ps : List Str} {bad : List D -> Addr -> Prop} {e0 : Expr} {es : List Expr} {tr : TA} {vr : VTA} {x cb en : Str} {b0 : Stmt} {suite : List Stmt} {th : TS} {vh : VTS} {p pos pe np hp tp : Pos}
def Bs (K : Frag) (CB : Addr) (bad : List D -> Addr -> Prop) (vr : VTA) (i : Nat) (vh : VTS) : VTS := fun V S => vr S fun rs S1 => i < S1.length /\ ∃ ds C, gets S1 rs = some ds /\ bad ds C /\ exmOne K (.ref C) (.ref CB) = some true /\ vh (unV V i) (S1.set i (.val (.exc (.ref C))))
theorem yC (F : iu X.prog X.w X.K X.mg X.base k x ps bad) (hK : X.K = K) (hr : aQ j X.A) (ha : VA K X false (e0 :: es) tr vr) (hcb : X.mg cb = some (.ref CB)) (hs : ∀ y, VSs K (X.caught y) (b0 :: suite) th vh) (hxe : ∀ e s, ¬X.xe e s) (hex0 : X.ex = [])
  (hst : X.stack = X.env :: X.outer) (hfr : X.env.frame = some X.env.locals) (hN : X.N.Nodup) (hi : X.N[i]? = some en) (hloc : X.env.scope.names.lookup en = some .local) (hk : k <= j := by decide)
  (hg : Gl X x := by rfl) (hgc : Gl X cb := by rfl) (hd : (x == ("__debug__" : Str)) = false := by decide) (hdc : (cb == ("__debug__" : Str)) = false := by decide) (he : starEach (e0 :: es) X.env = (false, eval e0 X.env) :: starEach es X.env := by rfl) (hpl : (backTo pos (starEach es X.env)).any (·.1) = false := by rfl)
  (hsw : swapsWith (.Call (.Name x p) (e0 :: es) [] pos) none pe.line X.env = pure false := by rfl) :
  VS K X (.Try [.Expr (.Call (.Name x p) (e0 :: es) [] pos) pe] [.ExceptHandler (some (.Name cb np)) (some en) (b0 :: suite) hp] [] [] tp) (Bp K CB (spX K bad) tr i th) (Bs K CB bad vr i vh) := by
 subst hK
 obtain ⟨f, fd, F, hm, kp, hb⟩ := F
 refine ⟨yB F (hr.mono hk) hm kp hb ha.pe hcb (fun y => (hs y).ps) hxe hex0 hst hfr hN hi hloc hg hgc hd hdc he hpl hsw, fun H0 Z σ H S V D k t l => ?_⟩
 refine ha.snd H0 Z σ H S _ _ k t fun vs H1 rs S1 k1 st1 rrs ⟨hl, ds, C, e, hbd, hex, q⟩ => ⟨ds, C, rrs.gets k1 e, hbd, fun H' g => ⟨C, rfl, hex, fun y o hy hc => ?_⟩⟩
 have g2 := aJ (o := .frz o (.own y)) hy
 have k2 := (k1.grow g).grow g2
 have st2 : Step Z σ S H σ S1 (upd H' y (.frz o (.own y))) := (st1.trans (.grow g)).trans (.grow g2)
 obtain ⟨k3, st3⟩ := k2.setVal hl (Rep.exc (c := .ref C) ((k1.grow g).nm hy) aq hc)
 exact (hs 0).snd H0 Z _ _ _ _ _ k3 q ((l.step (st2.trans st3)).letGo)
end
end VL
end
section
namespace VL
open PySem L2 PySem.W
section
variable {i : Nat} {va : VT} {vr : VTA} {S : List Sl} {Q : VR -> List Sl -> Prop} {q : D -> Prop}
theorem lA {K : Frag} {c : Value} {C : Addr} {b : Bool} (e : S[i]? = some (.val (.exc (.ref C)))) (ok : cX K C = true) (hk : kitOne K (.ref C) c = some b) (h : Q (.d (.bl b)) S) : vG K i c S Q := ⟨C, b, e, ok, hk, h⟩
theorem yD {K : Frag} {cs : List Addr} {C : Addr} {b : Bool} (e : S[i]? = some (.val (.exc (.ref C)))) (ok : cX K C = true) (hk : kitAny K (.ref C) (cs.map Value.ref) = some b) (h : Q (.d (.bl b)) S) : vH K i cs S Q := ⟨C, b, e, ok, hk, h⟩
end
end VL
end
section
namespace L2
open PySem PySem.Spec PyProof.Rows PySem.W
section
variable {X : Cx}
def qj (K : PySem.W.Frag) (n : Int) : R2 := fun x y H Q => ∃ b a ms es i, y = .ref b /\ x = .ref a /\ SqT K H b (ms.map V.int) /\ (∃ ob, H a = some (bK a ob es)) /\ cS K H es /\ (atE es ms).getD (.int n) = .int i /\ Q (.int i) H
def vI (K : PySem.W.Frag) (n : Int) (to ti : TE) : TE := fun σ H Q => to σ H fun x H1 => (∃ a es ob, x = .ref a /\ H1 a = some (bK a ob es)) /\ ti σ H1 fun y H2 => qj K n x y H2 Q
theorem nM {s : Shared} {x y : V} {v u : Value} {n : Int} {t : Tok} {Q : VK} (hu : X.A.units + 64 < cLine) (I : Inv X pins σ H s) (rx : RelV x v) (ry : RelV y u) (h : qj X.K n x y H Q) :
  wpAny (model X.prog X.w) X.A (call (.builtin "dict.get") [v, u, .int n t]) (EP X pins σ Q) X.xe s := by
 obtain ⟨b, a, ms, es, i, rfl, rfl, h1, ⟨ob, h2⟩, h3, hi, q⟩ := h
 cases rx; cases ry
 obtain ⟨z, m, nd, xs, ev, dd⟩ := fY I h2 h3
 refine call_meetsIn F.slot_dict_get dd.typeIs F.entry_dict_get (F.args_dict_get_3 _ _ _) (meetsH_dict_get_default (tupleKind (intKind X.prog X.w)) a b m (.int n t)) ⟨tupleKind_room_in1 (by lia), ms, xs, gP I h1, dd, ?_⟩
 have r := ev.at_ ms
 refine ⟨.int i, H, I.tok _, ?_, q⟩
 cases h4 : atE es ms with
 | none =>
  rw [h4] at r hi
  cases h5 : (atKey xs ms).map (·.2) with
  | none => cases hi; exact ⟨t, rfl⟩
  | some w => rw [h5] at r; exact r.elim
 | some w =>
  rw [h4] at r hi
  cases h5 : (atKey xs ms).map (·.2) with
  | none => rw [h5] at r; exact r.elim
  | some w' => rw [h5] at r; cases (show w = .int i from hi); exact r
def two (K : PySem.W.Frag) (x : V) (Q : VK) : List V -> Hp -> Prop
 | [y, .int k], H => qj K k x y H Q
 | _, _ => False
theorem tU {o ie : Expr} {to ti : TE} {n : Int} {j : Nat} {pc apos cpos : Pos} (hu : X.A.units + 64 < cLine) (ho : PE X o to) (hi : PE X ie ti) (hbase : attributeBase o "get" X.env (eval o X.env) = eval o X.env := by rfl)
  (hfew : ((backTo cpos (starEach [ie, .Constant (.int n) j pc] X.env)).all (fun x => !x.1) && (backToKw cpos (keywordEach [] X.env)).all (fun x => x.1.isSome)
   && decide (([ie, .Constant (.int n) j pc] : List Expr).length + ([] : List Keyword).length + (if ([] : List Keyword).isEmpty then 0 else 1) < 30)) = true := by rfl)
  (hline : (apos.endLine == cpos.line) = true := by rfl) (hs : starEach [ie, .Constant (.int n) j pc] X.env = (false, eval ie X.env) :: starEach [.Constant (.int n) j pc] X.env := by rfl) (hplain : (backTo cpos (starEach [.Constant (.int n) j pc] X.env)).any (·.1) = false := by rfl) :
  PE X (.Call (.Attribute o "get" apos) [ie, .Constant (.int n) j pc] [] cpos) (vI X.K n to ti) := by
 intro pins s σ H Q I h
 refine wpAny_Call_method_late hbase hfew hline rfl (thn (ho pins s σ H _ I h) fun v s1 zr1 => ?_)
 obtain ⟨x, H1, I1, r1, ⟨a, es, ob, hx, ha⟩, q1⟩ := zr1
 subst hx
 cases r1
 obtain ⟨_, _, _, _, _, ob, _, _, z1, z2, _⟩ := fT I1 ha
 refine ⟨"dict", "dict.get", PySem.F.plainAttrs_dict, PySem.F.slot_dict_get, PySem.F.type_dict_get, ⟨_, z1, z2.1⟩, fun b e => by cases e; exact ⟨_, z1, z2.2.1⟩, ?_⟩
 have hA := bR hi (bR (n6 (i := n)) fq rfl) hs cpos pins s1 σ H1 (two X.K (.ref a) Q) I1 q1
 rw [hs] at hA ⊢
 refine Calls.callWith_builtin (by show (false || (backTo cpos (starEach [.Constant (.int n) j pc] X.env)).any (·.1)) = false; rw [hplain] <;> rfl) (Calls.evalArgs_plain ?_)
 refine thn hA fun us s2 zr1 => ?_
 obtain ⟨vs, H2, I2, r2, q2⟩ := zr1
 match vs, r2, q2 with
 | [y, .int k], r2, q2 =>
  obtain ⟨u, w, rfl, ru, t, rfl⟩ := r2.two
  exact nM hu I2 (show RelV (.ref a) (.ref a) from rfl) ru q2
end
end L2
namespace VL
open PySem L2 PySem.W
section
variable {X : Cx} {K : PySem.W.Frag} {m : Bool} {e : Expr} {te : TE} {va : VT} {pos : Pos}
theorem jt {N : AP} {k : List Int} : ∀ {es : List (List Int × Addr × V)} {kvs : List (List Int × D)}, es.map (·.1) = kvs.map (·.1) -> Reps K N F H (es.map (·.2.2)) (kvs.map (·.2)) ->
  (atE es k = none /\ dt kvs k = none) \/ ∃ v d, atE es k = some v /\ dt kvs k = some d /\ Rep K N F H v d
 | [], [], _, _ => .inl ⟨rfl, rfl⟩
 | [], _ :: _, h, _ => by cases h
 | _ :: _, [], h, _ => by cases h
 | e :: es, p :: ps, h, .cons r t => by
  have h1 : e.1 = p.1 := (List.cons.inj h).1
  by_cases z : p.1 = k
  ·exact .inr ⟨e.2.2, p.2, by simp [atE, h1, z], by simp [dt, z], r⟩
  ·rcases jt (k := k) (List.cons.inj h).2 t with ⟨a, b⟩ | ⟨v, d, a, b, r⟩
   ·exact .inl ⟨by simpa [atE, List.find?_cons, h1, z] using a, by simpa [dt, List.find?_cons, z] using b⟩
   ·exact .inr ⟨v, d, by simpa [atE, List.find?_cons, h1, z] using a, by simpa [dt, List.find?_cons, z] using b, r⟩
def vJ (n : Int) (va vb : VT) : VT := fun S Q => va S fun ra S1 => (∃ kvs, get S1 ra = some (dc kvs)) /\ vb S1 fun rb S2 => ∃ kvs ms i, get S2 ra = some (dc kvs) /\ get S2 rb = some (kT ms) /\ (dt kvs ms).getD (.int n) = .int i /\ Q (.d (.int i)) S2
theorem mI {o ie : Expr} {to ti : TE} {vo vi : VT} {n : Int} {j : Nat} {pc apos : Pos} (hK : X.K = K) (hu : X.A.units + 64 < cLine) (ho : VE K X false o to vo) (hi : VE K X false ie ti vi) (hbase : attributeBase o "get" X.env (eval o X.env) = eval o X.env := by rfl)
  (hfew : ((backTo pos (starEach [ie, .Constant (.int n) j pc] X.env)).all (fun x => !x.1) && (backToKw pos (keywordEach [] X.env)).all (fun x => x.1.isSome)
   && decide (([ie, .Constant (.int n) j pc] : List Expr).length + ([] : List Keyword).length + (if ([] : List Keyword).isEmpty then 0 else 1) < 30)) = true := by rfl)
  (hline : (apos.endLine == pos.line) = true := by rfl) (hs : starEach [ie, .Constant (.int n) j pc] X.env = (false, eval ie X.env) :: starEach [.Constant (.int n) j pc] X.env := by rfl) (hplain : (backTo pos (starEach [.Constant (.int n) j pc] X.env)).any (·.1) = false := by rfl) :
  VE K X m (.Call (.Attribute o "get" apos) [ie, .Constant (.int n) j pc] [] pos) (vI K n to ti) (vJ n vo vi) :=
 ⟨by subst hK; exact tU hu ho.pe hi.pe hbase hfew hline hs hplain, fun H0 Z σ H S Q C k t hc => by
  refine ho.snd H0 Z σ H S _ _ k t fun x H1 ra S1 k1 st1 r1 zr1 => ?_
  obtain ⟨⟨kvs0, e0⟩, t1⟩ := zr1
  obtain ⟨a, es0, rfl, _, _, ⟨ob0, ha⟩, _⟩ := Rep.dct (show Rep K _ _ H1 x (.dic _ _) from r1.get k1 e0)
  refine ⟨⟨a, es0, ob0, rfl, ha⟩, ?_⟩
  refine hi.snd H0 Z σ H1 S1 _ _ k1 t1 fun y H2 rb S2 k2 st2 r2 zr1 => ?_
  obtain ⟨kvs, ms, i, e1, e2, ei, q⟩ := zr1
  obtain ⟨b, vs, rfl, hq, rr⟩ := Rep.sqT (show Rep K _ _ H2 y (.tup (ms.map D.int)) from r2.get k2 e2)
  cases Reps.toInts rr
  obtain ⟨a', es, ea, _, _, ha', ek, hk, _, rv⟩ := Rep.dct (show Rep K _ _ H2 (.ref a) (.dic _ _) from (r1.step st2).get k2 e1)
  cases ea
  refine ⟨b, a, ms, es, i, rfl, rfl, hq, ha', hk, ?_, hc _ H2 (.d (.int i)) S2 k2 (st1.trans st2) (Rep.int i) q⟩
  rcases jt (k := ms) ek rv with ⟨z1, z2⟩ | ⟨v, d, z1, z2, r⟩
  ·rw [z2] at ei; rw [z1]; cases ei; rfl
  ·rw [z2] at ei; rw [z1]
   cases (show d = .int i from ei)
   cases r
   rfl⟩
end
end VL
end
section
namespace VL
open PySem L2 PySem.W
section
variable {va vb : VT} {vn : VTN} {S : List Sl} {Q : VR -> List Sl -> Prop} {i : Nat}
def yE (n : Int) (ra : VR) (Q : VR -> List Sl -> Prop) : VR -> List Sl -> Prop := fun rb S2 => ∃ kvs ms i, get S2 ra = some (dc kvs) /\ get S2 rb = some (kT ms) /\ (dt kvs ms).getD (.int n) = .int i /\ Q (.d (.int i)) S2
def Bt (n : Int) (vb : VT) (Q : VR -> List Sl -> Prop) : VR -> List Sl -> Prop := fun ra S1 => (∃ kvs, get S1 ra = some (dc kvs)) /\ vb S1 (yE n ra Q)
theorem yF {n : Int} (h : va S (Bt n vb Q)) : vJ n va vb S Q := h
theorem yG {n : Int} {ra : VR} (e : get S ra = some (dc kvs)) (h : vb S (yE n ra Q)) : Bt n vb Q ra S := ⟨⟨kvs, e⟩, h⟩
theorem qk {n : Int} {ra rb : VR} {i : Int} (e : get S ra = some (dc kvs)) (e2 : get S rb = some (kT ms)) (e3 : (dt kvs ms).getD (.int n) = .int i) (h : Q (.d (.int i)) S) : yE n ra Q rb S := ⟨kvs, ms, i, e, e2, e3, h⟩
end
section
variable {α β : Type} {n : Nat} {ix : List Nat} {g g2 : VG} {vt vt2 : VTT} {vi vi2 : VTN} {ve vk vv : VT} {S : List Sl}
theorem ql {k c : List Int} : c ∈ (cH kvs k d).map (·.1) ↔ c = k \/ c ∈ kvs.map (·.1) := by
 unfold cH
 split
 ·next h =>
  rw [show (kvs.map fun x => if x.1 = k then (x.1, d) else x).map (·.1) = kvs.map (·.1) from cT kvs k d]
  exact ⟨.inr, fun z => z.elim (fun e => e ▸ h) id⟩
 ·simp [or_comm]
theorem iR {α : Type} {ky : α -> List Int} {f : α -> D} {c : List Int} : ∀ (xs : List α) (kvs : List (List Int × D)), c ∈ (xs.foldl (fun kvs x => cH kvs (ky x) (f x)) kvs).map (·.1) ↔ c ∈ xs.map ky \/ c ∈ kvs.map (·.1)
 | [], kvs => by simp
 | x :: xs, kvs => by
  rw [List.foldl_cons, iR xs, ql, List.map_cons, List.mem_cons]
  exact ⟨fun z => z.elim (fun h => .inl (.inr h)) fun z => z.elim (fun h => .inl (.inl h)) .inr, fun z => z.elim (fun z => z.elim (fun h => .inr (.inl h)) .inl) fun h => .inr (.inr h)⟩
end
end VL
end
section
namespace Tim
open PySem PyProof.Rows
def gal : Bool -> Keyed -> Array Keyed -> Nat -> Nat -> Nat -> StateT SortSt Sem (Option Nat) := sortPriv% PySem.Builtin.gallop
def at_ (arr : Array Keyed) (i : Nat) : Keyed := arr.getD i (Value.none, Value.none)
theorem mJ {arr : Array Keyed} {i : Nat} (h : i < arr.size) : arr[i]? = some (at_ arr i) := by
 unfold at_; simp [Array.getD, h]
theorem aL {a b : Array Keyed} {i j : Nat} (h : a[i]? = b[j]?) : at_ a i = at_ b j := by
 unfold at_; rw [Array.getD_eq_getD_getElem?, Array.getD_eq_getD_getElem?, h]
def fG (prog : Program) (w : World) (A : Around) (s : Shared) (κ : SortKind) (O : KeyOrd) (key : Keyed -> O.α) (P : Keyed -> Prop) : Prop :=
 ∀ (x y : Keyed) (C : Bool -> Shared -> Prop), P x -> P y -> C (O.blt (key x) (key y)) s -> wpAny (model prog w) A (keyLt' κ x.1 y.1) C (fun _ _ => False) s
def bey {O : KeyOrd} (key : Keyed -> O.α) (left : Bool) (x y : Keyed) : Bool := if left = true then O.blt (key y) (key x) else !O.blt (key x) (key y)
section
variable {prog : Program} {w : World} {A : Around} {E : Value -> Shared -> Prop} {s : Shared} {κ : SortKind} {O : KeyOrd} {key : Keyed -> O.α} {P : Keyed -> Prop}
theorem j7 (C : fG prog w A s κ O key P) {x y : Keyed} {st : SortSt} {Q : Option Bool -> SortSt -> Prop} (hx : P x) (hy : P y) (hk : kindOf st = κ) (h : Q (some (O.blt (key x) (key y))) st) :
  wpS (model prog w) A E s (lt' x y) Q st := by
 rw [lt'_eq]
 refine wpS_bind (wpS_get ?_)
 rw [hk]
 refine wpS_bind (wpS_lift (wpAny_attempt (wpAny_mono (C x y (fun b s' => s' = s /\ b = O.blt (key x) (key y)) hx hy ⟨rfl, rfl⟩) (fun b s' z => ⟨z.1, ?_⟩) fun _ _ z => z.elim)))
 rw [z.2]
 exact wpS_pure h
theorem ay {arr : Array Keyed} {i : Nat} {st : SortSt} {Q : Keyed -> SortSt -> Prop} (e : i < arr.size) (h : Q (at_ arr i) st) : wpS (model prog w) A E s (elem' arr i) Q st := by
 rw [elem'_eq, mJ e]; exact wpS_pure h
theorem yH (C : fG prog w A s κ O key P) {left : Bool} {x : Keyed} {arr : Array Keyed} {i : Nat} {st : SortSt} {Q : Option Bool -> SortSt -> Prop} (e : i < arr.size) (hx : P x) (hy : P (at_ arr i)) (hk : kindOf st = κ)
  (h : Q (some (bey key left x (at_ arr i))) st) :
  wpS (model prog w) A E s (elem' arr i >>= fun y => if left = true then lt' y x else lt' x y >>= fun r => pure (Option.map (fun z => !z) r)) Q st := by
 refine wpS_bind (ay e ?_)
 unfold bey at h
 cases left with
 | true => exact j7 C hy hx hk h
 | false => exact wpS_bind (j7 C hx hy hk (wpS_pure h))
theorem dv (C : fG prog w A s κ O key P) {left : Bool} {x : Keyed} {arr : Array Keyed} {base n hint : Nat} {st : SortSt} {Q : Option Nat -> SortSt -> Prop} (hk : kindOf st = κ) (hh : hint < n) (hz : base + n <= arr.size)
  (hP : ∀ i, i < n -> P (at_ arr (base + i))) (hx : P x) (mono : ∀ i j, i <= j -> j < n -> bey key left x (at_ arr (base + j)) = true -> bey key left x (at_ arr (base + i)) = true)
  (h : ∀ k, k <= n -> (∀ i, i < k -> bey key left x (at_ arr (base + i)) = true) -> (∀ i, k <= i -> i < n -> bey key left x (at_ arr (base + i)) = false) -> Q (some k) st) :
  wpS (model prog w) A E s (gal left x arr base n hint) Q st := by
 have B := fun i (hi : i < n) (R : Option Bool -> SortSt -> Prop) (r : R (some (bey key left x (at_ arr (base + i)))) st) => yH (E := E) C (left := left) (show base + i < arr.size by lia) hx (hP i hi) hk r
 generalize eb : (fun i => bey key left x (at_ arr (base + i))) = b at *
 have eb' : ∀ i, bey key left x (at_ arr (base + i)) = b i := fun i => by rw [<- eb]
 simp only [eb'] at *
 have anti : ∀ i j, i <= j -> j < n -> b i = false -> b j = false := fun i j hij hj hi => by
  cases hj' : b j with
  | false => rfl
  | true => rw [mono i j hij hj hj'] at hi; cases hi
 delta gal
 refine wpS_bind (B hint hh _ ?_)
 dsimp only
 cases hb : b hint with
 | true =>
  rw [if_pos rfl]
  refine wpS_bind (wpS_mono (wpS_forRange (I := fun k c st' => st' = st /\ ∃ ls os, c = (none, ls, os) /\ ls < os /\ k + 1 <= os /\ hint + ls < n /\ b (hint + ls) = true)
   (Q := fun c st' => st' = st /\ ∃ ls os, c = (none, ls, os) /\ ls < os /\ hint + ls < n /\ b (hint + ls) = true /\ (n - hint <= os \/ b (hint + os) = false)) ?step ?fin ⟨rfl, 0, 1, rfl, by lia, by lia, by lia, hb⟩) ?post)
  case fin =>
   rintro c st' ⟨rfl, ls, os, rfl, h1, h2, h3, h4⟩
   exact ⟨rfl, ls, os, rfl, h1, h3, h4, .inl (by lia)⟩
  case step =>
   rintro k c st' _ hkn ⟨rfl, ls, os, rfl, h1, h2, h3, h4⟩
   dsimp only
   by_cases hge : os >= n - hint
   ·rw [if_pos hge]; exact wpS_pure ⟨rfl, ls, os, rfl, h1, h3, h4, .inl hge⟩
   ·rw [if_neg hge]
    refine wpS_bind (B (hint + os) (by lia) _ ?_)
    dsimp only
    cases ho : b (hint + os) with
    | true => exact wpS_pure ⟨rfl, os, 2 * os + 1, rfl, by lia, by lia, by lia, ho⟩
    | false => exact wpS_pure ⟨rfl, ls, os, rfl, h1, h3, h4, .inr ho⟩
  case post =>
   rintro c st' ⟨rfl, ls, os, rfl, h1, h3, h4, h5⟩
   dsimp only
   refine wpS_bind (wpS_mono (wpS_forRange (I := fun k c st'' => st'' = st' /\ ∃ lo hi, c = (none, lo, hi) /\ lo <= hi /\ hi <= n /\ hi - lo <= n - k /\ (∀ i, i < lo -> b i = true) /\ (∀ i, hi <= i -> i < n -> b i = false))
    (Q := fun c st'' => st'' = st' /\ ∃ k, c = (none, k, k) /\ k <= n /\ (∀ i, i < k -> b i = true) /\ (∀ i, k <= i -> i < n -> b i = false)) ?step ?fin ?init) ?post)
   case init =>
    refine ⟨rfl, _, _, rfl, by lia, by lia, by lia, fun i hi => mono i _ (by lia) h3 h4, fun i hi hn => ?_⟩
    rcases h5 with h5 | h5
    ·lia
    ·by_cases hge : n - hint <= os
     ·lia
     ·exact anti _ i (by lia) hn h5
   case post =>
    rintro c st'' ⟨rfl, k, rfl, z1, z2, z3⟩
    exact wpS_pure (h k z1 z2 z3)
   case fin =>
    rintro c st'' ⟨rfl, lo, hi, rfl, a1, a2, a3, a4, a5⟩
    have : lo = hi := by lia
    subst this
    exact ⟨rfl, lo, rfl, a2, a4, a5⟩
   case step =>
    rintro k c st'' _ hkn ⟨rfl, lo, hi, rfl, a1, a2, a3, a4, a5⟩
    dsimp only
    by_cases hge : lo >= hi
    ·rw [if_pos hge]
     have : lo = hi := by lia
     subst this
     exact wpS_pure ⟨rfl, lo, rfl, a2, a4, a5⟩
    ·rw [if_neg hge]
     refine wpS_bind (B (lo + (hi - lo) / 2) (by lia) _ ?_)
     dsimp only
     cases ho : b (lo + (hi - lo) / 2) with
     | true => exact wpS_pure ⟨rfl, _, _, rfl, by lia, a2, by lia, fun i hi => mono i _ (by lia) (by lia) ho, a5⟩
     | false => exact wpS_pure ⟨rfl, _, _, rfl, by lia, by lia, by lia, a4, fun i h1 h2 => anti _ i h1 h2 ho⟩
 | false =>
  rw [if_neg (by simp)]
  refine wpS_bind (wpS_mono (wpS_forRange (I := fun k c st' => st' = st /\ ∃ ls os, c = (none, ls, os) /\ ls < os /\ k + 1 <= os /\ ls <= hint /\ b (hint - ls) = false)
   (Q := fun c st' => st' = st /\ ∃ ls os, c = (none, ls, os) /\ ls < os /\ ls <= hint /\ b (hint - ls) = false /\ (hint + 1 <= os \/ (os <= hint /\ b (hint - os) = true))) ?step ?fin ⟨rfl, 0, 1, rfl, by lia, by lia, by lia, hb⟩) ?post)
  case fin =>
   rintro c st' ⟨rfl, ls, os, rfl, h1, h2, h3, h4⟩
   exact ⟨rfl, ls, os, rfl, h1, h3, h4, .inl (by lia)⟩
  case step =>
   rintro k c st' _ hkn ⟨rfl, ls, os, rfl, h1, h2, h3, h4⟩
   dsimp only
   by_cases hge : os >= hint + 1
   ·rw [if_pos hge]; exact wpS_pure ⟨rfl, ls, os, rfl, h1, h3, h4, .inl hge⟩
   ·rw [if_neg hge]
    refine wpS_bind (B (hint - os) (by lia) _ ?_)
    dsimp only
    cases ho : b (hint - os) with
    | true => exact wpS_pure ⟨rfl, ls, os, rfl, h1, h3, h4, .inr ⟨by lia, ho⟩⟩
    | false => exact wpS_pure ⟨rfl, os, 2 * os + 1, rfl, by lia, by lia, by lia, ho⟩
  case post =>
   rintro c st' ⟨rfl, ls, os, rfl, h1, h3, h4, h5⟩
   dsimp only
   refine wpS_bind (wpS_mono (wpS_forRange (I := fun k c st'' => st'' = st' /\ ∃ lo hi, c = (none, lo, hi) /\ lo <= hi /\ hi <= n /\ hi - lo <= n - k /\ (∀ i, i < lo -> b i = true) /\ (∀ i, hi <= i -> i < n -> b i = false))
    (Q := fun c st'' => st'' = st' /\ ∃ k, c = (none, k, k) /\ k <= n /\ (∀ i, i < k -> b i = true) /\ (∀ i, k <= i -> i < n -> b i = false)) ?step ?fin ?init) ?post)
   case init =>
    refine ⟨rfl, _, _, rfl, by lia, by lia, by lia, fun i hi => ?_, fun i hi hn => anti _ i hi hn h4⟩
    rcases h5 with h5 | h5
    ·lia
    ·exact mono i _ (by lia) (by lia) h5.2
   case post =>
    rintro c st'' ⟨rfl, k, rfl, z1, z2, z3⟩
    exact wpS_pure (h k z1 z2 z3)
   case fin =>
    rintro c st'' ⟨rfl, lo, hi, rfl, a1, a2, a3, a4, a5⟩
    have : lo = hi := by lia
    subst this
    exact ⟨rfl, lo, rfl, a2, a4, a5⟩
   case step =>
    rintro k c st'' _ hkn ⟨rfl, lo, hi, rfl, a1, a2, a3, a4, a5⟩
    dsimp only
    by_cases hge : lo >= hi
    ·rw [if_pos hge]
     have : lo = hi := by lia
     subst this
     exact wpS_pure ⟨rfl, lo, rfl, a2, a4, a5⟩
    ·rw [if_neg hge]
     refine wpS_bind (B (lo + (hi - lo) / 2) (by lia) _ ?_)
     dsimp only
     cases ho : b (lo + (hi - lo) / 2) with
     | true => exact wpS_pure ⟨rfl, _, _, rfl, by lia, a2, by lia, fun i hi => mono i _ (by lia) (by lia) ho, a5⟩
     | false => exact wpS_pure ⟨rfl, _, _, rfl, by lia, by lia, by lia, a4, fun i h1 h2 => anti _ i h1 h2 ho⟩
end
end Tim
end
section
namespace Tim
open PySem PyProof.Rows
section
variable {α : Type} {le : α -> α -> Prop}
structure MI (le : α -> α -> Prop) (A B out : List α) (ia ib : Nat) : Prop where
 perm : out.Perm (A.take ia ++ B.take ib)
 srt : out.Pairwise le
 la : ∀ x ∈ out, ∀ y ∈ A.drop ia, le x y
 lb : ∀ x ∈ out, ∀ y ∈ B.drop ib, le x y
def Res (le : α -> α -> Prop) (A B r : List α) : Prop := r.Perm (A ++ B) /\ r.Pairwise le
theorem MI.pushA {A B out : List α} {ia ib k : Nat} (sA : A.Pairwise le) (M : MI le A B out ia ib) (h : ∀ x ∈ (A.drop ia).take k, ∀ y ∈ B.drop ib, le x y) : MI le A B (out ++ (A.drop ia).take k) (ia + k) ib := by
 have sD : ((A.drop ia).take k ++ (A.drop ia).drop k).Pairwise le := by rw [List.take_append_drop]; exact sA.drop
 have eD : A.drop (ia + k) = (A.drop ia).drop k := by rw [List.drop_drop]
 rw [List.pairwise_append] at sD
 refine ⟨?_, ?_, ?_, ?_⟩
 ·rw [List.take_add, List.append_assoc]
  refine (M.perm.append_right _).trans ?_
  rw [List.append_assoc]
  exact List.Perm.append_left _ List.perm_append_comm
 ·exact List.pairwise_append.mpr ⟨M.srt, sD.1, fun x hx y hy => M.la x hx y (List.mem_of_mem_take hy)⟩
 ·intro x hx y hy
  rw [eD] at hy
  rcases List.mem_append.mp hx with hx | hx
  ·exact M.la x hx y (List.mem_of_mem_drop hy)
  ·exact sD.2.2 x hx y hy
 ·intro x hx y hy
  rcases List.mem_append.mp hx with hx | hx
  ·exact M.lb x hx y hy
  ·exact h x hx y hy
theorem MI.swap {A B out : List α} {ia ib : Nat} (M : MI le A B out ia ib) : MI le B A out ib ia := ⟨M.perm.trans List.perm_append_comm, M.srt, M.lb, M.la⟩
theorem MI.pushB {A B out : List α} {ia ib k : Nat} (sB : B.Pairwise le) (M : MI le A B out ia ib) (h : ∀ x ∈ (B.drop ib).take k, ∀ y ∈ A.drop ia, le x y) : MI le A B (out ++ (B.drop ib).take k) ia (ib + k) :=
 (M.swap.pushA sB h).swap
theorem MI.done {A B out : List α} {ia ib : Nat} (sA : A.Pairwise le) (sB : B.Pairwise le) (M : MI le A B out ia ib) (h : A.drop ia = [] \/ B.drop ib = []) : Res le A B (out ++ A.drop ia ++ B.drop ib) := by
 refine ⟨?_, ?_⟩
 ·rw [List.append_assoc]
  refine (M.perm.append_right _).trans ?_
  conv => rhs; rw [<- List.take_append_drop ia A, <- List.take_append_drop ib B]
  rw [List.append_assoc, List.append_assoc]
  refine List.Perm.append_left _ ?_
  rw [<- List.append_assoc, <- List.append_assoc]
  exact List.Perm.append_right _ List.perm_append_comm
 ·rw [List.append_assoc]
  refine List.pairwise_append.mpr ⟨M.srt, ?_, fun x hx y hy => ?_⟩
  ·rcases h with h | h
   ·rw [h]; exact sB.drop
   ·rw [h, List.append_nil]; exact sA.drop
  ·rcases List.mem_append.mp hy with hy | hy
   ·exact M.la x hx y hy
   ·exact M.lb x hx y hy
theorem MI.last {A B out : List α} {ia ib : Nat} (sA : A.Pairwise le) (sB : B.Pairwise le) (M : MI le A B out ia ib) (h : ∀ x ∈ B, ∀ y ∈ A.drop ia, le x y) : Res le A B (out ++ B.drop ib ++ A.drop ia) := by
 refine ⟨?_, ?_⟩
 ·rw [List.append_assoc]
  refine (M.perm.append_right _).trans ?_
  conv => rhs; rw [<- List.take_append_drop ia A, <- List.take_append_drop ib B]
  rw [List.append_assoc, List.append_assoc]
  refine List.Perm.append_left _ ?_
  rw [<- List.append_assoc]
  exact List.perm_append_comm
 ·rw [List.append_assoc]
  refine List.pairwise_append.mpr ⟨M.srt, List.pairwise_append.mpr ⟨sB.drop, sA.drop, fun x hx y hy => h x (List.mem_of_mem_drop hx) y hy⟩, fun x hx y hy => ?_⟩
  rcases List.mem_append.mp hy with hy | hy
  ·exact M.lb x hx y hy
  ·exact M.la x hx y hy
structure MH (le : α -> α -> Prop) (A B R : List α) (na nb : Nat) : Prop where
 perm : R.Perm (A.drop na ++ B.drop nb)
 srt : R.Pairwise le
 la : ∀ x ∈ A.take na, ∀ y ∈ R, le x y
 lb : ∀ x ∈ B.take nb, ∀ y ∈ R, le x y
theorem MH.swap {A B R : List α} {na nb : Nat} (M : MH le A B R na nb) : MH le B A R nb na := ⟨M.perm.trans List.perm_append_comm, M.srt, M.lb, M.la⟩
theorem MH.pushA {A B R : List α} {na nb k : Nat} (sA : A.Pairwise le) (hk : k <= na) (M : MH le A B R na nb) (h : ∀ x ∈ B.take nb, ∀ y ∈ (A.take na).drop k, le x y) : MH le A B ((A.take na).drop k ++ R) k nb := by
 have sD : ((A.take na).take k ++ (A.take na).drop k).Pairwise le := by rw [List.take_append_drop]; exact sA.take
 have eT : A.take k = (A.take na).take k := by rw [List.take_take, Nat.min_eq_left hk]
 have eD : A.drop k = (A.take na).drop k ++ A.drop na := by
  conv => lhs; rw [<- List.take_append_drop na A]
  rw [List.drop_append]
  by_cases hz : na <= A.length
  ·rw [show k - (A.take na).length = 0 by rw [List.length_take]; lia]; rfl
  ·rw [List.drop_eq_nil_of_le (show A.length <= na by lia)]; simp
 rw [List.pairwise_append] at sD
 refine ⟨?_, ?_, ?_, ?_⟩
 ·rw [eD, List.append_assoc]
  exact List.Perm.append_left _ M.perm
 ·exact List.pairwise_append.mpr ⟨sD.2.1, M.srt, fun x hx y hy => M.la x (List.mem_of_mem_drop hx) y hy⟩
 ·intro x hx y hy
  rw [eT] at hx
  rcases List.mem_append.mp hy with hy | hy
  ·exact sD.2.2 x hx y hy
  ·exact M.la x (List.mem_of_mem_take hx) y hy
 ·intro x hx y hy
  rcases List.mem_append.mp hy with hy | hy
  ·exact h x hx y hy
  ·exact M.lb x hx y hy
theorem MH.pushB {A B R : List α} {na nb k : Nat} (sB : B.Pairwise le) (hk : k <= nb) (M : MH le A B R na nb) (h : ∀ x ∈ A.take na, ∀ y ∈ (B.take nb).drop k, le x y) : MH le A B ((B.take nb).drop k ++ R) na k :=
 (M.swap.pushA sB hk h).swap
theorem MH.done {A B R : List α} {na nb : Nat} (sA : A.Pairwise le) (sB : B.Pairwise le) (M : MH le A B R na nb) (h : A.take na = [] \/ B.take nb = []) : Res le A B (A.take na ++ B.take nb ++ R) := by
 refine ⟨?_, ?_⟩
 ·refine (M.perm.append_left _).trans ?_
  conv => rhs; rw [<- List.take_append_drop na A, <- List.take_append_drop nb B]
  rw [List.append_assoc, List.append_assoc]
  refine List.Perm.append_left _ ?_
  rw [<- List.append_assoc, <- List.append_assoc]
  exact List.Perm.append_right _ List.perm_append_comm
 ·refine List.pairwise_append.mpr ⟨?_, M.srt, fun x hx y hy => ?_⟩
  ·rcases h with h | h
   ·rw [h]; exact sB.take
   ·rw [h, List.append_nil]; exact sA.take
  ·rcases List.mem_append.mp hx with hx | hx
   ·exact M.la x hx y hy
   ·exact M.lb x hx y hy
theorem MH.first {A B R : List α} {na nb : Nat} (sA : A.Pairwise le) (sB : B.Pairwise le) (M : MH le A B R na nb) (h : ∀ x ∈ B.take nb, ∀ y ∈ A, le x y) : Res le A B (B.take nb ++ A.take na ++ R) := by
 refine ⟨?_, ?_⟩
 ·refine (M.perm.append_left _).trans ?_
  conv => rhs; rw [<- List.take_append_drop na A, <- List.take_append_drop nb B]
  rw [<- List.append_assoc, <- List.append_assoc]
  refine List.Perm.append_right _ ?_
  rw [List.append_assoc, List.append_assoc]
  exact List.perm_append_comm.trans (by rw [List.append_assoc])
 ·refine List.pairwise_append.mpr ⟨List.pairwise_append.mpr ⟨sB.take, sA.take, fun x hx y hy => h x hx y (List.mem_of_mem_take hy)⟩, M.srt, fun x hx y hy => ?_⟩
  rcases List.mem_append.mp hx with hx | hx
  ·exact M.lb x hx y hy
  ·exact M.la x hx y hy
theorem cB {l : List α} {i : Nat} (d : α) (h : i < l.length) : (l.drop i).take 1 = [l.getD i d] := by
 rw [List.drop_eq_getElem_cons h, List.take_succ_cons, List.take_zero, List.getD_eq_getElem?_getD, List.getElem?_eq_getElem h]; rfl
theorem cC {l : List α} {i : Nat} (d : α) (h : i < l.length) : (l.take (i + 1)).drop i = [l.getD i d] := by
 rw [List.take_add_one, List.drop_append, List.drop_eq_nil_of_le (by simp; lia)]
 simp [h, Nat.min_eq_left (Nat.le_of_lt h)]
end
end Tim
end
section
namespace Tim
open PySem PyProof.Rows
def mlo : Array Keyed -> Array Keyed -> StateT SortSt Sem (Array Keyed) := sortPriv% PySem.Builtin.mergeLo
def Same (st st' : SortSt) : Prop := kindOf st' = kindOf st /\ arrOf st' = arrOf st /\ pendingOf st' = pendingOf st /\ failedOf st' = failedOf st
theorem Same.rfl' {st : SortSt} : Same st st := ⟨rfl, rfl, rfl, rfl⟩
theorem ju (a : Array Keyed) (i : Nat) : (a.extract i a.size).toList = a.toList.drop i := by
 simp only [Array.toList_extract, List.extract_eq_take_drop]; exact List.take_of_length_le (by simp)
theorem tV (a : Array Keyed) (i k : Nat) : (a.extract i (i + k)).toList = (a.toList.drop i).take k := by simp [List.extract_eq_take_drop]
abbrev kl {O : KeyOrd} (key : Keyed -> O.α) : Keyed -> Keyed -> Prop := fun x y => O.kle (key x) (key y)
theorem bx {a : Array Keyed} {i : Nat} (h : i < a.size) : a.toList[i]? = some (at_ a i) := by rw [Array.getElem?_toList]; exact mJ h
theorem dA {a : Array Keyed} {i : Nat} (h : i < a.size) : at_ a i ∈ a.toList := List.mem_of_getElem? (bx h)
theorem getD_at {a : Array Keyed} {i : Nat} (h : i < a.size) : a.toList.getD i (Value.none, Value.none) = at_ a i := by rw [List.getD_eq_getElem?_getD, bx h]; rfl
theorem jv {a : Array Keyed} {i k : Nat} {x : Keyed} (h : x ∈ (a.toList.drop i).take k) : ∃ j, j < k /\ i + j < a.size /\ x = at_ a (i + j) := by
 obtain ⟨j, hj, e⟩ := List.getElem_of_mem h
 have hj' : j < k /\ j < a.size - i := by simpa [Nat.lt_min] using hj
 refine ⟨j, hj'.1, by lia, ?_⟩
 have e2 : a.toList[i + j]? = some x := by
  rw [<- e]
  simp only [List.getElem_take, List.getElem_drop]
  exact List.getElem?_eq_getElem _
 rw [bx (by lia)] at e2
 exact (Option.some.inj e2).symm
theorem iS {a : Array Keyed} {i : Nat} {x : Keyed} (h : x ∈ a.toList.drop i) : ∃ j, i + j < a.size /\ x = at_ a (i + j) := by
 obtain ⟨j, _, h2, h3⟩ := jv (k := (a.toList.drop i).length) (by rw [List.take_length]; exact h)
 exact ⟨j, h2, h3⟩
section
variable {prog : Program} {w : World} {A : Around} {E : Value -> Shared -> Prop} {s : Shared} {κ : SortKind} {O : KeyOrd} {key : Keyed -> O.α} {P : Keyed -> Prop}
theorem dB {a : Array Keyed} (h : a.toList.Pairwise (kl key)) {i j : Nat} (hij : i <= j) (hj : j < a.size) : kl key (at_ a i) (at_ a j) := by
 by_cases e : i = j
 ·subst e; exact KeyOrd.kle_refl _
 ·have q := List.pairwise_iff_getElem.mp h i j (by simp; lia) (by simpa using hj) (by lia)
  have e1 : a.toList[i]'(by simp; lia) = at_ a i := by have := bx (a := a) (i := i) (by lia); rw [List.getElem?_eq_getElem (by simp; lia)] at this; exact Option.some.inj this
  have e2 : a.toList[j]'(by simpa using hj) = at_ a j := by have := bx (a := a) (i := j) hj; rw [List.getElem?_eq_getElem (by simpa using hj)] at this; exact Option.some.inj this
  rw [e1, e2] at q
  exact q
theorem eW {a : Array Keyed} (h : a.toList.Pairwise (kl key)) {i : Nat} {y : Keyed} (hy : y ∈ a.toList.drop i) : kl key (at_ a i) y := by
 obtain ⟨j, hj, rfl⟩ := iS hy
 exact dB h (by lia) hj
theorem j8 {x y : Keyed} (h : bey key false x y = true) : kl key y x := by
 have : (!O.blt (key x) (key y)) = true := h
 show O.blt (key x) (key y) = false
 simpa using this
theorem qm {x y : Keyed} (h : bey key false x y = false) : O.klt (key x) (key y) := by
 have : (!O.blt (key x) (key y)) = false := h
 show O.blt (key x) (key y) = true
 simpa using this
theorem gS {x y : Keyed} (h : bey key true x y = true) : O.klt (key y) (key x) := h
theorem j9 {x y : Keyed} (h : bey key true x y = false) : kl key x y := h
theorem mK {a : Array Keyed} (h : a.toList.Pairwise (kl key)) {x : Keyed} {base n : Nat} (hz : base + n <= a.size) : ∀ i j, i <= j -> j < n -> bey key false x (at_ a (base + j)) = true -> bey key false x (at_ a (base + i)) = true := fun i j hij hj q => by
 have q := j8 q
 have : kl key (at_ a (base + i)) x := KeyOrd.kle_trans (dB h (by lia) (by lia)) q
 show (!O.blt (key x) (key (at_ a (base + i)))) = true
 rw [show O.blt (key x) (key (at_ a (base + i))) = false from this]; rfl
theorem f6 {a : Array Keyed} (h : a.toList.Pairwise (kl key)) {x : Keyed} {base n : Nat} (hz : base + n <= a.size) : ∀ i j, i <= j -> j < n -> bey key true x (at_ a (base + j)) = true -> bey key true x (at_ a (base + i)) = true := fun i j hij hj q =>
 KeyOrd.klt_of_kle_of_klt (dB h (show base + i <= base + j by lia) (by lia)) (gS q)
theorem yI (C : fG prog w A s κ O key P) {a b : Array Keyed} {st : SortSt} {Q : Array Keyed -> SortSt -> Prop} (hk : kindOf st = κ) (ha : 0 < a.size) (hb : 0 < b.size) (Pa : ∀ x ∈ a.toList, P x) (Pb : ∀ x ∈ b.toList, P x)
  (sA : a.toList.Pairwise (kl key)) (sB : b.toList.Pairwise (kl key)) (h0 : ∀ y ∈ a.toList, kl key (at_ b 0) y) (hl : ∀ x ∈ b.toList, kl key x (at_ a (a.size - 1)))
  (h : ∀ r st', Same st st' -> Res (kl key) a.toList b.toList r.toList -> Q r st') : wpS (model prog w) A E s (mlo a b) Q st := by
 have pa : ∀ i, i < a.size -> P (at_ a i) := fun i hi => Pa _ (dA hi)
 have pb : ∀ i, i < b.size -> P (at_ b i) := fun i hi => Pb _ (dA hi)
 have M0 : MI (kl key) a.toList b.toList (#[at_ b 0] : Array Keyed).toList 0 1 := by
  refine ⟨?_, ?_, ?_, ?_⟩
  ·have e : b.toList.take 1 = [at_ b 0] := by have := cB (l := b.toList) (i := 0) (Value.none, Value.none) (by simpa using hb); rw [List.drop_zero, getD_at hb] at this; exact this
   rw [e]; simp
  ·simp
  ·intro x hx y hy
   have : x = at_ b 0 := by simpa using hx
   subst this; exact h0 y (List.mem_of_mem_drop hy)
  ·intro x hx y hy
   have : x = at_ b 0 := by simpa using hx
   subst this
   obtain ⟨j, hj, rfl⟩ := iS hy
   exact dB sB (by lia) hj
 have dn : ∀ {out : Array Keyed} {ia ib : Nat}, MI (kl key) a.toList b.toList out.toList ia ib -> (a.size <= ia \/ b.size <= ib) -> Res (kl key) a.toList b.toList (out ++ a.extract ia a.size ++ b.extract ib b.size).toList := fun M hh => by
  rw [Array.toList_append, Array.toList_append, ju, ju]
  exact M.done sA sB (hh.imp (fun z => List.drop_eq_nil_of_le (by simpa using z)) fun z => List.drop_eq_nil_of_le (by simpa using z))
 have la : ∀ {out : Array Keyed} {ia ib : Nat}, MI (kl key) a.toList b.toList out.toList ia ib -> ia + 1 = a.size -> Res (kl key) a.toList b.toList (out ++ b.extract ib b.size ++ a.extract ia a.size).toList := fun {out ia ib} M hh => by
  rw [Array.toList_append, Array.toList_append, ju, ju]
  refine M.last sA sB fun x hx y hy => ?_
  obtain ⟨j, hj, rfl⟩ := iS hy
  have := hl x hx
  rwa [show a.size - 1 = ia + j by lia] at this
 have p1A : ∀ {out : Array Keyed} {ia ib : Nat}, MI (kl key) a.toList b.toList out.toList ia ib -> ia < a.size -> (∀ y ∈ b.toList.drop ib, kl key (at_ a ia) y) -> MI (kl key) a.toList b.toList (out.push (at_ a ia)).toList (ia + 1) ib := fun {out ia ib} M hi q => by
  have e := cB (l := a.toList) (i := ia) (Value.none, Value.none) (by simpa using hi)
  rw [getD_at hi] at e
  have := M.pushA (k := 1) sA (by rw [e]; intro x hx y hy; rw [List.mem_singleton] at hx; subst hx; exact q y hy)
  rw [e] at this
  rw [Array.toList_push]; exact this
 have p1B : ∀ {out : Array Keyed} {ia ib : Nat}, MI (kl key) a.toList b.toList out.toList ia ib -> ib < b.size -> (∀ y ∈ a.toList.drop ia, kl key (at_ b ib) y) -> MI (kl key) a.toList b.toList (out.push (at_ b ib)).toList ia (ib + 1) := fun {out ia ib} M hi q => by
  have e := cB (l := b.toList) (i := ib) (Value.none, Value.none) (by simpa using hi)
  rw [getD_at hi] at e
  have := M.pushB (k := 1) sB (by rw [e]; intro x hx y hy; rw [List.mem_singleton] at hx; subst hx; exact q y hy)
  rw [e] at this
  rw [Array.toList_push]; exact this
 have pkA : ∀ {out : Array Keyed} {ia ib k : Nat}, MI (kl key) a.toList b.toList out.toList ia ib -> (∀ i, i < k -> kl key (at_ a (ia + i)) (at_ b ib)) -> MI (kl key) a.toList b.toList (out ++ a.extract ia (ia + k)).toList (ia + k) ib := fun {out ia ib k} M q => by
  rw [Array.toList_append, tV]
  refine M.pushA sA fun x hx y hy => ?_
  obtain ⟨j, hj, _, rfl⟩ := jv hx
  exact KeyOrd.kle_trans (q j hj) (eW sB hy)
 have pkB : ∀ {out : Array Keyed} {ia ib k : Nat}, MI (kl key) a.toList b.toList out.toList ia ib -> (∀ i, i < k -> O.klt (key (at_ b (ib + i))) (key (at_ a ia))) -> MI (kl key) a.toList b.toList (out ++ b.extract ib (ib + k)).toList ia (ib + k) := fun {out ia ib k} M q => by
  rw [Array.toList_append, tV]
  refine M.pushB sB fun x hx y hy => ?_
  obtain ⟨j, hj, _, rfl⟩ := jv hx
  exact KeyOrd.kle_trans (KeyOrd.kle_of_klt (q j hj)) (eW sA hy)
 delta mlo
 refine wpS_bind (wpS_lift (wpAny_rule ⟨rfl, ?_⟩))
 dsimp only
 refine wpS_bind (ay hb ?_)
 by_cases e1 : 1 = b.size
 ·rw [if_pos (by simpa using e1)]
  exact wpS_pure (h _ _ Same.rfl' (dn M0 (.inr (by lia))))
 rw [if_neg (by simpa using e1)]
 by_cases e2 : 0 + 1 = a.size
 ·rw [if_pos (by simpa using e2)]
  exact wpS_pure (h _ _ Same.rfl' (la M0 e2))
 rw [if_neg (by simpa using e2)]
 refine wpS_bind (wpS_get ?_)
 refine wpS_bind (wpS_mono (wpS_forRange (I := fun x c st' => Same st st' /\ ∃ (out : Array Keyed) (ia ib mg : Nat), c = (none, out, ia, ib, mg) /\ MI (kl key) a.toList b.toList out.toList ia ib /\ ia + 1 < a.size /\ ib < b.size /\ x + 1 <= ia + ib)
  (Q := fun c st' => Same st st' /\ ∃ (r : Array Keyed) (z : Array Keyed × Nat × Nat × Nat), c = (some r, z) /\ Res (kl key) a.toList b.toList r.toList) ?step ?fin ⟨Same.rfl', _, 0, 1, _, rfl, M0, by lia, by lia, by lia⟩) ?post)
 case post =>
  rintro c st' ⟨S, r, z, rfl, R⟩
  exact wpS_pure (h r st' S R)
 case fin =>
  rintro c st' ⟨S, out, ia, ib, mg, rfl, M, h1, h2, h3⟩
  lia
 case step =>
  rintro x c st' _ hx ⟨S, out, ia, ib, mg, rfl, M, h1, h2, h3⟩
  dsimp only
  refine wpS_bind (wpS_mono (wpS_forRange (I := fun y c st'' => Same st st'' /\ ∃ (out : Array Keyed) (ia' ib' ac bc : Nat), c = (none, out, ia', ib', ac, bc) /\ MI (kl key) a.toList b.toList out.toList ia' ib' /\ ia' + 1 < a.size /\ ib' < b.size /\ ia + ib + y <= ia' + ib')
   (Q := fun c st'' => Same st st'' /\ ((∃ (r : Array Keyed) (z : Array Keyed × Nat × Nat × Nat × Nat), c = (some r, z) /\ Res (kl key) a.toList b.toList r.toList) \/
    ∃ (out : Array Keyed) (ia' ib' ac bc : Nat), c = (none, out, ia', ib', ac, bc) /\ MI (kl key) a.toList b.toList out.toList ia' ib' /\ ia' + 1 < a.size /\ ib' < b.size /\ ia + ib + 1 <= ia' + ib')) ?s1 ?f1 ⟨S, out, ia, ib, 0, 0, rfl, M, h1, h2, by lia⟩) ?p1)
  case f1 =>
   rintro c st2 ⟨S, out, ia', ib', ac, bc, rfl, M, h1, h2, h3⟩
   exact ⟨S, .inr ⟨out, ia', ib', ac, bc, rfl, M, h1, h2, by lia⟩⟩
  case s1 =>
   rintro y c st2 _ hy ⟨S, out, ia', ib', ac, bc, rfl, M, h1, h2, h3⟩
   dsimp only
   refine wpS_bind (ay h2 (wpS_bind (ay (show ia' < a.size by lia) (wpS_bind (j7 C (pb _ h2) (pa _ (by lia)) (S.1.trans hk) ?_)))))
   dsimp only
   cases hc : O.blt (key (at_ b ib')) (key (at_ a ia')) with
   | true =>
    rw [if_pos rfl]
    refine wpS_bind (ay h2 ?_)
    have M1 := p1B M h2 fun y hy => KeyOrd.kle_trans (KeyOrd.kle_of_klt hc) (eW sA hy)
    by_cases e : ib' + 1 = b.size
    ·rw [if_pos (by simpa using e)]
     exact wpS_pure ⟨S, .inl ⟨_, _, rfl, dn M1 (.inr (by lia))⟩⟩
    ·rw [if_neg (by simpa using e)]
     split
     ·exact wpS_pure ⟨S, .inr ⟨_, _, _, _, _, rfl, M1, h1, by lia, by lia⟩⟩
     ·exact wpS_pure ⟨S, _, _, _, _, _, rfl, M1, h1, by lia, by lia⟩
   | false =>
    rw [if_neg (by simp)]
    refine wpS_bind (ay (show ia' < a.size by lia) ?_)
    have M1 := p1A M (by lia) fun y hy => KeyOrd.kle_trans (show kl key (at_ a ia') (at_ b ib') from hc) (eW sB hy)
    by_cases e : ia' + 1 + 1 = a.size
    ·rw [if_pos (by simpa using e)]
     exact wpS_pure ⟨S, .inl ⟨_, _, rfl, la M1 e⟩⟩
    ·rw [if_neg (by simpa using e)]
     split
     ·exact wpS_pure ⟨S, .inr ⟨_, _, _, _, _, rfl, M1, by lia, by lia, by lia⟩⟩
     ·exact wpS_pure ⟨S, _, _, _, _, _, rfl, M1, by lia, by lia, by lia⟩
  case p1 =>
   rintro c st2 ⟨S, ⟨r, z, rfl, R⟩ | ⟨out, ia', ib', ac, bc, rfl, M, h1, h2, h3⟩⟩
   ·exact wpS_pure ⟨S, _, _, rfl, R⟩
   dsimp only
   refine wpS_bind (wpS_lift (wpAny_rule ⟨rfl, ?_⟩))
   refine wpS_bind (wpS_mono (wpS_forRange (I := fun y c st'' => Same st st'' /\ ∃ (out : Array Keyed) (ia' ib' mg ac bc : Nat), c = (none, out, ia', ib', mg, ac, bc) /\ MI (kl key) a.toList b.toList out.toList ia' ib' /\ ia' + 1 < a.size /\ ib' < b.size /\ ia + ib + 1 <= ia' + ib')
    (Q := fun c st'' => Same st st'' /\ ((∃ (r : Array Keyed) (z : Array Keyed × Nat × Nat × Nat × Nat × Nat), c = (some r, z) /\ Res (kl key) a.toList b.toList r.toList) \/
     ∃ (out : Array Keyed) (ia' ib' mg ac bc : Nat), c = (none, out, ia', ib', mg, ac, bc) /\ MI (kl key) a.toList b.toList out.toList ia' ib' /\ ia' + 1 < a.size /\ ib' < b.size /\ ia + ib + 1 <= ia' + ib')) ?s2 ?f2 ⟨S, out, ia', ib', _, ac, bc, rfl, M, h1, h2, h3⟩) ?p2)
   case f2 =>
    rintro c st3 ⟨S, out, ia', ib', mg, ac, bc, rfl, M, h1, h2, h3⟩
    exact ⟨S, .inr ⟨out, ia', ib', mg, ac, bc, rfl, M, h1, h2, h3⟩⟩
   case p2 =>
    rintro c st3 ⟨S, ⟨r, z, rfl, R⟩ | ⟨out, ia', ib', mg, ac, bc, rfl, M, h1, h2, h3⟩⟩
    ·exact wpS_pure ⟨S, _, _, rfl, R⟩
    ·dsimp only
     exact wpS_bind (wpS_modify (wpS_pure ⟨S, _, _, _, _, rfl, M, h1, h2, by lia⟩))
   case s2 =>
    rintro y c st3 _ hy ⟨S, out, ia', ib', mg, ac, bc, rfl, M, h1, h2, h3⟩
    dsimp only
    rcases Nat.lt_or_ge 1 mg with hm | hm
    case' inl => rw [if_pos hm]
    case' inr => rw [if_neg (Nat.not_lt.mpr hm)]
    all_goals
     refine wpS_bind (wpS_modify ?_)
     refine wpS_bind (ay h2 (wpS_bind (dv C (S.1.trans hk) (show 0 < a.size - ia' by lia) (by lia) (fun i hi => pa _ (by lia)) (pb _ h2) (mK sA (by lia)) fun k z1 z2 z3 => ?_)))
     dsimp only
     have gt : ∀ y ∈ a.toList.drop (ia' + k), kl key (at_ b ib') y := fun y hy => by
      obtain ⟨j, hj, rfl⟩ := iS hy
      have := qm (z3 (k + j) (by lia) (by lia))
      rw [<- Nat.add_assoc] at this
      exact KeyOrd.kle_of_klt this
     by_cases hk0 : k > 0
     ·rw [if_pos hk0]
      have M1 := pkA (k := k) M fun i hi => j8 (z2 i hi)
      by_cases e : ia' + k + 1 = a.size
      ·rw [if_pos (by simpa using e)]
       exact wpS_pure ⟨S, .inl ⟨_, _, rfl, la M1 e⟩⟩
      rw [if_neg (by simpa using e)]
      by_cases e' : ia' + k = a.size
      ·rw [if_pos (by simpa using e')]
       exact wpS_pure ⟨S, .inl ⟨_, _, rfl, dn M1 (.inl (by lia))⟩⟩
      rw [if_neg (by simpa using e')]
      have hia : ia' + k + 1 < a.size := by lia
      refine wpS_bind (ay h2 ?_)
      have M2 := p1B M1 h2 gt
      by_cases e3 : ib' + 1 = b.size
      ·rw [if_pos (by simpa using e3)]
       exact wpS_pure ⟨S, .inl ⟨_, _, rfl, dn M2 (.inr (by lia))⟩⟩
      rw [if_neg (by simpa using e3)]
      refine wpS_bind (ay (show ia' + k < a.size by lia) (wpS_bind (dv C (S.1.trans hk) (show 0 < b.size - (ib' + 1) by lia) (by lia) (fun i hi => pb _ (by lia)) (pa _ (by lia)) (f6 sB (by lia)) fun k2 y1 y2 y3 => ?_)))
      dsimp only
      have ge : ∀ y ∈ b.toList.drop (ib' + 1 + k2), kl key (at_ a (ia' + k)) y := fun y hy => by
       obtain ⟨j, hj, rfl⟩ := iS hy
       have := j9 (y3 (k2 + j) (by lia) (by lia))
       rw [<- Nat.add_assoc] at this
       exact this
      by_cases hk2 : k2 > 0
      ·rw [if_pos hk2]
       have M3 := pkB (k := k2) M2 fun i hi => gS (y2 i hi)
       by_cases e4 : ib' + 1 + k2 = b.size
       ·rw [if_pos (by simpa using e4)]
        exact wpS_pure ⟨S, .inl ⟨_, _, rfl, dn M3 (.inr (by lia))⟩⟩
       rw [if_neg (by simpa using e4)]
       refine wpS_bind (ay (show ia' + k < a.size by lia) ?_)
       have M4 := p1A M3 (by lia) ge
       by_cases e5 : ia' + k + 1 + 1 = a.size
       ·rw [if_pos (by simpa using e5)]
        exact wpS_pure ⟨S, .inl ⟨_, _, rfl, la M4 e5⟩⟩
       rw [if_neg (by simpa using e5)]
       split
       ·exact wpS_pure ⟨S, .inr ⟨_, _, _, _, _, _, rfl, M4, by lia, by lia, by lia⟩⟩
       ·exact wpS_pure ⟨S, _, _, _, _, _, _, rfl, M4, by lia, by lia, by lia⟩
      ·rw [if_neg hk2]
       have hz : k2 = 0 := by lia
       subst hz
       refine wpS_bind (ay (show ia' + k < a.size by lia) ?_)
       have M4 := p1A M2 (by lia) ge
       by_cases e5 : ia' + k + 1 + 1 = a.size
       ·rw [if_pos (by simpa using e5)]
        exact wpS_pure ⟨S, .inl ⟨_, _, rfl, la M4 e5⟩⟩
       rw [if_neg (by simpa using e5)]
       split
       ·exact wpS_pure ⟨S, .inr ⟨_, _, _, _, _, _, rfl, M4, by lia, by lia, by lia⟩⟩
       ·exact wpS_pure ⟨S, _, _, _, _, _, _, rfl, M4, by lia, by lia, by lia⟩
     ·rw [if_neg hk0]
      have hz : k = 0 := by lia
      subst hz
      refine wpS_bind (ay h2 ?_)
      have M2 := p1B M h2 gt
      by_cases e3 : ib' + 1 = b.size
      ·rw [if_pos (by simpa using e3)]
       exact wpS_pure ⟨S, .inl ⟨_, _, rfl, dn M2 (.inr (by lia))⟩⟩
      rw [if_neg (by simpa using e3)]
      refine wpS_bind (ay (show ia' < a.size by lia) (wpS_bind (dv C (S.1.trans hk) (show 0 < b.size - (ib' + 1) by lia) (by lia) (fun i hi => pb _ (by lia)) (pa _ (by lia)) (f6 sB (by lia)) fun k2 y1 y2 y3 => ?_)))
      dsimp only
      have ge : ∀ y ∈ b.toList.drop (ib' + 1 + k2), kl key (at_ a ia') y := fun y hy => by
       obtain ⟨j, hj, rfl⟩ := iS hy
       have := j9 (y3 (k2 + j) (by lia) (by lia))
       rw [<- Nat.add_assoc] at this
       exact this
      by_cases hk2 : k2 > 0
      ·rw [if_pos hk2]
       have M3 := pkB (k := k2) M2 fun i hi => gS (y2 i hi)
       by_cases e4 : ib' + 1 + k2 = b.size
       ·rw [if_pos (by simpa using e4)]
        exact wpS_pure ⟨S, .inl ⟨_, _, rfl, dn M3 (.inr (by lia))⟩⟩
       rw [if_neg (by simpa using e4)]
       refine wpS_bind (ay (show ia' < a.size by lia) ?_)
       have M4 := p1A M3 (by lia) ge
       by_cases e5 : ia' + 1 + 1 = a.size
       ·rw [if_pos (by simpa using e5)]
        exact wpS_pure ⟨S, .inl ⟨_, _, rfl, la M4 e5⟩⟩
       rw [if_neg (by simpa using e5)]
       split
       ·exact wpS_pure ⟨S, .inr ⟨_, _, _, _, _, _, rfl, M4, by lia, by lia, by lia⟩⟩
       ·exact wpS_pure ⟨S, _, _, _, _, _, _, rfl, M4, by lia, by lia, by lia⟩
      ·rw [if_neg hk2]
       have hz : k2 = 0 := by lia
       subst hz
       refine wpS_bind (ay (show ia' < a.size by lia) ?_)
       have M4 := p1A M2 (by lia) ge
       by_cases e5 : ia' + 1 + 1 = a.size
       ·rw [if_pos (by simpa using e5)]
        exact wpS_pure ⟨S, .inl ⟨_, _, rfl, la M4 e5⟩⟩
       rw [if_neg (by simpa using e5)]
       split
       ·exact wpS_pure ⟨S, .inr ⟨_, _, _, _, _, _, rfl, M4, by lia, by lia, by lia⟩⟩
       ·exact wpS_pure ⟨S, _, _, _, _, _, _, rfl, M4, by lia, by lia, by lia⟩
end
end Tim
end
section
namespace Tim
open PySem PyProof.Rows
def mhi : Array Keyed -> Array Keyed -> StateT SortSt Sem (Array Keyed) := sortPriv% PySem.Builtin.mergeHi
theorem f7 (a : Array Keyed) (n : Nat) : (a.extract 0 n).toList = a.toList.take n := by
 have := tV a 0 n
 rw [Nat.zero_add, List.drop_zero] at this; exact this
theorem lB (a : Array Keyed) (i n : Nat) (h : i <= n) : (a.extract i n).toList = (a.toList.take n).drop i := by
 have := tV a i (n - i)
 rw [show i + (n - i) = n by lia] at this
 rw [this, List.drop_take]
theorem gT {a : Array Keyed} {i n : Nat} {x : Keyed} (h : x ∈ (a.toList.take n).drop i) : ∃ j, i <= j /\ j < n /\ j < a.size /\ x = at_ a j := by
 rw [List.drop_take] at h
 obtain ⟨j, h1, h2, h3⟩ := jv h
 exact ⟨i + j, by lia, by lia, h2, h3⟩
theorem gU {a : Array Keyed} {n : Nat} {x : Keyed} (h : x ∈ a.toList.take n) : ∃ j, j < n /\ j < a.size /\ x = at_ a j := by
 obtain ⟨j, _, h2, h3, h4⟩ := gT (i := 0) (by rw [List.drop_zero]; exact h)
 exact ⟨j, h2, h3, h4⟩
section
variable {prog : Program} {w : World} {A : Around} {E : Value -> Shared -> Prop} {s : Shared} {κ : SortKind} {O : KeyOrd} {key : Keyed -> O.α} {P : Keyed -> Prop}
theorem yJ (C : fG prog w A s κ O key P) {a b : Array Keyed} {st : SortSt} {Q : Array Keyed -> SortSt -> Prop} (hk : kindOf st = κ) (ha : 0 < a.size) (hb : 0 < b.size) (Pa : ∀ x ∈ a.toList, P x) (Pb : ∀ x ∈ b.toList, P x)
  (sA : a.toList.Pairwise (kl key)) (sB : b.toList.Pairwise (kl key)) (h0 : ∀ y ∈ a.toList, kl key (at_ b 0) y) (hl : ∀ x ∈ b.toList, kl key x (at_ a (a.size - 1)))
  (h : ∀ r st', Same st st' -> Res (kl key) a.toList b.toList r.toList -> Q r st') : wpS (model prog w) A E s (mhi a b) Q st := by
 have pa : ∀ i, i < a.size -> P (at_ a i) := fun i hi => Pa _ (dA hi)
 have pb : ∀ i, i < b.size -> P (at_ b i) := fun i hi => Pb _ (dA hi)
 have M0 : MH (kl key) a.toList b.toList (#[at_ a (a.size - 1)] : Array Keyed).reverse.toList (a.size - 1) b.size := by
  have eR : (#[at_ a (a.size - 1)] : Array Keyed).reverse.toList = [at_ a (a.size - 1)] := rfl
  rw [eR]
  refine ⟨?_, List.pairwise_singleton _ _, ?_, ?_⟩
  ·have e := cC (l := a.toList) (i := a.size - 1) (Value.none, Value.none) (by simp; lia)
   rw [getD_at (by lia), show a.size - 1 + 1 = a.size by lia, show a.toList.take a.size = a.toList from List.take_of_length_le (by simp)] at e
   rw [e, List.drop_eq_nil_of_le (by simp)]
   exact List.Perm.refl _
  ·intro x hx y hy
   obtain ⟨j, h1, h2, rfl⟩ := gU hx
   rw [List.mem_singleton] at hy; subst hy
   exact dB sA (by lia) (by lia)
  ·intro x hx y hy
   rw [List.mem_singleton] at hy; subst hy
   exact hl x (List.mem_of_mem_take hx)
 have dn : ∀ {out : Array Keyed} {na nb : Nat}, MH (kl key) a.toList b.toList out.reverse.toList na nb -> (na = 0 \/ nb = 0) -> Res (kl key) a.toList b.toList (a.extract 0 na ++ b.extract 0 nb ++ out.reverse).toList := fun M hh => by
  rw [Array.toList_append, Array.toList_append, f7, f7]
  exact M.done sA sB (hh.imp (fun z => by rw [z]; rfl) fun z => by rw [z]; rfl)
 have fi : ∀ {out : Array Keyed} {na nb : Nat}, MH (kl key) a.toList b.toList out.reverse.toList na nb -> nb = 1 -> Res (kl key) a.toList b.toList (b.extract 0 nb ++ a.extract 0 na ++ out.reverse).toList := fun {out na nb} M hh => by
  rw [Array.toList_append, Array.toList_append, f7, f7]
  refine M.first sA sB fun x hx y hy => ?_
  obtain ⟨j, h1, h2, rfl⟩ := gU hx
  rw [show j = 0 by lia]
  exact h0 y hy
 have pkA : ∀ {out : Array Keyed} {na nb k : Nat}, MH (kl key) a.toList b.toList out.reverse.toList na nb -> k <= na -> (∀ x ∈ b.toList.take nb, ∀ j, k <= j -> j < na -> kl key x (at_ a j)) -> MH (kl key) a.toList b.toList (out ++ (a.extract k na).reverse).reverse.toList k nb := fun {out na nb k} M hi q => by
  have e : (out ++ (a.extract k na).reverse).reverse.toList = (a.toList.take na).drop k ++ out.reverse.toList := by
   rw [Array.reverse_append, Array.reverse_reverse, Array.toList_append, lB a k na hi]
  rw [e]
  refine M.pushA sA hi fun x hx y hy => ?_
  obtain ⟨j, h1, h2, _, rfl⟩ := gT hy
  exact q x hx j h1 h2
 have pkB : ∀ {out : Array Keyed} {na nb k : Nat}, MH (kl key) a.toList b.toList out.reverse.toList na nb -> k <= nb -> (∀ x ∈ a.toList.take na, ∀ j, k <= j -> j < nb -> kl key x (at_ b j)) -> MH (kl key) a.toList b.toList (out ++ (b.extract k nb).reverse).reverse.toList na k := fun {out na nb k} M hi q => by
  have e : (out ++ (b.extract k nb).reverse).reverse.toList = (b.toList.take nb).drop k ++ out.reverse.toList := by
   rw [Array.reverse_append, Array.reverse_reverse, Array.toList_append, lB b k nb hi]
  rw [e]
  refine M.pushB sB hi fun x hx y hy => ?_
  obtain ⟨j, h1, h2, _, rfl⟩ := gT hy
  exact q x hx j h1 h2
 have p1A : ∀ {out : Array Keyed} {na nb : Nat}, MH (kl key) a.toList b.toList out.reverse.toList na nb -> 0 < na -> na <= a.size -> (∀ x ∈ b.toList.take nb, kl key x (at_ a (na - 1))) -> MH (kl key) a.toList b.toList (out.push (at_ a (na - 1))).reverse.toList (na - 1) nb := fun {out na nb} M h1 h2 q => by
  have e : (out.push (at_ a (na - 1))).reverse.toList = (a.toList.take na).drop (na - 1) ++ out.reverse.toList := by
   have z := cC (l := a.toList) (i := na - 1) (Value.none, Value.none) (by simp; lia)
   rw [show na - 1 + 1 = na by lia, getD_at (by lia)] at z
   rw [z]; simp
  rw [e]
  refine M.pushA sA (by lia) fun x hx y hy => ?_
  obtain ⟨j, g1, g2, _, rfl⟩ := gT hy
  rw [show j = na - 1 by lia]
  exact q x hx
 have p1B : ∀ {out : Array Keyed} {na nb : Nat}, MH (kl key) a.toList b.toList out.reverse.toList na nb -> 0 < nb -> nb <= b.size -> (∀ x ∈ a.toList.take na, kl key x (at_ b (nb - 1))) -> MH (kl key) a.toList b.toList (out.push (at_ b (nb - 1))).reverse.toList na (nb - 1) := fun {out na nb} M h1 h2 q => by
  have e : (out.push (at_ b (nb - 1))).reverse.toList = (b.toList.take nb).drop (nb - 1) ++ out.reverse.toList := by
   have z := cC (l := b.toList) (i := nb - 1) (Value.none, Value.none) (by simp; lia)
   rw [show nb - 1 + 1 = nb by lia, getD_at (by lia)] at z
   rw [z]; simp
  rw [e]
  refine M.pushB sB (by lia) fun x hx y hy => ?_
  obtain ⟨j, g1, g2, _, rfl⟩ := gT hy
  rw [show j = nb - 1 by lia]
  exact q x hx
 have tA : ∀ {n : Nat} {x : Keyed}, n <= a.size -> x ∈ a.toList.take n -> kl key x (at_ a (n - 1)) := fun {n x} hn hx => by
  obtain ⟨j, h1, h2, rfl⟩ := gU hx
  exact dB sA (by lia) (by lia)
 have tB : ∀ {n : Nat} {x : Keyed}, n <= b.size -> x ∈ b.toList.take n -> kl key x (at_ b (n - 1)) := fun {n x} hn hx => by
  obtain ⟨j, h1, h2, rfl⟩ := gU hx
  exact dB sB (by lia) (by lia)
 delta mhi
 refine wpS_bind (wpS_lift (wpAny_rule ⟨rfl, ?_⟩))
 dsimp only
 refine wpS_bind (ay (show a.size - 1 < a.size by lia) ?_)
 by_cases e1 : a.size - 1 = 0
 ·rw [if_pos (by simpa using e1)]
  exact wpS_pure (h _ _ Same.rfl' (dn M0 (.inl e1)))
 rw [if_neg (by simpa using e1)]
 by_cases e2 : b.size = 1
 ·rw [if_pos (by simpa using e2)]
  exact wpS_pure (h _ _ Same.rfl' (fi M0 e2))
 rw [if_neg (by simpa using e2)]
 refine wpS_bind (wpS_get ?_)
 refine wpS_bind (wpS_mono (wpS_forRange (I := fun x c st' => Same st st' /\ ∃ (na nb : Nat) (out : Array Keyed) (mg : Nat), c = (none, na, nb, out, mg) /\ MH (kl key) a.toList b.toList out.reverse.toList na nb /\ 0 < na /\ na <= a.size /\ 1 < nb /\ nb <= b.size /\ na + nb + x + 1 <= a.size + b.size)
  (Q := fun c st' => Same st st' /\ ∃ (r : Array Keyed) (z : Nat × Nat × Array Keyed × Nat), c = (some r, z) /\ Res (kl key) a.toList b.toList r.toList) ?step ?fin ⟨Same.rfl', _, _, _, _, rfl, M0, by lia, by lia, by lia, by lia, by lia⟩) ?post)
 case post =>
  rintro c st' ⟨S, r, z, rfl, R⟩
  exact wpS_pure (h r st' S R)
 case fin =>
  rintro c st' ⟨S, na, nb, out, mg, rfl, M, h1, h2, h3, h4, h5⟩
  lia
 case step =>
  rintro x c st' _ hx ⟨S, na, nb, out, mg, rfl, M, h1, h1', h2, h2', h3⟩
  dsimp only
  refine wpS_bind (wpS_mono (wpS_forRange (I := fun y c st'' => Same st st'' /\ ∃ (na' nb' : Nat) (out : Array Keyed) (ac bc : Nat), c = (none, na', nb', out, ac, bc) /\ MH (kl key) a.toList b.toList out.reverse.toList na' nb' /\ 0 < na' /\ na' <= a.size /\ 1 < nb' /\ nb' <= b.size /\ na' + nb' + y <= na + nb)
   (Q := fun c st'' => Same st st'' /\ ((∃ (r : Array Keyed) (z : Nat × Nat × Array Keyed × Nat × Nat), c = (some r, z) /\ Res (kl key) a.toList b.toList r.toList) \/
    ∃ (na' nb' : Nat) (out : Array Keyed) (ac bc : Nat), c = (none, na', nb', out, ac, bc) /\ MH (kl key) a.toList b.toList out.reverse.toList na' nb' /\ 0 < na' /\ na' <= a.size /\ 1 < nb' /\ nb' <= b.size /\ na' + nb' + 1 <= na + nb)) ?s1 ?f1 ⟨S, na, nb, out, 0, 0, rfl, M, h1, h1', h2, h2', by lia⟩) ?p1)
  case f1 =>
   rintro c st2 ⟨S, na', nb', out, ac, bc, rfl, M, h1, h1', h2, h2', h3⟩
   exact ⟨S, .inr ⟨na', nb', out, ac, bc, rfl, M, h1, h1', h2, h2', by lia⟩⟩
  case s1 =>
   rintro y c st2 _ hy ⟨S, na', nb', out, ac, bc, rfl, M, h1, h1', h2, h2', h3⟩
   dsimp only
   refine wpS_bind (ay (show nb' - 1 < b.size by lia) (wpS_bind (ay (show na' - 1 < a.size by lia) (wpS_bind (j7 C (pb _ (by lia)) (pa _ (by lia)) (S.1.trans hk) ?_)))))
   dsimp only
   cases hc : O.blt (key (at_ b (nb' - 1))) (key (at_ a (na' - 1))) with
   | true =>
    rw [if_pos rfl]
    refine wpS_bind (ay (show na' - 1 < a.size by lia) ?_)
    have M1 := p1A M h1 h1' fun x hx => KeyOrd.kle_trans (tB h2' hx) (KeyOrd.kle_of_klt hc)
    by_cases e : na' - 1 = 0
    ·rw [if_pos (by simpa using e)]
     exact wpS_pure ⟨S, .inl ⟨_, _, rfl, dn M1 (.inl e)⟩⟩
    ·rw [if_neg (by simpa using e)]
     split
     ·exact wpS_pure ⟨S, .inr ⟨_, _, _, _, _, rfl, M1, by lia, by lia, by lia, by lia, by lia⟩⟩
     ·exact wpS_pure ⟨S, _, _, _, _, _, rfl, M1, by lia, by lia, by lia, by lia, by lia⟩
   | false =>
    rw [if_neg (by simp)]
    refine wpS_bind (ay (show nb' - 1 < b.size by lia) ?_)
    have M1 := p1B M (by lia) h2' fun x hx => KeyOrd.kle_trans (tA h1' hx) (show kl key (at_ a (na' - 1)) (at_ b (nb' - 1)) from hc)
    by_cases e : nb' - 1 = 1
    ·rw [if_pos (by simpa using e)]
     exact wpS_pure ⟨S, .inl ⟨_, _, rfl, fi M1 e⟩⟩
    ·rw [if_neg (by simpa using e)]
     split
     ·exact wpS_pure ⟨S, .inr ⟨_, _, _, _, _, rfl, M1, by lia, by lia, by lia, by lia, by lia⟩⟩
     ·exact wpS_pure ⟨S, _, _, _, _, _, rfl, M1, by lia, by lia, by lia, by lia, by lia⟩
  case p1 =>
   rintro c st2 ⟨S, ⟨r, z, rfl, R⟩ | ⟨na', nb', out, ac, bc, rfl, M, h1, h1', h2, h2', h3⟩⟩
   ·exact wpS_pure ⟨S, _, _, rfl, R⟩
   dsimp only
   refine wpS_bind (wpS_lift (wpAny_rule ⟨rfl, ?_⟩))
   refine wpS_bind (wpS_mono (wpS_forRange (I := fun y c st'' => Same st st'' /\ ∃ (na' nb' : Nat) (out : Array Keyed) (mg ac bc : Nat), c = (none, na', nb', out, mg, ac, bc) /\ MH (kl key) a.toList b.toList out.reverse.toList na' nb' /\ 0 < na' /\ na' <= a.size /\ 1 < nb' /\ nb' <= b.size /\ na' + nb' + 1 <= na + nb)
    (Q := fun c st'' => Same st st'' /\ ((∃ (r : Array Keyed) (z : Nat × Nat × Array Keyed × Nat × Nat × Nat), c = (some r, z) /\ Res (kl key) a.toList b.toList r.toList) \/
     ∃ (na' nb' : Nat) (out : Array Keyed) (mg ac bc : Nat), c = (none, na', nb', out, mg, ac, bc) /\ MH (kl key) a.toList b.toList out.reverse.toList na' nb' /\ 0 < na' /\ na' <= a.size /\ 1 < nb' /\ nb' <= b.size /\ na' + nb' + 1 <= na + nb)) ?s2 ?f2 ⟨S, na', nb', out, _, ac, bc, rfl, M, h1, h1', h2, h2', h3⟩) ?p2)
   case f2 =>
    rintro c st3 ⟨S, na', nb', out, mg, ac, bc, rfl, M, h1, h1', h2, h2', h3⟩
    exact ⟨S, .inr ⟨na', nb', out, mg, ac, bc, rfl, M, h1, h1', h2, h2', h3⟩⟩
   case p2 =>
    rintro c st3 ⟨S, ⟨r, z, rfl, R⟩ | ⟨na', nb', out, mg, ac, bc, rfl, M, h1, h1', h2, h2', h3⟩⟩
    ·exact wpS_pure ⟨S, _, _, rfl, R⟩
    ·dsimp only
     exact wpS_bind (wpS_modify (wpS_pure ⟨S, _, _, _, _, rfl, M, h1, h1', h2, h2', by lia⟩))
   case s2 =>
    rintro y c st3 _ hy ⟨S, na', nb', out, mg, ac, bc, rfl, M, h1, h1', h2, h2', h3⟩
    dsimp only
    rcases Nat.lt_or_ge 1 mg with hm | hm
    case' inl => rw [if_pos hm]
    case' inr => rw [if_neg (Nat.not_lt.mpr hm)]
    all_goals
     refine wpS_bind (wpS_modify ?_)
     refine wpS_bind (ay (show nb' - 1 < b.size by lia) (wpS_bind (dv C (S.1.trans hk) (show na' - 1 < na' by lia) (by lia) (fun i hi => pa _ (by lia)) (pb _ (by lia)) (mK sA (by lia)) fun k z1 z2 z3 => ?_)))
     simp only [Nat.zero_add] at z2 z3
     dsimp only
     have le1 : ∀ x ∈ a.toList.take k, kl key x (at_ b (nb' - 1)) := fun x hx => by
      obtain ⟨j, g1, g2, rfl⟩ := gU hx
      exact j8 (z2 j g1)
     have M1 := pkA (k := k) M z1 fun x hx j g1 g2 => KeyOrd.kle_trans (tB h2' hx) (KeyOrd.kle_of_klt (qm (z3 j g1 g2)))
     by_cases hk0 : na' - k > 0
     ·rw [if_pos hk0]
      by_cases e : k = 0
      ·rw [if_pos (by simpa using e)]
       exact wpS_pure ⟨S, .inl ⟨_, _, rfl, dn M1 (.inl e)⟩⟩
      rw [if_neg (by simpa using e)]
      have hk1 : 0 < k := by lia
      refine wpS_bind (ay (show nb' - 1 < b.size by lia) ?_)
      have M2 := p1B M1 (by lia) h2' le1
      by_cases e3 : nb' - 1 = 1
      ·rw [if_pos (by simpa using e3)]
       exact wpS_pure ⟨S, .inl ⟨_, _, rfl, fi M2 e3⟩⟩
      rw [if_neg (by simpa using e3)]
      refine wpS_bind (ay (show k - 1 < a.size by lia) (wpS_bind (dv C (S.1.trans hk) (show nb' - 1 - 1 < nb' - 1 by lia) (by lia) (fun i hi => pb _ (by lia)) (pa _ (by lia)) (f6 sB (by lia)) fun k2 y1 y2 y3 => ?_)))
      simp only [Nat.zero_add] at y2 y3
      dsimp only
      have lt2 : ∀ x ∈ b.toList.take k2, kl key x (at_ a (k - 1)) := fun x hx => by
       obtain ⟨j, g1, g2, rfl⟩ := gU hx
       exact KeyOrd.kle_of_klt (gS (y2 j g1))
      have M3 := pkB (k := k2) M2 y1 fun x hx j g1 g2 => KeyOrd.kle_trans (tA (by lia) hx) (j9 (y3 j g1 g2))
      by_cases hk2 : nb' - 1 - k2 > 0
      ·rw [if_pos hk2]
       by_cases e4 : k2 = 1
       ·rw [if_pos (by simpa using e4)]
        exact wpS_pure ⟨S, .inl ⟨_, _, rfl, fi M3 e4⟩⟩
       rw [if_neg (by simpa using e4)]
       by_cases e6 : k2 = 0
       ·rw [if_pos (by simpa using e6)]
        exact wpS_pure ⟨S, .inl ⟨_, _, rfl, dn M3 (.inr e6)⟩⟩
       rw [if_neg (by simpa using e6)]
       refine wpS_bind (ay (show k - 1 < a.size by lia) ?_)
       have M4 := p1A M3 hk1 (by lia) lt2
       by_cases e5 : k - 1 = 0
       ·rw [if_pos (by simpa using e5)]
        exact wpS_pure ⟨S, .inl ⟨_, _, rfl, dn M4 (.inl e5)⟩⟩
       rw [if_neg (by simpa using e5)]
       split
       ·exact wpS_pure ⟨S, .inr ⟨_, _, _, _, _, _, rfl, M4, by lia, by lia, by lia, by lia, by lia⟩⟩
       ·exact wpS_pure ⟨S, _, _, _, _, _, _, rfl, M4, by lia, by lia, by lia, by lia, by lia⟩
      ·rw [if_neg hk2]
       have hz : k2 = nb' - 1 := by lia
       rw [hz] at lt2
       refine wpS_bind (ay (show k - 1 < a.size by lia) ?_)
       have M4 := p1A M2 hk1 (by lia) lt2
       by_cases e5 : k - 1 = 0
       ·rw [if_pos (by simpa using e5)]
        exact wpS_pure ⟨S, .inl ⟨_, _, rfl, dn M4 (.inl e5)⟩⟩
       rw [if_neg (by simpa using e5)]
       split
       ·exact wpS_pure ⟨S, .inr ⟨_, _, _, _, _, _, rfl, M4, by lia, by lia, by lia, by lia, by lia⟩⟩
       ·exact wpS_pure ⟨S, _, _, _, _, _, _, rfl, M4, by lia, by lia, by lia, by lia, by lia⟩
     ·rw [if_neg hk0]
      have hz : k = na' := by lia
      have M1 := M
      subst hz
      have hk1 : 0 < k := by lia
      refine wpS_bind (ay (show nb' - 1 < b.size by lia) ?_)
      have M2 := p1B M1 (by lia) h2' le1
      by_cases e3 : nb' - 1 = 1
      ·rw [if_pos (by simpa using e3)]
       exact wpS_pure ⟨S, .inl ⟨_, _, rfl, fi M2 e3⟩⟩
      rw [if_neg (by simpa using e3)]
      refine wpS_bind (ay (show k - 1 < a.size by lia) (wpS_bind (dv C (S.1.trans hk) (show nb' - 1 - 1 < nb' - 1 by lia) (by lia) (fun i hi => pb _ (by lia)) (pa _ (by lia)) (f6 sB (by lia)) fun k2 y1 y2 y3 => ?_)))
      simp only [Nat.zero_add] at y2 y3
      dsimp only
      have lt2 : ∀ x ∈ b.toList.take k2, kl key x (at_ a (k - 1)) := fun x hx => by
       obtain ⟨j, g1, g2, rfl⟩ := gU hx
       exact KeyOrd.kle_of_klt (gS (y2 j g1))
      have M3 := pkB (k := k2) M2 y1 fun x hx j g1 g2 => KeyOrd.kle_trans (tA (by lia) hx) (j9 (y3 j g1 g2))
      by_cases hk2 : nb' - 1 - k2 > 0
      ·rw [if_pos hk2]
       by_cases e4 : k2 = 1
       ·rw [if_pos (by simpa using e4)]
        exact wpS_pure ⟨S, .inl ⟨_, _, rfl, fi M3 e4⟩⟩
       rw [if_neg (by simpa using e4)]
       by_cases e6 : k2 = 0
       ·rw [if_pos (by simpa using e6)]
        exact wpS_pure ⟨S, .inl ⟨_, _, rfl, dn M3 (.inr e6)⟩⟩
       rw [if_neg (by simpa using e6)]
       refine wpS_bind (ay (show k - 1 < a.size by lia) ?_)
       have M4 := p1A M3 hk1 (by lia) lt2
       by_cases e5 : k - 1 = 0
       ·rw [if_pos (by simpa using e5)]
        exact wpS_pure ⟨S, .inl ⟨_, _, rfl, dn M4 (.inl e5)⟩⟩
       rw [if_neg (by simpa using e5)]
       split
       ·exact wpS_pure ⟨S, .inr ⟨_, _, _, _, _, _, rfl, M4, by lia, by lia, by lia, by lia, by lia⟩⟩
       ·exact wpS_pure ⟨S, _, _, _, _, _, _, rfl, M4, by lia, by lia, by lia, by lia, by lia⟩
      ·rw [if_neg hk2]
       have hz : k2 = nb' - 1 := by lia
       rw [hz] at lt2
       refine wpS_bind (ay (show k - 1 < a.size by lia) ?_)
       have M4 := p1A M2 hk1 (by lia) lt2
       by_cases e5 : k - 1 = 0
       ·rw [if_pos (by simpa using e5)]
        exact wpS_pure ⟨S, .inl ⟨_, _, rfl, dn M4 (.inl e5)⟩⟩
       rw [if_neg (by simpa using e5)]
       split
       ·exact wpS_pure ⟨S, .inr ⟨_, _, _, _, _, _, rfl, M4, by lia, by lia, by lia, by lia, by lia⟩⟩
       ·exact wpS_pure ⟨S, _, _, _, _, _, _, rfl, M4, by lia, by lia, by lia, by lia, by lia⟩
end
end Tim
end
section
namespace Tim
open PySem PyProof.Rows
section
variable {prog : Program} {w : World} {A : Around} {E : Value -> Shared -> Prop} {s : Shared} {κ : SortKind} {O : KeyOrd} {key : Keyed -> O.α} {P : Keyed -> Prop}
def Sg {O : KeyOrd} (key : Keyed -> O.α) (a : Array Keyed) (lo hi : Nat) : Prop := ∀ i j, lo <= i -> i <= j -> j < hi -> kl key (at_ a i) (at_ a j)
def Fl {O : KeyOrd} (key : Keyed -> O.α) (a : Array Keyed) (lo hi : Nat) : Prop := ∀ i j, lo <= i -> i <= j -> j < hi -> kl key (at_ a j) (at_ a i)
structure Mv (lo : Nat) (st st' : SortSt) : Prop where
 kind : kindOf st' = kindOf st
 pend : pendingOf st' = pendingOf st
 fail : failedOf st' = failedOf st
 perm : (arrOf st').Perm (arrOf st)
 pre : ∀ i, i < lo -> (arrOf st')[i]? = (arrOf st)[i]?
theorem Mv.rfl' {lo : Nat} {st : SortSt} : Mv lo st st := ⟨rfl, rfl, rfl, Array.Perm.refl _, fun _ _ => rfl⟩
theorem Mv.size {lo : Nat} {st st' : SortSt} (h : Mv lo st st') : (arrOf st').size = (arrOf st).size := h.perm.size_eq
theorem Mv.all {lo : Nat} {st st' : SortSt} (h : Mv lo st st') (hP : ∀ x ∈ (arrOf st).toList, P x) : ∀ x ∈ (arrOf st').toList, P x := fun x hx => hP x ((Array.perm_iff_toList_perm.mp h.perm).mem_iff.mp hx)
theorem bq {xs : Array Keyed} {i j : Nat} (hj : j <= xs.size) (k : Nat) : at_ (mirror xs i j ((j - i) / 2)) k = if i <= k /\ k < j then at_ xs (i + j - 1 - k) else at_ xs k := by
 have z := getElem?_mirror_all (i := i) hj k
 by_cases c : i <= k /\ k < j
 ·rw [if_pos c] at z ⊢; exact aL z
 ·rw [if_neg c] at z ⊢; exact aL z
theorem b7 {xs : Array Keyed} {i j : Nat} (hj : j <= xs.size) (he : ∀ k, i <= k -> k < j -> key (at_ xs k) = key (at_ xs (j - 1))) (k : Nat) : key (at_ (mirror xs i j ((j - i) / 2)) k) = key (at_ xs k) := by
 rw [bq hj]
 split
 ·rename_i c; rw [he _ (by lia) (by lia), he k c.1 c.2]
 ·rfl
theorem Mv.rev {lo : Nat} {st st' : SortSt} (h : Mv lo st st') {i j : Nat} (hi : lo <= i) (hj : j <= (arrOf st').size) : Mv lo st (setArr st' (mirror (arrOf st') i j ((j - i) / 2))) :=
 ⟨h.kind, h.pend, h.fail, (mirror_perm _ _ _ _).trans h.perm, fun k hk => by
  rw [<- h.pre k hk]
  show (mirror (arrOf st') i j ((j - i) / 2))[k]? = _
  rw [getElem?_mirror_all hj, if_neg (by lia)]⟩
theorem bA (C : fG prog w A s κ O key P) {st : SortSt} {i j : Nat} {Q : Option Bool -> SortSt -> Prop} (hk : kindOf st = κ) (hP : ∀ x ∈ (arrOf st).toList, P x) (hi : i < (arrOf st).size) (hj : j < (arrOf st).size)
  (h : Q (some (O.blt (key (at_ (arrOf st) i)) (key (at_ (arrOf st) j)))) st) : wpS (model prog w) A E s (ltAt' i j) Q st := by
 rw [ltAt'_eq]
 refine wpS_bind (wpS_get (wpS_bind (ay hi (wpS_bind (ay hj (j7 C (hP _ (dA hi)) (hP _ (dA hj)) hk h))))))
theorem Sg.one {a : Array Keyed} {lo : Nat} : Sg key a lo (lo + 1) := fun i j h1 h2 h3 => by
 rw [show i = j by lia]; exact KeyOrd.kle_refl _
theorem Sg.more {a : Array Keyed} {lo n : Nat} (h : Sg key a lo (lo + n)) (h1 : 1 <= n) (q : kl key (at_ a (lo + n - 1)) (at_ a (lo + n))) : Sg key a lo (lo + (n + 1)) := fun i j z1 z2 z3 => by
 by_cases hj : j = lo + n
 ·subst hj
  by_cases hi : i = lo + n
  ·subst hi; exact KeyOrd.kle_refl _
  ·exact KeyOrd.kle_trans (h i (lo + n - 1) z1 (by lia) (by lia)) q
 ·exact h i j z1 z2 (by lia)
theorem Fl.more {a : Array Keyed} {lo n : Nat} (h : Fl key a lo (lo + n)) (h1 : 1 <= n) (q : kl key (at_ a (lo + n)) (at_ a (lo + n - 1))) : Fl key a lo (lo + (n + 1)) := fun i j z1 z2 z3 => by
 by_cases hj : j = lo + n
 ·subst hj
  by_cases hi : i = lo + n
  ·subst hi; exact KeyOrd.kle_refl _
  ·exact KeyOrd.kle_trans q (h i (lo + n - 1) z1 (by lia) (by lia))
 ·exact h i j z1 z2 (by lia)
theorem Fl.congr {a b : Array Keyed} {lo hi : Nat} (h : Fl key a lo hi) (e : ∀ k, key (at_ b k) = key (at_ a k)) : Fl key b lo hi := fun i j z1 z2 z3 => by
 show O.kle _ _
 rw [e, e]; exact h i j z1 z2 z3
theorem yK (C : fG prog w A s κ O key P) {st : SortSt} {lo nrem : Nat} {Q : Option Nat -> SortSt -> Prop} (hk : kindOf st = κ) (hP : ∀ x ∈ (arrOf st).toList, P x) (hz : lo + nrem <= (arrOf st).size) (h1 : 1 <= nrem)
  (h : ∀ n st', Mv lo st st' -> 1 <= n -> n <= nrem -> Sg key (arrOf st') lo (lo + n) -> Q (some n) st') : wpS (model prog w) A E s (countRun' lo nrem) Q st := by
 rw [countRun'_eq]
 refine wpS_bind (wpS_mono (wpS_forRange (I := fun k c st' => st' = st /\ c = (none, k) /\ k <= nrem /\ 1 <= k /\ Sg key (arrOf st) lo (lo + k))
  (Q := fun c st' => st' = st /\ ∃ n, c = (none, n) /\ 1 <= n /\ n <= nrem /\ Sg key (arrOf st) lo (lo + n) /\ (n < nrem -> O.klt (key (at_ (arrOf st) (lo + n))) (key (at_ (arrOf st) (lo + n - 1))))) ?step ?fin ⟨rfl, rfl, h1, by lia, Sg.one⟩) ?post)
 case fin =>
  rintro c st' ⟨rfl, rfl, a1, a2, a3⟩
  exact ⟨rfl, _, rfl, by lia, by lia, a3, fun z => by lia⟩
 case step =>
  rintro k c st' _ hkn ⟨rfl, rfl, a1, a2, a3⟩
  dsimp only
  refine wpS_bind (bA C hk hP (by lia) (by lia) ?_)
  dsimp only
  cases hc : O.blt (key (at_ (arrOf st') (lo + k))) (key (at_ (arrOf st') (lo + k - 1))) with
  | true => rw [if_pos rfl]; exact wpS_pure ⟨rfl, k, rfl, a2, a1, a3, fun _ => hc⟩
  | false => rw [if_neg (by simp)]; exact wpS_pure ⟨rfl, rfl, by lia, by lia, a3.more a2 hc⟩
 case post =>
  rintro c st' ⟨rfl, n, rfl, n1, n2, n3, n4⟩
  dsimp only
  by_cases e : n = nrem
  ·rw [if_pos (by simpa using e)]
   exact wpS_pure (h n st' Mv.rfl' n1 n2 n3)
  rw [if_neg (by simpa using e)]
  have n4 := n4 (by lia)
  by_cases hn : n > 1
  ·rw [if_pos hn]
   refine wpS_bind (bA C hk hP (by lia) (by lia) ?_)
   dsimp only
   cases hc : O.blt (key (at_ (arrOf st') lo)) (key (at_ (arrOf st') (lo + n - 1))) with
   | true => rw [if_pos rfl]; exact wpS_pure (h n st' Mv.rfl' n1 n2 n3)
   | false =>
    rw [if_neg (by simp), reverseSlice'_eq]
    have eq : ∀ k, lo <= k -> k < lo + n -> key (at_ (arrOf st') k) = key (at_ (arrOf st') (lo + n - 1)) := fun k k1 k2 =>
     KeyOrd.kle_antisymm (n3 k (lo + n - 1) k1 (by lia) (by lia)) (KeyOrd.kle_trans hc (n3 lo k (by lia) k1 (by lia)))
    have ek := b7 (key := key) (xs := arrOf st') (i := lo) (j := lo + n) (by lia) eq
    refine wpS_bind (wpS_modify ?_)
    have M1 := (Mv.rfl' (lo := lo) (st := st')).rev (i := lo) (j := lo + n) (Nat.le_refl _) (by lia)
    have F1 : Fl key (arrOf (setArr st' (mirror (arrOf st') lo (lo + n) ((lo + n - lo) / 2)))) lo (lo + (n + 1)) := by
     refine Fl.congr (a := arrOf st') (Fl.more (fun i j z1 z2 z3 => ?_) n1 (KeyOrd.kle_of_klt n4)) ek
     show O.kle _ _
     rw [eq i z1 (by lia), eq j (by lia) z3]; exact KeyOrd.kle_refl _
    generalize setArr st' (mirror (arrOf st') lo (lo + n) ((lo + n - lo) / 2)) = st1 at M1 F1 ⊢
    refine wpS_bind (wpS_lift (wpAny_rule ⟨rfl, ?_⟩))
    refine wpS_bind (wpS_mono (wpS_forRange (I := fun k c st2 => Mv lo st' st2 /\ ∃ q, c = (none, k, q) /\ k <= nrem /\ q + 1 <= k /\ Fl key (arrOf st2) lo (lo + k) /\ (∀ i, lo + k - (q + 1) <= i -> i < lo + k -> key (at_ (arrOf st2) i) = key (at_ (arrOf st2) (lo + k - 1))))
     (Q := fun c st2 => Mv lo st' st2 /\ ∃ k q, c = (none, k, q) /\ k <= nrem /\ q + 1 <= k /\ Fl key (arrOf st2) lo (lo + k) /\ (∀ i, lo + k - (q + 1) <= i -> i < lo + k -> key (at_ (arrOf st2) i) = key (at_ (arrOf st2) (lo + k - 1)))) ?dstep ?dfin ⟨M1, 0, rfl, by lia, by lia, F1, fun i g1 g2 => by rw [show i = lo + (n + 1) - 1 by lia]⟩) ?dpost)
    case dfin =>
     rintro c st2 ⟨M2, q, rfl, a1, a2, a3, a4⟩
     exact ⟨M2, _, q, rfl, a1, a2, a3, a4⟩
    case dstep =>
     rintro k c st2 hk1 hkn ⟨M2, q, rfl, a1, a2, a3, a4⟩
     have hz2 : lo + nrem <= (arrOf st2).size := by rw [M2.size]; exact hz
     have hk2 : kindOf st2 = κ := M2.kind.trans hk
     have hP2 := M2.all hP
     dsimp only
     refine wpS_bind (bA C hk2 hP2 (by lia) (by lia) ?_)
     dsimp only
     cases hc : O.blt (key (at_ (arrOf st2) (lo + k))) (key (at_ (arrOf st2) (lo + k - 1))) with
     | true =>
      rw [if_pos rfl]
      have F2 := a3.more (by lia) (KeyOrd.kle_of_klt hc)
      by_cases hq : q > 0
      ·rw [if_pos hq, reverseSlice'_eq]
       have ek := b7 (key := key) (xs := arrOf st2) (i := lo + k - (q + 1)) (j := lo + k) (by lia) a4
       refine wpS_bind (wpS_modify (wpS_pure ⟨M2.rev (by lia) (by lia), 0, rfl, by lia, by lia, F2.congr ek, fun i g1 g2 => ?_⟩))
       rw [show i = lo + (k + 1) - 1 by lia]
      ·rw [if_neg hq]
       exact wpS_pure ⟨M2, 0, rfl, by lia, by lia, F2, fun i g1 g2 => by rw [show i = lo + (k + 1) - 1 by lia]⟩
     | false =>
      rw [if_neg (by simp)]
      refine wpS_bind (bA C hk2 hP2 (by lia) (by lia) ?_)
      dsimp only
      cases hd : O.blt (key (at_ (arrOf st2) (lo + k - 1))) (key (at_ (arrOf st2) (lo + k))) with
      | true => rw [if_pos rfl]; exact wpS_pure ⟨M2, k, q, rfl, a1, a2, a3, a4⟩
      | false =>
       rw [if_neg (by simp)]
       have eq1 : key (at_ (arrOf st2) (lo + k)) = key (at_ (arrOf st2) (lo + k - 1)) := O.total _ _ hc hd
       refine wpS_pure ⟨M2, q + 1, rfl, by lia, by lia, a3.more (by lia) hd, fun i g1 g2 => ?_⟩
       rw [show lo + (k + 1) - 1 = lo + k by lia]
       by_cases hi : i = lo + k
       ·rw [hi]
       ·rw [eq1]; exact a4 i (by lia) (by lia)
    case dpost =>
     rintro c st2 ⟨M2, k, q, rfl, a1, a2, a3, a4⟩
     have hz2 : lo + nrem <= (arrOf st2).size := by rw [M2.size]; exact hz
     dsimp only
     by_cases hq : q > 0
     ·rw [if_pos hq, reverseSlice'_eq]
      have ek := b7 (key := key) (xs := arrOf st2) (i := lo + k - (q + 1)) (j := lo + k) (by lia) a4
      refine wpS_bind (wpS_modify ?_)
      have M3 := M2.rev (i := lo + k - (q + 1)) (j := lo + k) (by lia) (by lia)
      have F3 : Fl key (arrOf (setArr st2 (mirror (arrOf st2) (lo + k - (q + 1)) (lo + k) ((lo + k - (lo + k - (q + 1))) / 2)))) lo (lo + k) := a3.congr ek
      generalize setArr st2 (mirror (arrOf st2) (lo + k - (q + 1)) (lo + k) ((lo + k - (lo + k - (q + 1))) / 2)) = st3 at M3 F3 ⊢
      have hz3 : lo + nrem <= (arrOf st3).size := by rw [M3.size]; exact hz
      rw [reverseSlice'_eq]
      refine wpS_bind (wpS_modify ?_)
      have M4 := M3.rev (i := lo) (j := lo + k) (Nat.le_refl _) (by lia)
      have S4 : Sg key (arrOf (setArr st3 (mirror (arrOf st3) lo (lo + k) ((lo + k - lo) / 2)))) lo (lo + k) := fun i j g1 g2 g3 => by
       show kl key (at_ (mirror (arrOf st3) lo (lo + k) ((lo + k - lo) / 2)) i) (at_ (mirror (arrOf st3) lo (lo + k) ((lo + k - lo) / 2)) j)
       rw [bq (by lia), bq (by lia), if_pos ⟨g1, by lia⟩, if_pos ⟨by lia, g3⟩]
       exact F3 _ _ (by lia) (by lia) (by lia)
      generalize setArr st3 (mirror (arrOf st3) lo (lo + k) ((lo + k - lo) / 2)) = st4 at M4 S4 ⊢
      have hz4 : lo + nrem <= (arrOf st4).size := by rw [M4.size]; exact hz
      have hk4 : kindOf st4 = κ := M4.kind.trans hk
      have hP4 := M4.all hP
      refine wpS_bind (wpS_mono (wpS_forRange (I := fun i c st5 => st5 = st4 /\ c = (none, i) /\ i <= nrem /\ 1 <= i /\ Sg key (arrOf st4) lo (lo + i)) (Q := fun c st5 => st5 = st4 /\ ∃ i, c = (none, i) /\ i <= nrem /\ 1 <= i /\ Sg key (arrOf st4) lo (lo + i)) ?tstep ?tfin ⟨rfl, rfl, a1, by lia, S4⟩) ?tpost)
      case tfin =>
       rintro c st5 ⟨rfl, rfl, b1, b2, b3⟩
       exact ⟨rfl, _, rfl, b1, b2, b3⟩
      case tstep =>
       rintro i c st5 _ hi ⟨rfl, rfl, b1, b2, b3⟩
       dsimp only
       refine wpS_bind (bA C hk4 hP4 (by lia) (by lia) ?_)
       dsimp only
       cases hc : O.blt (key (at_ (arrOf st5) (lo + i))) (key (at_ (arrOf st5) (lo + i - 1))) with
       | true => rw [if_pos rfl]; exact wpS_pure ⟨rfl, i, rfl, b1, b2, b3⟩
       | false => rw [if_neg (by simp)]; exact wpS_pure ⟨rfl, rfl, by lia, by lia, b3.more b2 hc⟩
      case tpost =>
       rintro c st5 ⟨rfl, i, rfl, b1, b2, b3⟩
       exact wpS_pure (h i st5 M4 b2 b1 b3)
     ·rw [if_neg hq]
      have M3 := M2
      have F3 := a3
      have hz3 : lo + nrem <= (arrOf st2).size := by rw [M3.size]; exact hz
      rw [reverseSlice'_eq]
      refine wpS_bind (wpS_modify ?_)
      have M4 := M3.rev (i := lo) (j := lo + k) (Nat.le_refl _) (by lia)
      have S4 : Sg key (arrOf (setArr st2 (mirror (arrOf st2) lo (lo + k) ((lo + k - lo) / 2)))) lo (lo + k) := fun i j g1 g2 g3 => by
       show kl key (at_ (mirror (arrOf st2) lo (lo + k) ((lo + k - lo) / 2)) i) (at_ (mirror (arrOf st2) lo (lo + k) ((lo + k - lo) / 2)) j)
       rw [bq (by lia), bq (by lia), if_pos ⟨g1, by lia⟩, if_pos ⟨by lia, g3⟩]
       exact F3 _ _ (by lia) (by lia) (by lia)
      generalize setArr st2 (mirror (arrOf st2) lo (lo + k) ((lo + k - lo) / 2)) = st4 at M4 S4 ⊢
      have hz4 : lo + nrem <= (arrOf st4).size := by rw [M4.size]; exact hz
      have hk4 : kindOf st4 = κ := M4.kind.trans hk
      have hP4 := M4.all hP
      refine wpS_bind (wpS_mono (wpS_forRange (I := fun i c st5 => st5 = st4 /\ c = (none, i) /\ i <= nrem /\ 1 <= i /\ Sg key (arrOf st4) lo (lo + i)) (Q := fun c st5 => st5 = st4 /\ ∃ i, c = (none, i) /\ i <= nrem /\ 1 <= i /\ Sg key (arrOf st4) lo (lo + i)) ?tstep ?tfin ⟨rfl, rfl, a1, by lia, S4⟩) ?tpost)
      case tfin =>
       rintro c st5 ⟨rfl, rfl, b1, b2, b3⟩
       exact ⟨rfl, _, rfl, b1, b2, b3⟩
      case tstep =>
       rintro i c st5 _ hi ⟨rfl, rfl, b1, b2, b3⟩
       dsimp only
       refine wpS_bind (bA C hk4 hP4 (by lia) (by lia) ?_)
       dsimp only
       cases hc : O.blt (key (at_ (arrOf st5) (lo + i))) (key (at_ (arrOf st5) (lo + i - 1))) with
       | true => rw [if_pos rfl]; exact wpS_pure ⟨rfl, i, rfl, b1, b2, b3⟩
       | false => rw [if_neg (by simp)]; exact wpS_pure ⟨rfl, rfl, by lia, by lia, b3.more b2 hc⟩
      case tpost =>
       rintro c st5 ⟨rfl, i, rfl, b1, b2, b3⟩
       exact wpS_pure (h i st5 M4 b2 b1 b3)
  ·rw [if_neg hn]
   have hn1 : n = 1 := by lia
   subst hn1
   have M1 : Mv lo st' st' := Mv.rfl'
   have F1 : Fl key (arrOf st') lo (lo + (1 + 1)) := Fl.more (fun i j z1 z2 z3 => by rw [show i = j by lia]; exact KeyOrd.kle_refl _) (Nat.le_refl _) (KeyOrd.kle_of_klt n4)
   refine wpS_bind (wpS_lift (wpAny_rule ⟨rfl, ?_⟩))
   refine wpS_bind (wpS_mono (wpS_forRange (I := fun k c st2 => Mv lo st' st2 /\ ∃ q, c = (none, k, q) /\ k <= nrem /\ q + 1 <= k /\ Fl key (arrOf st2) lo (lo + k) /\ (∀ i, lo + k - (q + 1) <= i -> i < lo + k -> key (at_ (arrOf st2) i) = key (at_ (arrOf st2) (lo + k - 1))))
    (Q := fun c st2 => Mv lo st' st2 /\ ∃ k q, c = (none, k, q) /\ k <= nrem /\ q + 1 <= k /\ Fl key (arrOf st2) lo (lo + k) /\ (∀ i, lo + k - (q + 1) <= i -> i < lo + k -> key (at_ (arrOf st2) i) = key (at_ (arrOf st2) (lo + k - 1)))) ?dstep ?dfin ⟨M1, 0, rfl, by lia, by lia, F1, fun i g1 g2 => by rw [show i = lo + (1 + 1) - 1 by lia]⟩) ?dpost)
   case dfin =>
    rintro c st2 ⟨M2, q, rfl, a1, a2, a3, a4⟩
    exact ⟨M2, _, q, rfl, a1, a2, a3, a4⟩
   case dstep =>
    rintro k c st2 hk1 hkn ⟨M2, q, rfl, a1, a2, a3, a4⟩
    have hz2 : lo + nrem <= (arrOf st2).size := by rw [M2.size]; exact hz
    have hk2 : kindOf st2 = κ := M2.kind.trans hk
    have hP2 := M2.all hP
    dsimp only
    refine wpS_bind (bA C hk2 hP2 (by lia) (by lia) ?_)
    dsimp only
    cases hc : O.blt (key (at_ (arrOf st2) (lo + k))) (key (at_ (arrOf st2) (lo + k - 1))) with
    | true =>
     rw [if_pos rfl]
     have F2 := a3.more (by lia) (KeyOrd.kle_of_klt hc)
     by_cases hq : q > 0
     ·rw [if_pos hq, reverseSlice'_eq]
      have ek := b7 (key := key) (xs := arrOf st2) (i := lo + k - (q + 1)) (j := lo + k) (by lia) a4
      refine wpS_bind (wpS_modify (wpS_pure ⟨M2.rev (by lia) (by lia), 0, rfl, by lia, by lia, F2.congr ek, fun i g1 g2 => ?_⟩))
      rw [show i = lo + (k + 1) - 1 by lia]
     ·rw [if_neg hq]
      exact wpS_pure ⟨M2, 0, rfl, by lia, by lia, F2, fun i g1 g2 => by rw [show i = lo + (k + 1) - 1 by lia]⟩
    | false =>
     rw [if_neg (by simp)]
     refine wpS_bind (bA C hk2 hP2 (by lia) (by lia) ?_)
     dsimp only
     cases hd : O.blt (key (at_ (arrOf st2) (lo + k - 1))) (key (at_ (arrOf st2) (lo + k))) with
     | true => rw [if_pos rfl]; exact wpS_pure ⟨M2, k, q, rfl, a1, a2, a3, a4⟩
     | false =>
      rw [if_neg (by simp)]
      have eq1 : key (at_ (arrOf st2) (lo + k)) = key (at_ (arrOf st2) (lo + k - 1)) := O.total _ _ hc hd
      refine wpS_pure ⟨M2, q + 1, rfl, by lia, by lia, a3.more (by lia) hd, fun i g1 g2 => ?_⟩
      rw [show lo + (k + 1) - 1 = lo + k by lia]
      by_cases hi : i = lo + k
      ·rw [hi]
      ·rw [eq1]; exact a4 i (by lia) (by lia)
   case dpost =>
    rintro c st2 ⟨M2, k, q, rfl, a1, a2, a3, a4⟩
    have hz2 : lo + nrem <= (arrOf st2).size := by rw [M2.size]; exact hz
    dsimp only
    by_cases hq : q > 0
    ·rw [if_pos hq, reverseSlice'_eq]
     have ek := b7 (key := key) (xs := arrOf st2) (i := lo + k - (q + 1)) (j := lo + k) (by lia) a4
     refine wpS_bind (wpS_modify ?_)
     have M3 := M2.rev (i := lo + k - (q + 1)) (j := lo + k) (by lia) (by lia)
     have F3 : Fl key (arrOf (setArr st2 (mirror (arrOf st2) (lo + k - (q + 1)) (lo + k) ((lo + k - (lo + k - (q + 1))) / 2)))) lo (lo + k) := a3.congr ek
     generalize setArr st2 (mirror (arrOf st2) (lo + k - (q + 1)) (lo + k) ((lo + k - (lo + k - (q + 1))) / 2)) = st3 at M3 F3 ⊢
     have hz3 : lo + nrem <= (arrOf st3).size := by rw [M3.size]; exact hz
     rw [reverseSlice'_eq]
     refine wpS_bind (wpS_modify ?_)
     have M4 := M3.rev (i := lo) (j := lo + k) (Nat.le_refl _) (by lia)
     have S4 : Sg key (arrOf (setArr st3 (mirror (arrOf st3) lo (lo + k) ((lo + k - lo) / 2)))) lo (lo + k) := fun i j g1 g2 g3 => by
      show kl key (at_ (mirror (arrOf st3) lo (lo + k) ((lo + k - lo) / 2)) i) (at_ (mirror (arrOf st3) lo (lo + k) ((lo + k - lo) / 2)) j)
      rw [bq (by lia), bq (by lia), if_pos ⟨g1, by lia⟩, if_pos ⟨by lia, g3⟩]
      exact F3 _ _ (by lia) (by lia) (by lia)
     generalize setArr st3 (mirror (arrOf st3) lo (lo + k) ((lo + k - lo) / 2)) = st4 at M4 S4 ⊢
     have hz4 : lo + nrem <= (arrOf st4).size := by rw [M4.size]; exact hz
     have hk4 : kindOf st4 = κ := M4.kind.trans hk
     have hP4 := M4.all hP
     refine wpS_bind (wpS_mono (wpS_forRange (I := fun i c st5 => st5 = st4 /\ c = (none, i) /\ i <= nrem /\ 1 <= i /\ Sg key (arrOf st4) lo (lo + i)) (Q := fun c st5 => st5 = st4 /\ ∃ i, c = (none, i) /\ i <= nrem /\ 1 <= i /\ Sg key (arrOf st4) lo (lo + i)) ?tstep ?tfin ⟨rfl, rfl, a1, by lia, S4⟩) ?tpost)
     case tfin =>
      rintro c st5 ⟨rfl, rfl, b1, b2, b3⟩
      exact ⟨rfl, _, rfl, b1, b2, b3⟩
     case tstep =>
      rintro i c st5 _ hi ⟨rfl, rfl, b1, b2, b3⟩
      dsimp only
      refine wpS_bind (bA C hk4 hP4 (by lia) (by lia) ?_)
      dsimp only
      cases hc : O.blt (key (at_ (arrOf st5) (lo + i))) (key (at_ (arrOf st5) (lo + i - 1))) with
      | true => rw [if_pos rfl]; exact wpS_pure ⟨rfl, i, rfl, b1, b2, b3⟩
      | false => rw [if_neg (by simp)]; exact wpS_pure ⟨rfl, rfl, by lia, by lia, b3.more b2 hc⟩
     case tpost =>
      rintro c st5 ⟨rfl, i, rfl, b1, b2, b3⟩
      exact wpS_pure (h i st5 M4 b2 b1 b3)
    ·rw [if_neg hq]
     have M3 := M2
     have F3 := a3
     have hz3 : lo + nrem <= (arrOf st2).size := by rw [M3.size]; exact hz
     rw [reverseSlice'_eq]
     refine wpS_bind (wpS_modify ?_)
     have M4 := M3.rev (i := lo) (j := lo + k) (Nat.le_refl _) (by lia)
     have S4 : Sg key (arrOf (setArr st2 (mirror (arrOf st2) lo (lo + k) ((lo + k - lo) / 2)))) lo (lo + k) := fun i j g1 g2 g3 => by
      show kl key (at_ (mirror (arrOf st2) lo (lo + k) ((lo + k - lo) / 2)) i) (at_ (mirror (arrOf st2) lo (lo + k) ((lo + k - lo) / 2)) j)
      rw [bq (by lia), bq (by lia), if_pos ⟨g1, by lia⟩, if_pos ⟨by lia, g3⟩]
      exact F3 _ _ (by lia) (by lia) (by lia)
     generalize setArr st2 (mirror (arrOf st2) lo (lo + k) ((lo + k - lo) / 2)) = st4 at M4 S4 ⊢
     have hz4 : lo + nrem <= (arrOf st4).size := by rw [M4.size]; exact hz
     have hk4 : kindOf st4 = κ := M4.kind.trans hk
     have hP4 := M4.all hP
     refine wpS_bind (wpS_mono (wpS_forRange (I := fun i c st5 => st5 = st4 /\ c = (none, i) /\ i <= nrem /\ 1 <= i /\ Sg key (arrOf st4) lo (lo + i)) (Q := fun c st5 => st5 = st4 /\ ∃ i, c = (none, i) /\ i <= nrem /\ 1 <= i /\ Sg key (arrOf st4) lo (lo + i)) ?tstep ?tfin ⟨rfl, rfl, a1, by lia, S4⟩) ?tpost)
     case tfin =>
      rintro c st5 ⟨rfl, rfl, b1, b2, b3⟩
      exact ⟨rfl, _, rfl, b1, b2, b3⟩
     case tstep =>
      rintro i c st5 _ hi ⟨rfl, rfl, b1, b2, b3⟩
      dsimp only
      refine wpS_bind (bA C hk4 hP4 (by lia) (by lia) ?_)
      dsimp only
      cases hc : O.blt (key (at_ (arrOf st5) (lo + i))) (key (at_ (arrOf st5) (lo + i - 1))) with
      | true => rw [if_pos rfl]; exact wpS_pure ⟨rfl, i, rfl, b1, b2, b3⟩
      | false => rw [if_neg (by simp)]; exact wpS_pure ⟨rfl, rfl, by lia, by lia, b3.more b2 hc⟩
     case tpost =>
      rintro c st5 ⟨rfl, i, rfl, b1, b2, b3⟩
      exact wpS_pure (h i st5 M4 b2 b1 b3)
theorem yL (C : fG prog w A s κ O key P) {st : SortSt} {lo n ok : Nat} {Q : Bool -> SortSt -> Prop} (hk : kindOf st = κ) (hP : ∀ x ∈ (arrOf st).toList, P x) (hz : lo + n <= (arrOf st).size) (ho : 1 <= ok) (hn : ok <= n) (hs : Sg key (arrOf st) lo (lo + ok))
  (h : ∀ st', Mv lo st st' -> Sg key (arrOf st') lo (lo + n) -> Q true st') : wpS (model prog w) A E s (binarySort' lo n ok) Q st := by
 rw [binarySort'_eq]
 refine wpS_bind (wpS_mono (wpS_forRange (I := fun k c st' => c = (none, ()) /\ Mv lo st st' /\ k <= n /\ Sg key (arrOf st') lo (lo + k)) (Q := fun c st' => c = (none, ()) /\ Mv lo st st' /\ Sg key (arrOf st') lo (lo + n)) ?step ?fin ⟨rfl, Mv.rfl', by lia, by rw [show max ok 1 = ok by lia]; exact hs⟩) ?post)
 case post =>
  rintro c st' ⟨rfl, M, S⟩
  exact wpS_pure (h st' M S)
 case fin =>
  rintro c st' ⟨hc, M, hkn, S⟩
  rw [show max (max ok 1) n = n by lia] at S
  exact ⟨hc, M, S⟩
 case step =>
  rintro k c st' hak hkn ⟨rfl, M, _, S⟩
  have hz' : lo + n <= (arrOf st').size := by rw [M.size]; exact hz
  have hk' : kindOf st' = κ := M.kind.trans hk
  have hP' := M.all hP
  dsimp only
  refine wpS_bind (wpS_mono (wpS_forRange (I := fun x c st'' => st'' = st' /\ ∃ l r, c = (none, l, r) /\ l <= r /\ r <= k /\ r - l <= k - x /\ (∀ i, i < l -> kl key (at_ (arrOf st') (lo + i)) (at_ (arrOf st') (lo + k))) /\ (∀ i, r <= i -> i < k -> O.klt (key (at_ (arrOf st') (lo + k))) (key (at_ (arrOf st') (lo + i)))))
   (Q := fun c st'' => st'' = st' /\ ∃ l r, c = (none, l, r) /\ l <= k /\ (∀ i, i < l -> kl key (at_ (arrOf st') (lo + i)) (at_ (arrOf st') (lo + k))) /\ (∀ i, l <= i -> i < k -> O.klt (key (at_ (arrOf st') (lo + k))) (key (at_ (arrOf st') (lo + i))))) ?s1 ?f1 ⟨rfl, 0, k, rfl, by lia, by lia, by lia, fun i hi => by lia, fun i h1 h2 => by lia⟩) ?p1)
  case f1 =>
   rintro c st'' ⟨rfl, l, r, rfl, z1, z2, z3, z4, z5⟩
   have : l = r := by lia
   subst this
   exact ⟨rfl, l, l, rfl, z2, z4, z5⟩
  case s1 =>
   rintro x c st'' _ hx ⟨rfl, l, r, rfl, z1, z2, z3, z4, z5⟩
   dsimp only
   by_cases hge : l >= r
   ·rw [if_pos hge]
    have : l = r := by lia
    subst this
    exact wpS_pure ⟨rfl, l, l, rfl, z2, z4, z5⟩
   rw [if_neg hge]
   refine wpS_bind (bA C hk' hP' (by lia) (by lia) ?_)
   dsimp only
   cases hc : O.blt (key (at_ (arrOf st'') (lo + k))) (key (at_ (arrOf st'') (lo + (l + r) / 2))) with
   | true =>
    rw [if_pos rfl]
    exact wpS_pure ⟨rfl, l, (l + r) / 2, rfl, by lia, by lia, by lia, z4, fun i g1 g2 => KeyOrd.klt_of_klt_of_kle hc (S (lo + (l + r) / 2) (lo + i) (by lia) (by lia) (by lia))⟩
   | false =>
    rw [if_neg (by simp)]
    exact wpS_pure ⟨rfl, (l + r) / 2 + 1, r, rfl, by lia, by lia, by lia, fun i g1 => KeyOrd.kle_trans (S (lo + i) (lo + (l + r) / 2) (by lia) (by lia) (by lia)) hc, z5⟩
  case p1 =>
   rintro c st'' ⟨rfl, l, r, rfl, z1, z2, z3⟩
   dsimp only
   rw [moveDown'_eq]
   have eb : ∀ i, at_ (bubble (arrOf st'') (lo + k) (lo + k - (lo + l))) i = if i = lo + l then at_ (arrOf st'') (lo + k) else if lo + l < i /\ i <= lo + k then at_ (arrOf st'') (i - 1) else at_ (arrOf st'') i := fun i => by
    have z := getElem?_bubble (xs := arrOf st'') (src := lo + k) (by lia) (lo + k - (lo + l)) (by lia) i
    rw [show lo + k - (lo + k - (lo + l)) = lo + l by lia] at z
    by_cases c1 : i = lo + l
    ·rw [if_pos c1] at z ⊢; exact aL z
    ·rw [if_neg c1] at z ⊢
     by_cases c2 : lo + l < i /\ i <= lo + k
     ·rw [if_pos c2] at z ⊢; exact aL z
     ·rw [if_neg c2] at z ⊢; exact aL z
   refine wpS_bind (wpS_modify (wpS_pure ⟨rfl, ⟨M.kind, M.pend, M.fail, (bubble_perm _ _ _).trans M.perm, fun i hi => ?_⟩, by lia, fun i j g1 g2 g3 => ?_⟩))
   ·rw [<- M.pre i hi]
    show (bubble (arrOf st'') (lo + k) (lo + k - (lo + l)))[i]? = _
    rw [getElem?_bubble (by lia) _ (by lia), if_neg (by lia), if_neg (by lia)]
   ·show kl key (at_ (bubble (arrOf st'') (lo + k) (lo + k - (lo + l))) i) (at_ (bubble (arrOf st'') (lo + k) (lo + k - (lo + l))) j)
    rw [eb, eb]
    by_cases c1 : i = lo + l
    ·rw [if_pos c1]
     by_cases c2 : j = lo + l
     ·rw [if_pos c2]; exact KeyOrd.kle_refl _
     ·rw [if_neg c2, if_pos ⟨by lia, by lia⟩]
      have := z3 (j - 1 - lo) (by lia) (by lia)
      rw [show lo + (j - 1 - lo) = j - 1 by lia] at this
      exact KeyOrd.kle_of_klt this
    ·rw [if_neg c1]
     by_cases c3 : lo + l < i
     ·rw [if_pos ⟨c3, by lia⟩, if_neg (by lia), if_pos ⟨by lia, by lia⟩]
      exact S _ _ (by lia) (by lia) (by lia)
     ·rw [if_neg (by lia)]
      by_cases c2 : j = lo + l
      ·rw [if_pos c2]
       have := z2 (i - lo) (by lia)
       rwa [show lo + (i - lo) = i by lia] at this
      ·rw [if_neg c2]
       by_cases c4 : lo + l < j
       ·rw [if_pos ⟨c4, by lia⟩]; exact S _ _ g1 (by lia) (by lia)
       ·rw [if_neg (by lia)]; exact S _ _ g1 g2 (by lia)
end
end Tim
end
section
namespace Tim
open PySem PyProof.Rows
theorem ka : ∀ (l : List Keyed) (a : Array Keyed) (b j0 : Nat), ((l.zipIdx j0).foldl (fun a x => a.setIfInBounds (b + x.2) x.1) a).size = a.size
 | [], _, _, _ => rfl
 | x :: l, a, b, j0 => by
  rw [List.zipIdx_cons, List.foldl_cons, ka l]
  simp
theorem qq : ∀ (l : List Keyed) (a : Array Keyed) (b j0 : Nat) (i : Nat), b + j0 + l.length <= a.size -> ((l.zipIdx j0).foldl (fun a x => a.setIfInBounds (b + x.2) x.1) a)[i]? = if b + j0 <= i /\ i < b + j0 + l.length then l[i - (b + j0)]? else a[i]?
 | [], a, b, j0, i, _ => by
  rw [if_neg (by simp only [List.length_nil]; lia)]; rfl
 | x :: l, a, b, j0, i, h => by
  have hl : (x :: l).length = l.length + 1 := rfl
  rw [hl] at h ⊢
  rw [List.zipIdx_cons, List.foldl_cons, qq l _ b (j0 + 1) i (by simp; lia)]
  by_cases c : b + (j0 + 1) <= i /\ i < b + (j0 + 1) + l.length
  ·rw [if_pos c, if_pos (by lia), show i - (b + j0) = (i - (b + (j0 + 1))) + 1 by lia, List.getElem?_cons_succ]
  ·rw [if_neg c]
   by_cases e : i = b + j0
   ·subst e
    rw [if_pos (by lia), Nat.sub_self, List.getElem?_cons_zero]
    simp [Array.getElem?_setIfInBounds]; lia
   ·rw [if_neg (by lia)]
    simp [Array.getElem?_setIfInBounds]; lia
def Cov : List (Nat × Nat × Nat) -> Nat -> Nat -> Prop
 | [], f, t => f = t
 | x :: r, f, t => x.1 = f /\ 1 <= x.2.1 /\ Cov r (f + x.2.1) t
theorem Cov.le : ∀ {l : List (Nat × Nat × Nat)} {f t : Nat}, Cov l f t -> f + l.length <= t
 | [], _, _, h => by cases h; exact Nat.le_refl _
 | x :: r, f, t, ⟨h1, h2, h3⟩ => by have := Cov.le h3; simp only [List.length_cons]; lia
theorem Cov.app : ∀ {l m : List (Nat × Nat × Nat)} {f t : Nat}, Cov (l ++ m) f t ↔ ∃ k, Cov l f k /\ Cov m k t
 | [], m, f, t => ⟨fun h => ⟨f, rfl, h⟩, fun zq1 => by obtain ⟨k, h1, h2⟩ := zq1; cases h1; exact h2⟩
 | x :: r, m, f, t => ⟨fun ⟨h1, h2, h3⟩ => let ⟨k, k1, k2⟩ := Cov.app.mp h3; ⟨k, ⟨h1, h2, k1⟩, k2⟩, fun zt1 => by obtain ⟨k, ⟨h1, h2, k1⟩, k2⟩ := zt1; exact ⟨h1, h2, Cov.app.mpr ⟨k, k1, k2⟩⟩⟩
theorem Cov.mem : ∀ {l : List (Nat × Nat × Nat)} {f t : Nat}, Cov l f t -> ∀ x ∈ l, f <= x.1 /\ x.1 + x.2.1 <= t
 | x :: r, f, t, ⟨h1, h2, h3⟩, y, hy => by
  have := Cov.le h3
  rcases List.mem_cons.mp hy with rfl | hy
  ·lia
  ·have := Cov.mem h3 y hy; lia
section
variable {prog : Program} {w : World} {A : Around} {E : Value -> Shared -> Prop} {s : Shared} {κ : SortKind} {O : KeyOrd} {key : Keyed -> O.α} {P : Keyed -> Prop}
theorem tW {σ : Type} {M : Model} {x : σ} {Q : PUnit -> σ -> Prop} {st : σ} (h : Q ⟨⟩ x) : wpS M A E s (set x : StateT σ Sem PUnit) Q st := by
 unfold wpS; rw [StateT.run_set]; exact wpAny_pure ⟨rfl, h⟩
structure G {O : KeyOrd} (κ : SortKind) (key : Keyed -> O.α) (a0 : Array Keyed) (st : SortSt) (lo : Nat) : Prop where
 kind : kindOf st = κ
 fail : failedOf st = none
 perm : (arrOf st).Perm a0
 cov : Cov (pendingOf st).toList 0 lo
 srt : ∀ x ∈ (pendingOf st).toList, Sg key (arrOf st) x.1 (x.1 + x.2.1)
 le : lo <= a0.size
theorem qr {a : Array Keyed} {x : Keyed} {base n : Nat} (h : Sg key a base (base + n)) : ∀ i j, i <= j -> j < n -> bey key false x (at_ a (base + j)) = true -> bey key false x (at_ a (base + i)) = true := fun i j hij hj q => by
 have : kl key (at_ a (base + i)) x := KeyOrd.kle_trans (h _ _ (by lia) (by lia) (by lia)) (j8 q)
 show (!O.blt (key x) (key (at_ a (base + i)))) = true
 rw [show O.blt (key x) (key (at_ a (base + i))) = false from this]; rfl
theorem qt {a : Array Keyed} {x : Keyed} {base n : Nat} (h : Sg key a base (base + n)) : ∀ i j, i <= j -> j < n -> bey key true x (at_ a (base + j)) = true -> bey key true x (at_ a (base + i)) = true := fun i j hij hj q =>
 KeyOrd.klt_of_kle_of_klt (h (base + i) (base + j) (by lia) (by lia) (by lia)) (gS q)
theorem ke {a : Array Keyed} {i n j : Nat} (h : n <= a.size) (hj : i + j < n) : at_ (a.extract i n) j = at_ a (i + j) := by
 refine aL ?_
 rw [Array.getElem?_extract]
 rw [if_pos (by lia)]
theorem kf {a : Array Keyed} {i n : Nat} (h : n <= a.size) : (a.extract i n).size = n - i := by
 rw [Array.size_extract]; lia
theorem qu {a : Array Keyed} {i n : Nat} (h : n <= a.size) (q : Sg key a i n) : (a.extract i n).toList.Pairwise (kl key) := by
 rw [List.pairwise_iff_getElem]
 intro x y hx hy hxy
 have hz := kf (a := a) (i := i) h
 have hx' : x < (a.extract i n).size := by rw [<- Array.length_toList]; exact hx
 have hy' : y < (a.extract i n).size := by rw [<- Array.length_toList]; exact hy
 have g : ∀ z (hz : z < (a.extract i n).toList.length), (a.extract i n).toList[z] = at_ (a.extract i n) z := fun z hz' => by
  have e1 := bx (a := a.extract i n) (i := z) (by rw [<- Array.length_toList]; exact hz')
  rw [List.getElem?_eq_getElem hz'] at e1
  exact Option.some.inj e1
 rw [g x hx, g y hy, ke h (by lia), ke h (by lia)]
 exact q _ _ (by lia) (by lia) (by lia)
theorem gV {a : Array Keyed} {i n : Nat} (h : n <= a.size) {x : Keyed} (hx : x ∈ (a.extract i n).toList) : ∃ j, i <= j /\ j < n /\ x = at_ a j := by
 obtain ⟨j, hj, e⟩ := List.getElem_of_mem hx
 have hj' : j < (a.extract i n).size := by rw [<- Array.length_toList]; exact hj
 have hz := kf (a := a) (i := i) h
 have e1 := bx (a := a.extract i n) (i := j) hj'
 rw [List.getElem?_eq_getElem hj, e] at e1
 refine ⟨i + j, by lia, by lia, ?_⟩
 rw [Option.some.inj e1, ke h (by lia)]
theorem iT {a : Array Keyed} (hP : ∀ x ∈ a.toList, P x) {i : Nat} (h : i < a.size) : P (at_ a i) := hP _ (dA h)
theorem tX {a m : Array Keyed} {lo hi : Nat} (h : hi <= a.size) (hl : lo <= hi) (hm : m.toList.Perm (a.extract lo hi).toList) :
  let a' := (m.toList.zipIdx).foldl (fun a x => a.setIfInBounds (lo + x.2) x.1) a
  a'.Perm a /\ (∀ i, (lo <= i /\ i < hi -> a'[i]? = m[i - lo]?) /\ (¬ (lo <= i /\ i < hi) -> a'[i]? = a[i]?)) := by
 intro a'
 have hlen : m.toList.length = hi - lo := by rw [hm.length_eq]; simp; lia
 have g : ∀ i, a'[i]? = if lo + 0 <= i /\ i < lo + 0 + m.toList.length then m.toList[i - (lo + 0)]? else a[i]? := fun i => qq m.toList a lo 0 i (by lia)
 rw [Nat.add_zero, hlen, show lo + (hi - lo) = hi by lia] at g
 have hz : a'.size = a.size := ka _ _ _ _
 refine ⟨?_, fun i => ⟨fun c => by rw [g, if_pos c, Array.getElem?_toList], fun c => by rw [g, if_neg c]⟩⟩
 have e : a'.toList = a.toList.take lo ++ (m.toList ++ a.toList.drop hi) := by
  apply List.ext_getElem?
  intro i
  rw [Array.getElem?_toList, g, List.getElem?_append, List.getElem?_append]
  have hlt : (a.toList.take lo).length = lo := by simp; lia
  rw [hlt, hlen]
  by_cases c1 : i < lo
  ·rw [if_neg (by lia), if_pos c1, List.getElem?_take, if_pos c1, Array.getElem?_toList]
  ·rw [if_neg c1]
   by_cases c2 : i < hi
   ·rw [if_pos ⟨by lia, c2⟩, if_pos (by lia)]
   ·rw [if_neg (by lia), if_neg (by lia), List.getElem?_drop, Array.getElem?_toList]
    congr 1; lia
 have e2 : a.toList = a.toList.take lo ++ ((a.extract lo hi).toList ++ a.toList.drop hi) := by
  rw [lB a lo hi hl]
  conv => lhs; rw [<- List.take_append_drop hi a.toList, <- List.take_append_drop lo (a.toList.take hi)]
  rw [List.take_take, Nat.min_eq_left hl, List.append_assoc]
 rw [Array.perm_iff_toList_perm, e]
 conv => rhs; rw [e2]
 exact List.Perm.append_left _ (hm.append_right _)
theorem lC (C : fG prog w A s κ O key P) {a0 : Array Keyed} {st : SortSt} {lo i : Nat} {Q : Bool -> SortSt -> Prop} (hP : ∀ x ∈ a0.toList, P x) (g : G κ key a0 st lo) (hi : i + 1 < (pendingOf st).size)
  (h : ∀ st', G κ key a0 st' lo -> (∀ j, lo <= j -> (arrOf st')[j]? = (arrOf st)[j]?) -> (pendingOf st').size + 1 = (pendingOf st).size -> Q true st') : wpS (model prog w) A E s (mergeAt' i) Q st := by
 obtain ⟨sa, na, pw, eA⟩ : ∃ sa na pw, (pendingOf st)[i]? = some (sa, na, pw) := ⟨_, _, _, getElem?_pos _ i (by lia)⟩
 obtain ⟨sb, nb, pw2, eB⟩ : ∃ sb nb pw2, (pendingOf st)[i + 1]? = some (sb, nb, pw2) := ⟨_, _, _, getElem?_pos _ (i + 1) hi⟩
 have eL : (pendingOf st).toList = (pendingOf st).toList.take i ++ (sa, na, pw) :: (sb, nb, pw2) :: (pendingOf st).toList.drop (i + 2) := by
  conv => lhs; rw [<- List.take_append_drop i (pendingOf st).toList]
  congr 1
  rw [<- Array.getElem?_toList] at eA eB
  obtain ⟨l1, q1⟩ := List.getElem?_eq_some_iff.mp eA
  obtain ⟨l2, q2⟩ := List.getElem?_eq_some_iff.mp eB
  rw [List.drop_eq_getElem_cons l1, q1, List.drop_eq_getElem_cons l2, q2]
 have hcov := g.cov
 rw [eL] at hcov
 obtain ⟨k0, c1, c2, c3, c4, c5, c6⟩ := Cov.app.mp hcov
 dsimp only at c2 c3 c4 c5 c6
 subst c2
 have hpost := Cov.le c6
 have hsz : (arrOf st).size = a0.size := g.perm.size_eq
 have hle := g.le
 have hPs : ∀ x ∈ (arrOf st).toList, P x := fun x hx => hP x ((Array.perm_iff_toList_perm.mp g.perm).mem_iff.mp hx)
 have sgA : Sg key (arrOf st) sa (sa + na) := g.srt (sa, na, pw) (by rw [eL]; simp)
 have sgB : Sg key (arrOf st) (sa + na) (sa + na + nb) := by have := g.srt (sb, nb, pw2) (by rw [eL]; simp); dsimp only at this; rwa [c4] at this
 -- the pending runs afterwards
 have pn : (((pendingOf st).setIfInBounds i (sa, na + nb, pw)).eraseIdxIfInBounds (i + 1)).toList = (pendingOf st).toList.take i ++ (sa, na + nb, pw) :: (pendingOf st).toList.drop (i + 2) := by
  rw [Array.eraseIdxIfInBounds, dif_pos (by simp; lia), Array.toList_eraseIdx, Array.toList_setIfInBounds]
  conv => lhs; rw [eL]
  have hl : ((pendingOf st).toList.take i).length = i := by simp; lia
  rw [List.set_append_right _ _ (by lia), hl, Nat.sub_self, List.set_cons_zero, List.eraseIdx_append_of_length_le (by lia), hl, Nat.add_sub_cancel_left, List.eraseIdx_cons_succ, List.eraseIdx_cons_zero]
 have hps : (((pendingOf st).setIfInBounds i (sa, na + nb, pw)).eraseIdxIfInBounds (i + 1)).size + 1 = (pendingOf st).size := by
  rw [<- Array.length_toList, pn]; simp; lia
 -- what is wanted of a state with these runs
 have fin : ∀ st', kindOf st' = κ -> failedOf st' = none -> pendingOf st' = (((pendingOf st).setIfInBounds i (sa, na + nb, pw)).eraseIdxIfInBounds (i + 1)) -> (arrOf st').Perm (arrOf st) -> (∀ j, ¬ (sa <= j /\ j < sa + na + nb) -> (arrOf st')[j]? = (arrOf st)[j]?) ->
   Sg key (arrOf st') sa (sa + na + nb) -> Q true st' := fun st' k1 k2 k3 k4 k5 k6 => by
  refine h st' ⟨k1, k2, k4.trans g.perm, ?_, ?_, hle⟩ (fun j hj => k5 j (by lia)) (by rw [k3]; exact hps)
  ·rw [k3, pn]
   refine Cov.app.mpr ⟨sa, c1, rfl, by show 1 <= na + nb; lia, ?_⟩
   show Cov _ (sa + (na + nb)) lo
   rw [<- Nat.add_assoc]; exact c6
  ·intro x hx
   rw [k3, pn] at hx
   rcases List.mem_append.mp hx with hx | hx
   ·have q := g.srt x (by rw [eL]; exact List.mem_append_left _ hx)
    have r := Cov.mem c1 x hx
    intro i' j' z1 z2 z3
    show O.kle _ _
    rw [aL (k5 i' (by lia)), aL (k5 j' (by lia))]
    exact q i' j' z1 z2 z3
   ·rcases List.mem_cons.mp hx with rfl | hx
    ·show Sg key (arrOf st') sa (sa + (na + nb))
     rw [<- Nat.add_assoc]; exact k6
    ·have q := g.srt x (by rw [eL]; exact List.mem_append_right _ (List.mem_cons_of_mem _ (List.mem_cons_of_mem _ hx)))
     have r := Cov.mem c6 x hx
     intro i' j' z1 z2 z3
     show O.kle _ _
     rw [aL (k5 i' (by lia)), aL (k5 j' (by lia))]
     exact q i' j' z1 z2 z3
 subst c4
 delta mergeAt'
 refine wpS_bind (wpS_get ?_)
 rw [eA, eB]
 dsimp only
 refine wpS_bind (tW ?_)
 refine wpS_bind (ay (show sa + na < (arrOf st).size by lia) (wpS_bind (dv C g.kind (show 0 < na by lia) (show sa + na <= (arrOf st).size by lia) (fun j hj => iT hPs (by lia)) (iT hPs (by lia)) (qr sgA) fun k z1 z2 z3 => ?_)))
 dsimp only
 have low : ∀ j, sa <= j -> j < sa + k -> kl key (at_ (arrOf st) j) (at_ (arrOf st) (sa + na)) := fun j j1 j2 => by
  have := j8 (z2 (j - sa) (by lia)); rwa [show sa + (j - sa) = j by lia] at this
 have high : ∀ j, sa + k <= j -> j < sa + na -> O.klt (key (at_ (arrOf st) (sa + na))) (key (at_ (arrOf st) j)) := fun j j1 j2 => by
  have := qm (z3 (j - sa) (by lia) (by lia)); rwa [show sa + (j - sa) = j by lia] at this
 by_cases e1 : na - k = 0
 ·rw [if_pos (by simpa using e1)]
  refine wpS_pure (fin _ g.kind g.fail rfl (Array.Perm.refl _) (fun _ _ => rfl) fun i' j' y1 y2 y3 => ?_)
  show kl key (at_ (arrOf st) i') (at_ (arrOf st) j')
  by_cases d1 : j' < sa + na
  ·exact sgA i' j' y1 y2 d1
  ·by_cases d2 : i' < sa + na
   ·exact KeyOrd.kle_trans (low i' y1 (by lia)) (sgB _ j' (Nat.le_refl _) (by lia) y3)
   ·exact sgB i' j' (by lia) y2 y3
 rw [if_neg (by simpa using e1)]
 have hlast : sa + k + (na - k) - 1 = sa + na - 1 := by lia
 rw [hlast]
 refine wpS_bind (ay (show sa + na - 1 < (arrOf st).size by lia) (wpS_bind (dv C g.kind (show nb - 1 < nb by lia) (show sa + na + nb <= (arrOf st).size by lia) (fun j hj => iT hPs (by lia)) (iT hPs (by lia)) (qt sgB) fun m y1 y2 y3 => ?_)))
 dsimp only
 have lowB : ∀ j, sa + na <= j -> j < sa + na + m -> O.klt (key (at_ (arrOf st) j)) (key (at_ (arrOf st) (sa + na - 1))) := fun j j1 j2 => by
  have := gS (y2 (j - (sa + na)) (by lia)); rwa [show sa + na + (j - (sa + na)) = j by lia] at this
 have highB : ∀ j, sa + na + m <= j -> j < sa + na + nb -> kl key (at_ (arrOf st) (sa + na - 1)) (at_ (arrOf st) j) := fun j j1 j2 => by
  have := j9 (y3 (j - (sa + na)) (by lia) (by lia)); rwa [show sa + na + (j - (sa + na)) = j by lia] at this
 by_cases e2 : m = 0
 ·rw [if_pos (by simpa using e2)]
  refine wpS_pure (fin _ g.kind g.fail rfl (Array.Perm.refl _) (fun _ _ => rfl) fun i' j' x1 x2 x3 => ?_)
  show kl key (at_ (arrOf st) i') (at_ (arrOf st) j')
  by_cases d1 : j' < sa + na
  ·exact sgA i' j' x1 x2 d1
  ·by_cases d2 : i' < sa + na
   ·exact KeyOrd.kle_trans (sgA i' (sa + na - 1) x1 (by lia) (by lia)) (highB j' (by lia) x3)
   ·exact sgB i' j' (by lia) x2 x3
 rw [if_neg (by simpa using e2)]
 have hx1 : sa + na <= (arrOf st).size := by lia
 have hx2 : sa + na + m <= (arrOf st).size := by lia
 have sx := kf (a := arrOf st) (i := sa + k) hx1
 have sy := kf (a := arrOf st) (i := sa + na) hx2
 have srX := qu (key := key) (i := sa + k) hx1 (fun i' j' a1 a2 a3 => sgA i' j' (by lia) a2 a3)
 have srY := qu (key := key) (i := sa + na) hx2 (fun i' j' a1 a2 a3 => sgB i' j' a1 a2 (by lia))
 have PX : ∀ x ∈ ((arrOf st).extract (sa + k) (sa + na)).toList, P x := fun x hx => by obtain ⟨j, j1, j2, rfl⟩ := gV hx1 hx; exact iT hPs (by lia)
 have PY : ∀ x ∈ ((arrOf st).extract (sa + na) (sa + na + m)).toList, P x := fun x hx => by obtain ⟨j, j1, j2, rfl⟩ := gV hx2 hx; exact iT hPs (by lia)
 have H0 : ∀ y ∈ ((arrOf st).extract (sa + k) (sa + na)).toList, kl key (at_ ((arrOf st).extract (sa + na) (sa + na + m)) 0) y := fun y hy => by
  obtain ⟨j, j1, j2, rfl⟩ := gV hx1 hy
  rw [ke hx2 (by lia), Nat.add_zero]
  exact KeyOrd.kle_of_klt (high j j1 j2)
 have HL : ∀ x ∈ ((arrOf st).extract (sa + na) (sa + na + m)).toList, kl key x (at_ ((arrOf st).extract (sa + k) (sa + na)) (((arrOf st).extract (sa + k) (sa + na)).size - 1)) := fun x hx => by
  obtain ⟨j, j1, j2, rfl⟩ := gV hx2 hx
  rw [sx, ke hx1 (by lia), show sa + k + (sa + na - (sa + k) - 1) = sa + na - 1 by lia]
  exact KeyOrd.kle_of_klt (lowB j j1 j2)
 have eXY : ((arrOf st).extract (sa + k) (sa + na + m)).toList = ((arrOf st).extract (sa + k) (sa + na)).toList ++ ((arrOf st).extract (sa + na) (sa + na + m)).toList := by
  rw [<- Array.toList_append, Array.extract_append_extract]
  congr 2 <;> lia
 -- the end, by either way
 have done : ∀ (r : Array Keyed) (st1 : SortSt), kindOf st1 = κ -> failedOf st1 = none -> pendingOf st1 = (((pendingOf st).setIfInBounds i (sa, na + nb, pw)).eraseIdxIfInBounds (i + 1)) -> arrOf st1 = arrOf st ->
   Res (kl key) ((arrOf st).extract (sa + k) (sa + na)).toList ((arrOf st).extract (sa + na) (sa + na + m)).toList r.toList ->
   Q true (SortSt.mk' (kindOf st1) ((r.toList.zipIdx).foldl (fun a x => a.setIfInBounds (sa + k + x.2) x.1) (arrOf st1)) (pendingOf st1) (gallopOf st1) (failedOf st1)) := fun r st1 k1 k2 k3 k4 R => by
  rw [k4]
  obtain ⟨R1, R2⟩ := R
  rw [<- eXY] at R1
  obtain ⟨b1, b2⟩ := tX (a := arrOf st) (m := r) (lo := sa + k) (hi := sa + na + m) hx2 (by lia) R1
  generalize (r.toList.zipIdx).foldl (fun a x => a.setIfInBounds (sa + k + x.2) x.1) (arrOf st) = a' at b1 b2 ⊢
  have hrl : r.size = sa + na + m - (sa + k) := by have := R1.length_eq; rw [Array.length_toList, Array.length_toList, kf hx2] at this; exact this
  have mid : ∀ j, sa + k <= j -> j < sa + na + m -> at_ a' j = at_ r (j - (sa + k)) := fun j j1 j2 => aL ((b2 j).1 ⟨j1, j2⟩)
  have out : ∀ j, ¬ (sa + k <= j /\ j < sa + na + m) -> at_ a' j = at_ (arrOf st) j := fun j hj => aL ((b2 j).2 hj)
  have midv : ∀ j, sa + k <= j -> j < sa + na + m -> ∃ t, sa + k <= t /\ t < sa + na + m /\ at_ a' j = at_ (arrOf st) t := fun j j1 j2 => by
   have hm : at_ r (j - (sa + k)) ∈ r.toList := dA (by lia)
   obtain ⟨t, t1, t2, t3⟩ := gV hx2 (R1.mem_iff.mp hm)
   exact ⟨t, t1, t2, by rw [mid j j1 j2, t3]⟩
  refine fin _ k1 k2 k3 b1 (fun j hj => (b2 j).2 (by lia)) fun i' j' x1 x2 x3 => ?_
  show kl key (at_ a' i') (at_ a' j')
  by_cases d1 : i' < sa + k
  ·rw [out i' (by lia)]
   by_cases d2 : j' < sa + k
   ·rw [out j' (by lia)]; exact sgA i' j' x1 x2 (by lia)
   ·by_cases d3 : j' < sa + na + m
    ·obtain ⟨t, t1, t2, t3⟩ := midv j' (by lia) d3
     rw [t3]
     by_cases d4 : t < sa + na
     ·exact sgA i' t x1 (by lia) d4
     ·exact KeyOrd.kle_trans (low i' x1 d1) (sgB _ t (Nat.le_refl _) (by lia) (by lia))
    ·rw [out j' (by lia)]
     exact KeyOrd.kle_trans (low i' x1 d1) (sgB _ j' (Nat.le_refl _) (by lia) x3)
  ·by_cases d2 : i' < sa + na + m
   ·by_cases d3 : j' < sa + na + m
    ·rw [mid i' (by lia) d2, mid j' (by lia) d3]
     exact dB R2 (by lia) (by lia)
    ·obtain ⟨t, t1, t2, t3⟩ := midv i' (by lia) d2
     rw [t3, out j' (by lia)]
     by_cases d4 : t < sa + na
     ·exact KeyOrd.kle_trans (sgA t (sa + na - 1) (by lia) (by lia) (by lia)) (highB j' (by lia) x3)
     ·exact sgB t j' (by lia) (by lia) x3
   ·rw [out i' (by lia), out j' (by lia)]
    exact sgB i' j' (by lia) x2 x3
 by_cases hcase : na - k <= m
 ·rw [if_pos hcase]
  refine wpS_bind (yI C g.kind (show 0 < ((arrOf st).extract (sa + k) (sa + na)).size by rw [sx]; lia) (show 0 < ((arrOf st).extract (sa + na) (sa + na + m)).size by rw [sy]; lia) PX PY srX srY H0 HL fun r st1 S R => ?_)
  refine wpS_bind (wpS_modify (wpS_bind (wpS_get ?_)))
  have hf : failedOf st1 = none := S.2.2.2.trans g.fail
  show wpS _ _ _ _ (pure (failedOf st1).isNone) _ _
  rw [hf]
  exact wpS_pure (done r st1 (S.1.trans g.kind) hf S.2.2.1 S.2.1 R)
 ·rw [if_neg hcase]
  refine wpS_bind (yJ C g.kind (show 0 < ((arrOf st).extract (sa + k) (sa + na)).size by rw [sx]; lia) (show 0 < ((arrOf st).extract (sa + na) (sa + na + m)).size by rw [sy]; lia) PX PY srX srY H0 HL fun r st1 S R => ?_)
  refine wpS_bind (wpS_modify (wpS_bind (wpS_get ?_)))
  have hf : failedOf st1 = none := S.2.2.2.trans g.fail
  show wpS _ _ _ _ (pure (failedOf st1).isNone) _ _
  rw [hf]
  exact wpS_pure (done r st1 (S.1.trans g.kind) hf S.2.2.1 S.2.1 R)
end
end Tim
end
section
namespace Tim
open PySem PyProof.Rows
def bare (x : Nat × Nat × Nat) : Nat × Nat := (x.1, x.2.1)
theorem Cov.bare : ∀ {l m : List (Nat × Nat × Nat)} {f t : Nat}, l.map bare = m.map bare -> Cov l f t -> Cov m f t
 | [], [], _, _, _, h => h
 | [], _ :: _, _, _, e, _ => by cases e
 | _ :: _, [], _, _, e, _ => by cases e
 | x :: l, y :: m, f, t, e, ⟨h1, h2, h3⟩ => by
  have e' := List.cons.inj e
  have e1 : x.1 = y.1 := (Prod.mk.inj e'.1).1
  have e2 : x.2.1 = y.2.1 := (Prod.mk.inj e'.1).2
  exact ⟨e1 ▸ h1, e2 ▸ h2, e2 ▸ Cov.bare e'.2 h3⟩
theorem qv (l : List (Nat × Nat × Nat)) (i pw : Nat) : (l.modify i fun x => (x.1, x.2.1, pw)).map bare = l.map bare := by
 apply List.ext_getElem?
 intro j
 rw [List.getElem?_map, List.getElem?_map, List.getElem?_modify]
 cases l[j]? with
 | none => rfl
 | some x => by_cases h : i = j <;> simp [h, bare]
section
variable {prog : Program} {w : World} {A : Around} {E : Value -> Shared -> Prop} {s : Shared} {κ : SortKind} {O : KeyOrd} {key : Keyed -> O.α} {P : Keyed -> Prop}
theorem G.push {a0 : Array Keyed} {st : SortSt} {lo n : Nat} (g : G κ key a0 st lo) (S : Sg key (arrOf st) lo (lo + n)) (h1 : 1 <= n) (h2 : lo + n <= a0.size) : G κ key a0 (setPending st ((pendingOf st).push (lo, n, 0))) (lo + n) := by
 have e : (pendingOf (setPending st ((pendingOf st).push (lo, n, 0)))).toList = (pendingOf st).toList ++ [(lo, n, 0)] := Array.toList_push ..
 refine ⟨g.kind, g.fail, g.perm, ?_, fun x hx => ?_, h2⟩
 ·rw [e]; exact Cov.app.mpr ⟨lo, g.cov, rfl, h1, rfl⟩
 ·rw [e] at hx
  rcases List.mem_append.mp hx with hx | hx
  ·exact g.srt x hx
  ·rw [List.mem_singleton] at hx; subst hx; exact S
theorem G.pow {a0 : Array Keyed} {st : SortSt} {lo : Nat} (g : G κ key a0 st lo) (i pw : Nat) : G κ key a0 (setPending st ((pendingOf st).modify i fun x => (x.1, x.2.1, pw))) lo := by
 have e : (pendingOf (setPending st ((pendingOf st).modify i fun x => (x.1, x.2.1, pw)))).toList = (pendingOf st).toList.modify i fun x => (x.1, x.2.1, pw) := Array.toList_modify ..
 have b := qv (pendingOf st).toList i pw
 refine ⟨g.kind, g.fail, g.perm, ?_, fun x hx => ?_, g.le⟩
 ·rw [e]; exact Cov.bare b.symm g.cov
 ·rw [e] at hx
  have hb : bare x ∈ ((pendingOf st).toList.map bare) := by rw [<- b]; exact List.mem_map_of_mem hx
  obtain ⟨y, hy, ey⟩ := List.mem_map.mp hb
  have q := g.srt y hy
  have e1 : y.1 = x.1 := (Prod.mk.inj ey).1
  have e2 : y.2.1 = x.2.1 := (Prod.mk.inj ey).2
  rw [e1, e2] at q
  exact q
theorem Sg.keep {a b : Array Keyed} {lo hi : Nat} (h : Sg key a lo hi) (e : ∀ j, lo <= j -> b[j]? = a[j]?) : Sg key b lo hi := fun i j z1 z2 z3 => by
 rw [aL (e i z1), aL (e j (by lia))]; exact h i j z1 z2 z3
theorem tY (C : fG prog w A s κ O key P) {st : SortSt} {Q : Unit -> SortSt -> Prop} (hP : ∀ x ∈ (arrOf st).toList, P x) (hk : kindOf st = κ) (hf : failedOf st = none) (hp : pendingOf st = #[]) (h1 : 1 <= (arrOf st).size)
  (h : ∀ st', (arrOf st').Perm (arrOf st) -> failedOf st' = none -> (arrOf st').toList.Pairwise (kl key) -> Q () st') : wpS (model prog w) A E s sortRuns' Q st := by
 have g0 : G κ key (arrOf st) st 0 := ⟨hk, hf, Array.Perm.refl _, by rw [hp]; rfl, (fun x hx => by rw [hp] at hx; cases hx), Nat.zero_le _⟩
 rw [sortRuns'_eq]
 refine wpS_bind (wpS_get ?_)
 dsimp only
 refine wpS_bind (wpS_mono (wpS_forRange (I := fun x c st1 => ∃ lo, c = (none, lo) /\ x <= lo /\ G κ key (arrOf st) st1 lo) (Q := fun c st1 => c = (none, (arrOf st).size) /\ G κ key (arrOf st) st1 (arrOf st).size) ?step ?fin ⟨0, rfl, Nat.le_refl _, g0⟩) ?post)
 case fin =>
  rintro c st1 ⟨lo, rfl, hx, g⟩
  have := g.le
  have e : lo = (arrOf st).size := by lia
  subst e; exact ⟨rfl, g⟩
 case post =>
  rintro c st1 ⟨rfl, g⟩
  dsimp only
  refine wpS_bind (wpS_mono (wpS_forRange (I := fun x c st2 => c = (none, ()) /\ (pendingOf st2).size + x <= (arrOf st).size /\ G κ key (arrOf st) st2 (arrOf st).size) (Q := fun c st2 => c = (none, ()) /\ (pendingOf st2).size <= 1 /\ G κ key (arrOf st) st2 (arrOf st).size) ?ls ?lf ⟨rfl, by have := g.cov.le; rw [Array.length_toList] at this; lia, g⟩) ?lp)
  case lf =>
   rintro c st2 ⟨rfl, b1, g2⟩
   exact ⟨rfl, by lia, g2⟩
  case ls =>
   rintro x c st2 _ hx ⟨rfl, b1, g2⟩
   refine wpS_bind (wpS_get ?_)
   by_cases hp1 : (pendingOf st2).size <= 1
   ·rw [if_pos hp1]; exact wpS_pure ⟨rfl, hp1, g2⟩
   rw [if_neg hp1]
   have hi : ∀ b : Bool, (if b = true then (pendingOf st2).size - 2 - 1 else (pendingOf st2).size - 2) + 1 < (pendingOf st2).size := fun b => by
    cases b with
    | true => rw [if_pos rfl]; lia
    | false => rw [if_neg (by simp)]; lia
   refine wpS_bind (lC C hP g2 (hi _) fun st3 g3 _ b3 => ?_)
   rw [if_neg (by simp)]
   exact wpS_pure ⟨rfl, by lia, g3⟩
  case lp =>
   rintro c st2 ⟨rfl, b1, g2⟩
   refine wpS_pure (h st2 g2.perm g2.fail ?_)
   have hz : (arrOf st2).size = (arrOf st).size := g2.perm.size_eq
   have S : Sg key (arrOf st2) 0 (arrOf st).size := by
    have c := g2.cov
    have q := g2.srt
    rw [<- Array.length_toList] at b1
    match hl : (pendingOf st2).toList, b1 with
    | [], _ => rw [hl] at c; have c : 0 = (arrOf st).size := c; lia
    | [x], _ =>
     rw [hl] at c q
     obtain ⟨c1, _, c3⟩ := c
     have := q x List.mem_cons_self
     have c3 : 0 + x.2.1 = (arrOf st).size := c3
     rwa [c1, c3] at this
    | _ :: _ :: _, b1 => simp only [List.length_cons] at b1; lia
   rw [List.pairwise_iff_getElem]
   intro i j hi hj hij
   have gt : ∀ z (hz : z < (arrOf st2).toList.length), (arrOf st2).toList[z] = at_ (arrOf st2) z := fun z hz' => by
    have e1 := bx (a := arrOf st2) (i := z) (by rw [<- Array.length_toList]; exact hz')
    rw [List.getElem?_eq_getElem hz'] at e1
    exact Option.some.inj e1
   rw [gt i hi, gt j hj]
   rw [Array.length_toList] at hi hj
   exact S i j (Nat.zero_le _) (by lia) (by lia)
 case step =>
  rintro x c st1 _ hx ⟨lo, rfl, hxl, g⟩
  have hle := g.le
  have hsz : (arrOf st1).size = (arrOf st).size := g.perm.size_eq
  dsimp only
  by_cases hge : lo >= (arrOf st).size
  ·rw [if_pos hge]
   have e : lo = (arrOf st).size := by lia
   subst e; exact wpS_pure ⟨rfl, g⟩
  rw [if_neg hge]
  have hPs : ∀ x ∈ (arrOf st1).toList, P x := fun x hx => hP x ((Array.perm_iff_toList_perm.mp g.perm).mem_iff.mp hx)
  have step : ∀ {st2 : SortSt}, Mv lo st1 st2 -> G κ key (arrOf st) st2 lo := fun {st2} M => by
   refine ⟨M.kind.trans g.kind, M.fail.trans g.fail, M.perm.trans g.perm, by rw [M.pend]; exact g.cov, fun x hx => ?_, hle⟩
   rw [M.pend] at hx
   have q := g.srt x hx
   have r := g.cov.mem x hx
   intro i j z1 z2 z3
   rw [aL (M.pre i (by lia)), aL (M.pre j (by lia))]
   exact q i j z1 z2 z3
  refine wpS_bind (yK C g.kind hPs (by lia) (by lia) fun n st2 M2 n1 n2 S2 => ?_)
  dsimp only
  by_cases hm : n < minRun' (arrOf st).size (arrOf st).size 0
  ·rw [if_pos hm]
   refine wpS_bind (wpS_lift (wpAny_rule ⟨rfl, ?_⟩))
   have hz2 : (arrOf st2).size = (arrOf st).size := M2.size.trans hsz
   refine wpS_bind (yL C (M2.kind.trans g.kind) (M2.all hPs) (by rw [hz2]; lia) n1 (by lia) S2 fun st3 M3 S3 => ?_)
   rw [if_neg (by simp)]
   have M4 : Mv lo st1 st3 := ⟨M3.kind.trans M2.kind, M3.pend.trans M2.pend, M3.fail.trans M2.fail, M3.perm.trans M2.perm, fun i hi => (M3.pre i hi).trans (M2.pre i hi)⟩
   have g4 := step M4
   have n3 : 1 <= min ((arrOf st).size - lo) (minRun' (arrOf st).size (arrOf st).size 0) := by lia
   have n4 : lo + min ((arrOf st).size - lo) (minRun' (arrOf st).size (arrOf st).size 0) <= (arrOf st).size := by lia
   generalize min ((arrOf st).size - lo) (minRun' (arrOf st).size (arrOf st).size 0) = N at S3 n3 n4 ⊢
   refine wpS_bind (wpS_get ?_)
   cases hb : (pendingOf st3).back? with
   | none =>
    dsimp only
    exact wpS_bind (wpS_modify (wpS_pure ⟨_, rfl, by lia, g4.push S3 n3 n4⟩))
   | some z =>
    obtain ⟨s1, l1, p1⟩ := z
    dsimp only
    refine wpS_bind (wpS_mono (wpS_forRange (I := fun _ c st5 => c = (none, ()) /\ G κ key (arrOf st) st5 lo /\ Sg key (arrOf st5) lo (lo + N)) (Q := fun c st5 => c = (none, ()) /\ G κ key (arrOf st) st5 lo /\ Sg key (arrOf st5) lo (lo + N)) ?ms ?mf ⟨rfl, g4, S3⟩) ?mp)
    case mf => rintro c st5 z; exact z
    case ms =>
     rintro y c st5 _ hy ⟨rfl, g5, S5⟩
     refine wpS_bind (wpS_get ?_)
     by_cases hp2 : (pendingOf st5).size > 1
     ·rw [if_pos hp2]
      obtain ⟨u1, u2, u3, hu⟩ : ∃ u1 u2 u3, (pendingOf st5)[(pendingOf st5).size - 2]? = some (u1, u2, u3) := ⟨_, _, _, getElem?_pos _ _ (by lia)⟩
      rw [hu]
      dsimp only
      split
      ·exact wpS_pure ⟨rfl, g5, S5⟩
      ·refine wpS_bind (lC C hP g5 (by lia) fun st6 g6 k6 _ => ?_)
       rw [if_neg (by simp)]
       exact wpS_pure ⟨rfl, g6, S5.keep k6⟩
     ·rw [if_neg hp2]
      exact wpS_pure ⟨rfl, g5, S5⟩
    case mp =>
     rintro c st5 ⟨rfl, g5, S5⟩
     dsimp only
     exact wpS_bind (wpS_modify (wpS_bind (wpS_modify (wpS_pure ⟨_, rfl, by lia, (g5.pow _ _).push S5 n3 n4⟩))))
  ·rw [if_neg hm]
   have g4 := step M2
   have n4 : lo + n <= (arrOf st).size := by lia
   refine wpS_bind (wpS_get ?_)
   cases hb : (pendingOf st2).back? with
   | none =>
    dsimp only
    exact wpS_bind (wpS_modify (wpS_pure ⟨_, rfl, by lia, g4.push S2 n1 n4⟩))
   | some z =>
    obtain ⟨s1, l1, p1⟩ := z
    dsimp only
    refine wpS_bind (wpS_mono (wpS_forRange (I := fun _ c st5 => c = (none, ()) /\ G κ key (arrOf st) st5 lo /\ Sg key (arrOf st5) lo (lo + n)) (Q := fun c st5 => c = (none, ()) /\ G κ key (arrOf st) st5 lo /\ Sg key (arrOf st5) lo (lo + n)) ?ms ?mf ⟨rfl, g4, S2⟩) ?mp)
    case mf => rintro c st5 z; exact z
    case ms =>
     rintro y c st5 _ hy ⟨rfl, g5, S5⟩
     refine wpS_bind (wpS_get ?_)
     by_cases hp2 : (pendingOf st5).size > 1
     ·rw [if_pos hp2]
      obtain ⟨u1, u2, u3, hu⟩ : ∃ u1 u2 u3, (pendingOf st5)[(pendingOf st5).size - 2]? = some (u1, u2, u3) := ⟨_, _, _, getElem?_pos _ _ (by lia)⟩
      rw [hu]
      dsimp only
      split
      ·exact wpS_pure ⟨rfl, g5, S5⟩
      ·refine wpS_bind (lC C hP g5 (by lia) fun st6 g6 k6 _ => ?_)
       rw [if_neg (by simp)]
       exact wpS_pure ⟨rfl, g6, S5.keep k6⟩
     ·rw [if_neg hp2]
      exact wpS_pure ⟨rfl, g5, S5⟩
    case mp =>
     rintro c st5 ⟨rfl, g5, S5⟩
     dsimp only
     exact wpS_bind (wpS_modify (wpS_bind (wpS_modify (wpS_pure ⟨_, rfl, by lia, (g5.pow _ _).push S5 n1 n4⟩))))
end
end Tim
end
section
namespace Tim
open PySem PyProof.Rows L2
section
variable {prog : Program} {w : World} {A : Around} {E : Value -> Shared -> Prop} {s : Shared} {κ : SortKind} {O : KeyOrd} {key : Keyed -> O.α} {P : Keyed -> Prop}
def bf (h : Heap) (a : Addr) (vs : List Value) : Heap := ((h.update a (Obj.mapSeq fun _ => #[])).push (seqObj "tuple" vs.toArray 0)).push (seqObj "list" #[] 0)
theorem tZ {h : Heap} {a b : Addr} {vs : List Value} {o : Obj} (hb : b ≠ a) (e : h.get? b = some o) : (bf h a vs).get? b = some o :=
 Heap.get?_push_of_some _ (Heap.get?_push_of_some _ (((Heap.SameBut.update h a _).2 b hb).trans e))
theorem qx (vs : List Value) : (vs.toArray.zip vs.toArray).toList = vs.map fun v => (v, v) := by
 apply List.ext_getElem <;> simp
theorem qy {a : Addr} {vs : List Value} {n : Nat} {R : PySem.Fin -> Shared -> Prop} (ho : s.heap.get? a = some (seqObj "list" vs.toArray n)) (h2 : 2 <= vs.length) (hz : vs.length <= sizeLine)
  (hk : ∀ Q' : SortKind -> Shared -> Prop, Q' κ { s with heap := bf s.heap a vs } -> wpAny (model prog w) A (keyKind' vs.toArray) Q' E { s with heap := bf s.heap a vs })
  (C : fG prog w A { s with heap := bf s.heap a vs } κ O key P) (hP : ∀ v ∈ vs, P (v, v))
  (h : ∀ out : List Value, out.Perm vs -> out.Pairwise (fun x y => O.kle (key (x, x)) (key (y, y))) -> R (.done (.ret .none)) { s with heap := sortedHeap s.heap a vs out.toArray }) :
  wpAny (model prog w) A (Builtin.«list.sort» ⟨[.ref a], []⟩) R E s := by
 have many : ¬ vs.toArray.size < 2 := by rw [List.size_toArray]; lia
 obtain ⟨e, he⟩ : ∃ e, (s.heap.update a (Obj.mapSeq fun _ => #[])).get? a = some (seqObj "list" #[] e) := ⟨_, get?_update_seq ho (fun _ => #[])⟩
 rw [list_sort_plain]
 refine wpAny_bind (listItems_at ho rfl (wpAny_bind (listUpdate_at ho rfl (wpAny_bind (seqEpoch_at he rfl (wpAny_bind (wpAny_newTuple (wpAny_bind (wpAny_newList (wpAny_holding ?_))) (hsz := hz))))) (by rw [List.size_toArray]; lia))))
 have he2 : (bf s.heap a vs).get? a = some (seqObj "list" #[] e) := Heap.get?_push_of_some _ (Heap.get?_push_of_some _ he)
 dsimp only
 rw [if_neg many, if_neg many]
 refine wpAny_bind (hk _ ?_)
 have hl0 : (arrOf (SortSt.mk' κ (vs.toArray.zip vs.toArray) #[] 7 none)).toList = vs.map fun v => (v, v) := qx vs
 refine wpAny_bind (wpAny_mono (tY (E := E) C (st := SortSt.mk' κ (vs.toArray.zip vs.toArray) #[] 7 none) (Q := fun _ st' => (arrOf st').toList.Perm (vs.map fun v => (v, v)) /\ failedOf st' = none /\ (arrOf st').toList.Pairwise (kl key))
  (fun x hx => ?_) rfl rfl rfl ?_ fun st' q1 q2 q3 => ⟨?_, q2, q3⟩) ?_ fun _ _ z => z)
 ·rw [hl0] at hx
  obtain ⟨v, hv, rfl⟩ := List.mem_map.mp hx
  exact hP v hv
 ·rw [<- Array.length_toList, hl0, List.length_map]; lia
 ·rw [<- hl0]; exact Array.perm_iff_toList_perm.mp q1
 rintro ⟨⟨⟩, st'⟩ s' ⟨rfl, pm, hf, pw⟩
 dsimp only
 have same : ∀ x ∈ (arrOf st').toList, x = (x.2, x.2) := fun x hx => by
  obtain ⟨v, _, rfl⟩ := List.mem_map.mp (pm.mem_iff.mp hx); rfl
 have eo : (arrOf st').map (·.2) = ((arrOf st').toList.map (·.2)).toArray := by apply Array.ext' ; simp
 have p2 : ((arrOf st').toList.map (·.2)).Perm vs := by have := pm.map (·.2); rw [List.map_map] at this; simpa [Function.comp_def] using this
 have w2 : ((arrOf st').toList.map (·.2)).Pairwise (fun x y => O.kle (key (x, x)) (key (y, y))) := by
  rw [List.pairwise_map]
  refine List.Pairwise.imp_of_mem (fun {x y} hx hy q => ?_) pw
  have q : O.kle (key x) (key y) := q
  rw [same x hx, same y hy] at q
  exact q
 refine wpAny_bind (seqEpoch_at he2 rfl (wpAny_bind (listUpdate_at he2 rfl ?_ (hsz2 := by rw [eo, List.size_toArray, p2.length_eq]; lia))))
 rw [eo, hf]
 simp only [bne_self_eq_false, Bool.false_eq_true, if_false]
 exact wpAny_pure (h _ p2 w2)
def bJ (h : Heap) (vs : List Value) : Heap := ((h.push (seqObj "list" #[] 0)).update h.objs.size (Obj.mapSeq (· ++ vs.toArray))).push (seqObj "list" vs.toArray 0)
theorem pre_size (h : Heap) (vs : List Value) : ((h.push (seqObj "list" #[] 0)).update h.objs.size (Obj.mapSeq (· ++ vs.toArray))).objs.size = h.objs.size + 1 := by rw [Heap.size_update, size_push']
theorem mM {h : Heap} {b : Addr} {vs : List Value} {o : Obj} (e : h.get? b = some o) : (bf (bJ h vs) (h.objs.size + 1) vs).get? b = some o := by
 have hb : b < h.objs.size := Heap.lt_size e
 refine tZ (Nat.ne_of_lt (Nat.lt_succ_of_lt hb)) (Heap.get?_push_of_some _ (((Heap.SameBut.update _ _ _).2 b (Nat.ne_of_lt hb)).trans (Heap.get?_push_of_some _ e)))
theorem lD {l : Addr} {vs : List Value} {Q : Value -> Shared -> Prop} (hl : s.heap.IsList l vs.toArray) (h2 : 2 <= vs.length) (hz : vs.length <= sizeLine)
  (hk : ∀ Q' : SortKind -> Shared -> Prop, Q' κ { s with heap := bf (bJ s.heap vs) (s.heap.objs.size + 1) vs } -> wpAny (model prog w) A.in1.in1 (keyKind' vs.toArray) Q' E { s with heap := bf (bJ s.heap vs) (s.heap.objs.size + 1) vs })
  (C : fG prog w A.in1.in1 { s with heap := bf (bJ s.heap vs) (s.heap.objs.size + 1) vs } κ O key P) (hP : ∀ v ∈ vs, P (v, v))
  (h : ∀ out : List Value, out.Perm vs -> out.Pairwise (fun x y => O.kle (key (x, x)) (key (y, y))) -> Q (.ref (s.heap.objs.size + 1)) { s with heap := sortedAll s.heap vs out.toArray }) :
  wpAny (model prog w) A (call (.builtin "sorted") [.ref l]) Q E s := by
 have z1 := pre_size s.heap vs
 have z2 : (bJ s.heap vs).get? (s.heap.objs.size + 1) = some (seqObj "list" vs.toArray 0) := z1 ▸ Heap.get?_push_size _ rfl
 have col := fun R r => collect_list (prog := prog) (w := w) (A := A.in1) (E := E) (Q := R) hl r hz
 refine Calls.call_function_entry kind_sorted plain_sorted entry_sorted (args_sorted1 _) (wpAny_bind (m := checkCount "sorted" 1 1 _) (wpAny_pure (wpAny_bind (m := collect (.ref l)) (col _ (wpAny_bind (wpAny_newList ?_ (hsz := hz)))))))
 dsimp only
 rw [z1]
 refine wpAny_bind (wpAny_holding (wpAny_call_entry slot_list_sort ⟨_, z2, rfl⟩ entry_list_sort (qy (κ := κ) (O := O) (key := key) (P := P) z2 h2 hz hk C hP fun out p q => ⟨_, rfl, wpAny_pure ⟨_, rfl, h out p q⟩⟩) (args_list_sort _)))
def dec (h : Heap) : Value -> List Int
 | .ref p => match h.get? p with
  | some o => match o.data with
   | .seq xs _ => xs.toList.map numOf
   | _ => []
  | none => []
 | _ => []
def IsT (h : Heap) (v : Value) (ns : List Int) : Prop := ∃ p its, v = .ref p /\ IsTup h p (List.toArray its) /\ Vals (ns.map V.int) its
theorem iU : ∀ {ns : List Int} {its : List Value}, Vals (ns.map V.int) its -> its.map numOf = ns
 | [], its, h => by have h : Vals [] its := h; cases h; rfl
 | n :: ns, its, h => by
  have h : Vals (V.int n :: ns.map V.int) its := h
  cases h with
  | cons a b => obtain ⟨t, rfl⟩ := a; rw [List.map_cons, iU b]; rfl
theorem IsT.dec {h : Heap} {v : Value} (q : IsT h v ns) : dec h v = ns := by
 obtain ⟨p, its, rfl, ⟨o, ho, _, n, hd⟩, r⟩ := q
 unfold Tim.dec
 dsimp only
 rw [ho]
 dsimp only
 rw [hd]
 dsimp only
 exact iU r
theorem nN {h : Heap} : fG prog w A { s with heap := h } (tuples' true) lexOrd (fun x => dec h x.1) (fun x => ∃ ns, IsT h x.1 ns) := by
 intro x y C hx hy q
 obtain ⟨ns, hx⟩ := hx
 obtain ⟨ms, hy⟩ := hy
 have q : C (HT.lexLt (dec h x.1) (dec h y.1)) { s with heap := h } := q
 rw [hx.dec, hy.dec] at q
 obtain ⟨p, us, ex, ⟨o, ho, _, n, hd⟩, r⟩ := hx
 obtain ⟨p', vs, ey, ⟨o', ho', _, n', hd'⟩, r'⟩ := hy
 rw [ex, ey]
 exact PySem.W.kat_lt (s := { s with heap := h }) ho hd ho' hd' (sG ns ms 0 r r' (by simp) q)
end
end Tim
namespace L2
open PySem PySem.Spec PyProof.Rows
def qz (K : PySem.W.Frag) : List V -> Hp -> VK -> Prop := fun xs H Q => ∃ (l : Addr) (ps : List Addr) (mss : List (List Int)), xs = [.ref l] /\ SqL K H l (ps.map V.ref) /\ Tups K H ps mss /\ (∀ ms ∈ mss, ms ≠ []) /\
 ∀ (D : Addr) (ps' : List Addr), H D = none -> Tups K H ps' (srt mss) -> Q (.ref D) (upd H D (.lst (ps'.map V.ref)))
def adr : Value -> Addr
 | .ref a => a
 | _ => 0
theorem mO (f : Addr -> List Int) : ∀ {ps : List Addr}, (∀ p ∈ ps, SqT K H p ((f p).map V.int)) -> Tups K H ps (ps.map f)
 | [], _ => .nil
 | p :: ps, h => .cons (h p List.mem_cons_self) (mO f fun q hq => h q (List.mem_cons_of_mem _ hq))
theorem iV (f : Addr -> List Int) : ∀ {ps : List Addr} {mss : List (List Int)}, Tups K H ps mss -> (∀ p ms, SqT K H p (ms.map V.int) -> f p = ms) -> ps.map f = mss /\ ∀ p ∈ ps, SqT K H p ((f p).map V.int)
 | _, _, .nil, _ => ⟨rfl, fun _ h => nomatch h⟩
 | _, _, .cons h t, hf => by
  obtain ⟨e, q⟩ := iV f t hf
  refine ⟨by rw [List.map_cons, e, hf _ _ h], fun p hp => ?_⟩
  rcases List.mem_cons.mp hp with rfl | hp
  ·rw [hf _ _ h]; exact h
  ·exact q p hp
theorem lE {X : Cx} : bO X (.builtin "sorted") (qz X.K) := by
 intro pins s σ H xs us Q I r h
 obtain ⟨l, ps, mss, rfl, hl, ht, hne, q⟩ := h
 obtain ⟨u, rfl, rx⟩ := vals1 r
 cases rx
 obtain ⟨vs, rv, pl, hz⟩ := I.list hl
 have hlen : ps.length = mss.length := Paired.length ht
 have evs := fx rv
 subst evs
 rw [List.length_map] at hz
 by_cases h2 : ps.length < 2
 ·refine kO pl.isList (by simpa using h2) ?_
  obtain ⟨e, he⟩ := sortedAll_at s.heap (ps.map Value.ref) (ps.map Value.ref).toArray
  have es : srt mss = mss := (kN (List.Perm.refl _) (by
   match mss, hlen with
   | [], _ => exact List.Pairwise.nil
   | [_], _ => simp
   | _ :: _ :: _, hl => simp at hl; lia)).symm
  exact ⟨.ref (s.heap.objs.size + 1), _, I.laid (t' := s.toks) (o := .lst (ps.map V.ref)) (fun b o e => sortedAll_old e) (Nat.le_succ _) ⟨by rw [List.length_map]; exact hz, _, e, rv, he⟩, rfl, q _ ps (I.hok.fresh (Nat.le_succ _)) (by rw [es]; exact ht)⟩
 ·have isT : ∀ p ms, SqT X.K H p (ms.map V.int) -> Tim.IsT (Tim.bf (Tim.bJ s.heap (ps.map Value.ref)) (s.heap.objs.size + 1) (ps.map Value.ref)) (.ref p) ms := fun p ms hp => by
   obtain ⟨its, r1, ⟨o, ho, hc, n, hd⟩, _⟩ := I.tuple hp
   exact ⟨p, its, rfl, ⟨o, Tim.mM ho, hc, n, hd⟩, r1⟩
  have isT0 : ∀ p ms, SqT X.K H p (ms.map V.int) -> Tim.IsT s.heap (.ref p) ms := fun p ms hp => by
   obtain ⟨its, r1, t1, _⟩ := I.tuple hp
   exact ⟨p, its, rfl, t1, r1⟩
  obtain ⟨em, each⟩ := iV (fun p => Tim.dec s.heap (.ref p)) ht fun p ms hp => (isT0 p ms hp).dec
  have dd : ∀ p ∈ ps, Tim.dec (Tim.bf (Tim.bJ s.heap (ps.map Value.ref)) (s.heap.objs.size + 1) (ps.map Value.ref)) (.ref p) = Tim.dec s.heap (.ref p) := fun p hp => (isT p _ (each p hp)).dec
  obtain ⟨fs, k1, k2, k3⟩ := kP (h := Tim.bf (Tim.bJ s.heap (ps.map Value.ref)) (s.heap.objs.size + 1) (ps.map Value.ref)) (fun a xs hx => let ⟨its, r1, ⟨o, ho, hc, n, hd⟩, _⟩ := I.tuple hx; ⟨its, r1, ⟨o, Tim.mM ho, hc, n, hd⟩⟩) ht hne
  refine Tim.lD (κ := tuples' true) (O := lexOrd) (key := fun x => Tim.dec (Tim.bf (Tim.bJ s.heap (ps.map Value.ref)) (s.heap.objs.size + 1) (ps.map Value.ref)) x.1)
   (P := fun x => ∃ ns, Tim.IsT (Tim.bf (Tim.bJ s.heap (ps.map Value.ref)) (s.heap.objs.size + 1) (ps.map Value.ref)) x.1 ns) pl.isList (by simp; lia) (by simpa using hz) (fun Q' hq => ?_) Tim.nN (fun v hv => ?_) fun out pm pw => ?_
  ·refine PySem.W.kat_kind (T := .type "int") k1 (by lia) (fun v hv => ?_) rfl ?_
   ·obtain ⟨i, t, rfl⟩ := k3 v hv
    exact PySem.W.Looks.of_pure rfl
   ·rw [show ((Value.type "int") != Value.type "tuple") = true by decide +kernel]
    exact hq
  ·obtain ⟨p, hp, rfl⟩ := List.mem_map.mp hv
   exact ⟨_, isT p _ (each p hp)⟩
  ·have pa : (out.map adr).Perm ps := by
    have := pm.map adr
    rw [List.map_map] at this
    simpa [adr, Function.comp_def] using this
   have eo : out = (out.map adr).map Value.ref := by
    rw [List.map_map]
    conv => lhs; rw [<- List.map_id out]
    refine List.map_congr_left fun v hv => ?_
    obtain ⟨p, _, rfl⟩ := List.mem_map.mp (pm.mem_iff.mp hv)
    rfl
   have hin : ∀ p ∈ out.map adr, p ∈ ps := fun p hp => pa.mem_iff.mp hp
   have es : (out.map adr).map (fun p => Tim.dec s.heap (.ref p)) = srt mss := by
    refine kN ?_ ?_
    ·rw [<- em]; exact pa.map _
    ·rw [List.pairwise_map, List.pairwise_map]
     refine List.Pairwise.imp_of_mem (fun {x y} hx hy z => ?_) pw
     obtain ⟨p, hp, rfl⟩ := List.mem_map.mp (pm.mem_iff.mp hx)
     obtain ⟨p', hp', rfl⟩ := List.mem_map.mp (pm.mem_iff.mp hy)
     have z : HT.lexLt (Tim.dec _ (.ref p')) (Tim.dec _ (.ref p)) = false := z
     rw [dd p hp, dd p' hp'] at z
     show lexLe (Tim.dec s.heap (.ref p)) (Tim.dec s.heap (.ref p')) = true
     unfold lexLe
     rw [z]; rfl
   obtain ⟨e, he⟩ := sortedAll_at s.heap (ps.map Value.ref) out.toArray
   rw [eo] at he
   refine ⟨.ref (s.heap.objs.size + 1), upd H (s.heap.objs.size + 1) (.lst ((out.map adr).map V.ref)), I.laid (t' := s.toks) (o := .lst ((out.map adr).map V.ref)) (fun b o e => sortedAll_old e) (Nat.le_succ _) ⟨by rw [List.length_map, pa.length_eq]; exact hz, _, e, iH _, ?_⟩, rfl, q _ _ (I.hok.fresh (Nat.le_succ _)) ?_⟩
   ·rw [<- eo] at he ⊢; exact he
   ·rw [<- es]; exact mO _ fun p hp => each p (hin p hp)
end L2
end
section
namespace L2
open PySem PySem.Spec PyProof.Rows
theorem EV.pick {xs : List (List Int × Addr × Value)} (r : EV es xs) : ∀ {i : Nat} {e : List Int × Addr × V}, es[i]? = some e -> ∃ x, xs[i]? = some x /\ e.2.1 = x.2.1 /\ RelV e.2.2 x.2.2 := by
 induction r with
 | nil => intro i e h; simp at h
 | @cons p q ps qs h t ih =>
  intro i e he
  cases i with
  | zero => simp at he; subst he; exact ⟨q, rfl, h.2.1, h.2.2⟩
  | succ i => simpa using ih (by simpa using he)
end L2
end
section
namespace VL
open PySem L2
section
variable {K : PySem.W.Frag} {X : Cx} {m : Bool} {e : Expr} {es : List Expr} {tr : TA} {vr : VTA} {x : Str} {p0 p pos : Pos} {j k : Nat} {ps : List Str} {S : List Sl} {QN : List D -> List Sl -> Prop}
def qA (vr : VTA) : VTN := fun S Q => vr S fun rs S1 => ∃ r mss, rs = [r] /\ get S1 r = some (eL mss) /\ (∀ ms ∈ mss, ms ≠ []) /\ Q ((srt mss).map eT) S1
theorem kh (hK : X.K = K) (hex : X.ex = []) (hg : Gl X "sorted") (hm : X.mg "sorted" = none) (hb : bootBuiltins "sorted" = some (.builtin "sorted")) (ha : VA K X false [e] tr vr) (he : starEach [e] X.env = [(false, eval e X.env)] := by rfl) :
  VN K X (.Call (.Name "sorted" p) [e] [] pos) (tCB (qz K) tr) (qA vr) :=
 ⟨by subst hK; exact di lE hg hm hb ha.pe (by decide) (by decide) he rfl, fun H0 Z σ H S Q C k t hc => ha.snd H0 Z σ H S _ _ k t fun vs H1 rs S1 k1 st1 rrs zq1 => by
  obtain ⟨r, mss, e1, e2, h1, q⟩ := zq1
  subst e1
  obtain ⟨v, rfl, rv⟩ := rrs.one
  obtain ⟨a, ys, rfl, hq, rr⟩ := rv.elems k1 e2
  obtain ⟨ps, rfl, ht, _⟩ := fB rr
  exact ⟨a, ps, mss, rfl, hq, ht, h1, fun l ps' hl ht' => hc l _ _ H1 _ S1 k1 st1 hl (aJ hl) aq (bW hl (cP k1.tupN ht')) q⟩⟩
def qB (QN : List D -> List Sl -> Prop) : List VR -> List Sl -> Prop := fun rs S1 => ∃ r mss, rs = [r] /\ get S1 r = some (eL mss) /\ (∀ ms ∈ mss, ms ≠ []) /\ QN ((srt mss).map eT) S1
theorem t4 (h : vr S (qB QN)) : qA vr S QN := h
theorem ki (e : get S r = some (eL mss)) (h1 : ∀ ms ∈ mss, ms ≠ []) (h : QN ((srt mss).map eT) S) : qB QN [r] S := ⟨r, mss, rfl, e, h1, h⟩
variable {va : VT}
end
end VL
end
section
namespace L2
open PySem PySem.Spec PyProof.Rows
section
variable {prog : Program} {w : World} {A : Around} {E : Value -> Shared -> Prop} {s : Shared}
def KyIt (h : Heap) (it d : Addr) (i n ep : Nat) : Prop := h.get? it = some { cls := .type "dict_keyiterator", data := .fields #[.ref d, .int i 0, .int n 0, .int ep 0] }
theorem nO : Builtin.Dict_items.ownsTuple "dict_keyiterator" = false := by decide
theorem f9 {it : Addr} {Q : Nat -> Shared -> Prop} (ty : s.TypeIs (.ref it) "dict_keyiterator") (h : Q 0 s) :
  wpAny (model prog w) A (typeNameOfWhole (.ref it) >>= fun n => pure (if Builtin.Dict_items.ownsTuple n = true then 2 else 0)) Q E s :=
 wpAny_bind (wpAny_typeNameOfWhole_keyiter ty (wpAny_pure (by rw [nO]; exact h)))
theorem t5 {it d : Addr} {i ep : Nat} {o : Obj} {es : Array DictEntry} {Q : Option Value -> Shared -> Prop} (hit : KyIt s.heap it d i es.size ep) (ho : s.heap.get? d = some o) (hd : o.data = .dict es ep) (hi : i < es.size)
  (hQ : ∀ h', KyIt h' it d (i + 1) es.size ep -> (∀ b u, b ≠ it -> s.heap.get? b = some u -> h'.get? b = some u) -> Q (some es[i].key) { s with heap := h' }) : wpAny (model prog w) A (pyNext (.ref it)) Q E s := by
 have ty : s.TypeIs (.ref it) "dict_keyiterator" := ⟨_, hit, rfl⟩
 unfold pyNext
 refine wpAny_bind (wpAny_attempt (wpAny_callSpecial?_slot (name := Str.ofString "__next__") ty F.slot_dict_keyiterator_next (wpAny_call_entry F.slot_dict_keyiterator_next ty F.entry_dict_keyiterator_next ?_ (F.args_dict_keyiterator_next_1 _))))
 refine wpAny_bind (wpAny_pure (wpAny_bind (wpAny_bind (f9 ty (wpAny_bind (wpAny_fieldsOf hit rfl ?_))))))
 show wpAny _ _ (if (Value.ref d == Value.none) = true then _ else _) _ _ s
 rw [if_neg (fun z : (Value.ref d == Value.none) = true => Bool.false_ne_true z)]
 refine wpAny_bind (wpAny_pure (wpAny_bind (wpAny_dictEntries ho hd ?_)))
 rw [if_neg (by simp)]
 refine wpAny_bind (wpAny_pure (wpAny_bind (wpAny_dictEpoch ho hd ?_)))
 rw [if_neg (by simp)]
 refine wpAny_pure ?_
 have hx : (if ((i : Nat) : Int) < 0 then none else es[((i : Nat) : Int).toNat]?) = some es[i] := by rw [if_neg (by lia), Int.toNat_natCast]; exact Array.getElem?_eq_getElem hi
 dsimp only
 rw [hx]
 refine wpAny_bind (f9 ty (wpAny_bind (wpAny_isOneOf_keyiter ty (wpAny_bind (wpAny_setField_rec hit (k := 1) (by simp) fun g e b => ?_)))))
 have e' : KyIt g it d (i + 1) es.size ep := by
  have z : ((i + 1 : Nat) : Int) = (i : Int) + 1 := by lia
  unfold KyIt; rw [z]; exact e
 refine wpAny_bind (wpAny_holding (wpAny_bind (wpAny_isOneOf_keyiter (s := { s with heap := g }) ⟨_, e', rfl⟩ ?_)))
 exact wpAny_pure (wpAny_pure ⟨_, rfl, wpAny_pure (hQ g e' fun c u hn z => (b.2 c hn).trans z)⟩)
theorem yM {it d : Addr} {i ep : Nat} {o : Obj} {es : Array DictEntry} {Q : Option Value -> Shared -> Prop} (hh : A.handled = none) (hit : KyIt s.heap it d i es.size ep) (ho : s.heap.get? d = some o) (hd : o.data = .dict es ep) (hi : es.size <= i)
  (hQ : ∀ h', Heap.ExtBut it s.heap h' -> Q none { s with heap := h' }) : wpAny (model prog w) A (pyNext (.ref it)) Q E s := by
 have ty : s.TypeIs (.ref it) "dict_keyiterator" := ⟨_, hit, rfl⟩
 unfold pyNext
 refine wpAny_bind (wpAny_attempt (wpAny_callSpecial?_slot (name := Str.ofString "__next__") ty F.slot_dict_keyiterator_next (wpAny_call_entry F.slot_dict_keyiterator_next ty F.entry_dict_keyiterator_next ?_ (F.args_dict_keyiterator_next_1 _))))
 refine wpAny_bind (wpAny_pure (wpAny_bind (wpAny_bind (f9 ty (wpAny_bind (wpAny_fieldsOf hit rfl ?_))))))
 show wpAny _ _ (if (Value.ref d == Value.none) = true then _ else _) _ _ s
 rw [if_neg (fun z : (Value.ref d == Value.none) = true => Bool.false_ne_true z)]
 refine wpAny_bind (wpAny_pure (wpAny_bind (wpAny_dictEntries ho hd ?_)))
 rw [if_neg (by simp)]
 refine wpAny_bind (wpAny_pure (wpAny_bind (wpAny_dictEpoch ho hd ?_)))
 rw [if_neg (by simp)]
 refine wpAny_pure ?_
 have hx : (if ((i : Nat) : Int) < 0 then none else es[((i : Nat) : Int).toNat]?) = none := by rw [if_neg (by lia), Int.toNat_natCast]; exact Array.getElem?_eq_none hi
 dsimp only
 rw [hx]
 refine wpAny_bind (f9 ty (wpAny_bind (wpAny_setField hit rfl (by simp) ?_)))
 unfold newExc newTuple
 refine wpAny_bind (wpAny_bind (wpAny_newObj_type (wpAny_bind (m := firstArgMember _ _) (wpAny_of_eq (a := Value.none) (by first | rfl | (simp only [firstArgMember]; rfl)) (wpAny_newObj_type (wpAny_raiseNew_none (show A.in1.handled = none from hh) ?_) (by size_fits)))) (by size_fits)))
 refine wpAny_bind (wpAny_isInstance (b := true) (T := "StopIteration") ⟨_, Heap.get?_push_size _ rfl, rfl⟩ isSubtype_stop (wpAny_pure (hQ _ ?_)))
 intro b u hn e
 exact Heap.get?_push_of_some _ (Heap.get?_push_of_some _ (((Heap.SameBut.update ..).2 b hn).trans e))
theorem t6 {d : Addr} {o : Obj} {es : Array DictEntry} {ep : Nat} {Q : Value -> Shared -> Prop} (ty : s.TypeIs (.ref d) "dict") (hs : (d == sysModules) = false) (ho : s.heap.get? d = some o) (hd : o.data = .dict es ep)
  (h : Q (.ref s.heap.objs.size) { s with heap := s.heap.push { cls := .type "dict_keyiterator", data := .fields #[.ref d, .int 0 0, .int es.size 0, .int ep 0] } }) : wpAny (model prog w) A (pyIter (.ref d)) Q E s := by
 refine wpAny_pyIter_slot ty F.slot_dict_iter (wpAny_call_entry F.slot_dict_iter ty F.entry_dict_iter (wpAny_bind (wpAny_bind (wpAny_notOrdered_dict ty (wpAny_pure ?_)))) (F.args_dict_iter_1 _))
 refine wpAny_bind (m := Builtin.Dict.showsAll d) ?_
 unfold Builtin.Dict.showsAll
 rw [if_neg (by rw [hs]; exact Bool.false_ne_true)]
 refine wpAny_pure (wpAny_bind (wpAny_dictEntries ho hd (wpAny_bind (wpAny_dictEpoch ho hd (wpAny_bind (wpAny_newObj_type (wpAny_pure ⟨_, rfl, "dict_keyiterator", _, ⟨_, Heap.get?_push_size _ rfl, rfl⟩, F.slot_dict_keyiterator_next.lookup, ?_⟩)))))))
 simpa [rawInt] using h
end
def Itk (d : Addr) (ob : Obj) (es : List (List Int × Addr × V)) : It :=
 ⟨fun i H => H d = some (bK d ob es) /\ i < es.length, fun i H x H' => ∃ e, es[i]? = some e /\ x = .ref e.2.1 /\ H' = H, fun i H => H d = some (bK d ob es) /\ es.length <= i⟩
theorem nQ {P : Program} {w : World} {tg : Expr} (it d : Addr) (ob : Obj) (es : List (List Int × Addr × V)) (ds : Array DictEntry) (ep : Nat) (hob : ob.data = .dict ds ep) :
  Turn P w K tg (Itk d ob es) [it] it (fun i h => KyIt h it d i ds.size ep) where
 mem := by simp
 obj := fun i h st b hb => by
  have e : b = it := by simpa using hb
  subst e
  exact ⟨_, st, fun v z => by
   have z' : Data.fields _ = Data.cell v := z
   cases z'⟩
 keep := fun i h h' st k => k it (by simp) _ st
 item := by
  rintro X hP hw hK hc i pins s σ H E I hf st ⟨hd, hi⟩
  subst hP hw hK
  obtain ⟨f0, f1, f2, f3, f4, f5⟩ := hf it (by simp)
  obtain ⟨⟨z, m, nd, xs, ev, o, ds', ep', g1, g2, g3, g4⟩, g5⟩ := fS I hd
  rw [g5] at g1; cases g1
  rw [hob] at g3; cases g3
  obtain ⟨e, he⟩ : ∃ e, es[i]? = some e := ⟨_, List.getElem?_eq_getElem hi⟩
  obtain ⟨x, hx, ek, rv⟩ := ev.pick he
  have hxl : i < xs.length := by have := Paired.length ev; lia
  have hds : ds.size = xs.length := by have := congrArg List.length g4; simpa using this
  have hent : ds[i]'(by lia) = wY x := by
   have h1 : ds.toList[i]? = some (wY x) := by rw [g4, List.getElem?_map, hx]; rfl
   rw [Array.getElem?_toList, Array.getElem?_eq_getElem (by lia)] at h1
   exact Option.some.inj h1
  refine t5 st g5 hob (by lia) fun h' a1 a2 => ⟨_, rfl, lN (s := { s with heap := h' }) a1 rfl rfl (by decide) ?_⟩
  refine ⟨.ref e.2.1, H, I.turned (t' := s.toks) (fun b o hb q => a2 b o hb q) f0 f1 f3 f4 f5, ?_, ⟨e, he, rfl, rfl⟩, a1, fun b hb => ?_⟩
  ·rw [hent, ek]; rfl
  ·have e' : b = it := by simpa using hb
   subst e'; exact f0
 done := by
  rintro X hP hw hK hc i pins s σ H E I hf st ⟨hd, hi⟩
  subst hP hw hK
  obtain ⟨f0, f1, f2, f3, f4, f5⟩ := hf it (by simp)
  obtain ⟨⟨z, m, nd, xs, ev, o, ds', ep', g1, g2, g3, g4⟩, g5⟩ := fS I hd
  rw [g5] at g1; cases g1
  rw [hob] at g3; cases g3
  have hds : ds.size = xs.length := by have := congrArg List.length g4; simpa using this
  have := Paired.length ev
  exact yM (I.ok.hd hc) st g5 hob (by lia) fun h' eb => ⟨rfl, I.turned (t' := s.toks) (fun b o hb e => eb b o hb e) f0 f1 f3 f4 f5⟩
 self := fun _ _ _ _ _ st h => wpAny_pyIter_keyiter ⟨_, st, rfl, rfl⟩ h
section
variable {X : Cx}
def vK (to : TE) : TI := fun σ H R => to σ H fun x H1 => ∃ d ob es, x = .ref d /\ H1 d = some (bK d ob es) /\ R (Itk d ob es) H1
theorem t7 {tg o : Expr} {to : TE} (ho : PE X o to) : PI X tg o (vK to) := by
 intro pins s σ H R I h
 refine thn (ho pins s σ H _ I h) fun v s1 zr1 => ?_
 obtain ⟨x, H1, I1, r1, d, ob, es, hx, hd, q1⟩ := zr1
 subst hx
 cases r1
 obtain ⟨⟨z, m, nd, xs, ev, o', ds, ep, g1, g2, g3, g4⟩, g5⟩ := fS I1 hd
 rw [g5] at g1; cases g1
 refine t6 ⟨_, g5, g2.1⟩ m g5 g3 ⟨s1.heap.objs.size, [s1.heap.objs.size], _, _, H1, rfl, I1.kept (t' := s1.toks) fun b u q => Heap.get?_push_of_some _ q, nQ _ d ob es ds ep g3, Heap.get?_push_size _ rfl, fun b hb => ?_, q1⟩
 have e : b = s1.heap.objs.size := by simpa using hb
 subst e
 exact I1.fpOk (Nat.le_refl _) (I1.hok.fresh (Nat.le_refl _))
end
end L2
namespace VL
open PySem L2
section
variable {K : PySem.W.Frag} {X : Cx} {e o tg : Expr} {te : TE} {va : VT} {S : List Sl} {QN : List D -> List Sl -> Prop}
def vL (va : VT) : VTN := fun S Q => va S fun r S1 => ∃ kvs, r = .d (dc kvs) /\ Q ((kvs.map (·.1)).map kT) S1
theorem t8 (h : VE K X false o te va) : VI K X tg o (vK te) (vL va) := ⟨t7 h.pe, fun H0 Z σ H S Q C k t hc => h.snd H0 Z σ H S _ _ k t fun v H1 r S1 k1 st1 rr zq1 => by
 obtain ⟨kvs, er, q⟩ := zq1
 subst er
 have rr : Rep K _ _ H1 v (.dic (kvs.map (·.1)) (kvs.map (·.2))) := rr
 cases rr with
 | @dic a ob es _ _ n f hh ek rk r =>
 refine ⟨a, ob, es, rfl, hh, hc _ ((kvs.map (·.1)).map kT) H1 S1 k1 st1 (fun σ2 S2 H2 nm st2 i => ?_) q⟩
 obtain ⟨e1, n1⟩ := st2.1 a n (by rw [hh]; exact fun z => nomatch z)
 have hh2 : H2 a = some (bK a ob es) := e1.trans hh
 have len : ((kvs.map (·.1)).map kT).length = es.length := by have := congrArg List.length ek; simp at this ⊢; lia
 rw [len]
 refine ⟨fun hi => ⟨hh2, hi⟩, fun x H3 zr1 hi => ?_, fun hi => ⟨hh2, by lia⟩⟩
 obtain ⟨en, he, hx, hH⟩ := zr1
 subst hx; subst hH
 have rk2 := (rk.step st2).mono (N' := NM Z σ2 S2) (F' := AnyF) (H' := H3) (fun b n z => ⟨n, rfl⟩) fun _ _ => trivial
 obtain ⟨dk, hk1, hk2⟩ := rk2.get (i := i) (v := .ref en.2.1) (by rw [List.getElem?_map, he]; rfl)
 exact ⟨fun _ _ => rfl, dk, hk1, hk2⟩⟩
def vM (QN : List D -> List Sl -> Prop) : VR -> List Sl -> Prop := fun r S1 => ∃ kvs, r = .d (dc kvs) /\ QN ((kvs.map (·.1)).map kT) S1
theorem yN (h : va S (vM QN)) : vL va S QN := h
theorem t9 (h : QN ((kvs.map (·.1)).map kT) S) : vM QN (.d (dc kvs)) S := ⟨kvs, rfl, h⟩
end
end VL
end
section
namespace VL
open PySem L2
section
variable {K : PySem.W.Frag} {X : Cx} {stm : Stmt} {ts : TS} {t : VTS}
theorem mP : ∀ {S : List Sl} {i : Nat} {ks : List (List Int)} {ds : List D}, S[i]? = some (.odi ks ds) -> Wk S (S.set i (.val (.dic ks ds)))
 | [], i, _, _, h => by simp at h
 | s :: r, 0, ks, ds, h => by
  have e : s = .odi ks ds := by simpa using h
  subst e
  exact .fd (Wk.refl r)
 | s :: r, i + 1, ks, ds, h => Wk.keep (mP (by simpa using h))
def vN (i : Nat) (t : VTS) : VTS := fun V S => ∃ kvs, S[i]? = some (od kvs) /\ t V (S.set i (.val (dc kvs)))
theorem ua (i : Nat) (h : VS K X stm ts t) : VS K X stm ts (vN i t) := ⟨h.ps, fun H0 Z σ H S V E k zq1 l => by
 obtain ⟨kvs, e, t⟩ := zq1
 obtain ⟨k', st⟩ := k.wk (mP e)
 exact h.snd H0 Z σ H _ V E k' t (l.step st)⟩
theorem yO {i : Nat} {V : aW} (e : S[i]? = some (od kvs)) (h : t V (S.set i (.val (dc kvs)))) : vN i t V S := ⟨kvs, e, h⟩
end
end VL
end
section
namespace L2
open PySem PySem.Spec PyProof.Rows
section
variable {X : Cx}
def qC (K : PySem.W.Frag) : V -> V -> Hp -> VK -> Prop := fun x y H Q => ∃ b a ms es v, y = .ref b /\ x = .ref a /\ SqT K H b (ms.map V.int) /\ (∃ ob, H a = some (bK a ob es)) /\ cS K H es /\ atE es ms = some v /\ Q v H
theorem ub (hu : X.A.units + 64 < cLine) : BU X (qC X.K) := by
 rintro pins s σ H o i ov iv Q I r1 r2 ⟨b, a, ms, es, v, ey, ex, h1, ⟨ob, h2⟩, h3, hv, q⟩
 subst ex; subst ey
 cases r1; cases r2
 obtain ⟨z, m, nd, xs, ev, dd⟩ := fY I h2 h3
 have r := ev.at_ ms
 rw [hv] at r
 cases h5 : atKey xs ms with
 | none => rw [h5] at r; exact r.elim
 | some p =>
  rw [h5] at r
  exact wpAny_getItem_heap (tupleKind_room_in1 (by lia)) (gP I h1) dd h5 ⟨v, H, I.tok _, r, q⟩
end
end L2
end
section
namespace VL
open PySem L2
section
variable {K : PySem.W.Frag} {N N' : AP} {F : FP} {H H' H0 : Hp} {Z P : AP} {σ σ' : St} {S S' : List Sl}
mutual
theorem Rep.mark {v : L2.V} {d : D} : Rep K N F H v d -> Rep K N (fun o => F o /\ ∀ a, o = some a -> N a /\ IsM (H a)) H v d
 | .int i => .int i
 | .bl i => .bl i
 | .non => .non
 | .str i => .str i
 | .ty i => .ty i
 | .tup n h r => .tup n h (Reps.mark r)
 | .tupK h r => .tupK h (Reps.mark r)
 | .lst n f h r => .lst n ⟨f, fun a e => by cases e; exact ⟨n, by rw [h]; trivial⟩⟩ h (Reps.mark r)
 | .lstF n f h r => .lstF n ⟨f, fun a e => nomatch e⟩ h (Reps.mark r)
 | .lstK f h r => .lstK ⟨f, fun a e => nomatch e⟩ h (Reps.mark r)
 | .dic n f h e rk r => .dic n ⟨f, fun a e => by cases e; exact ⟨n, by rw [h]; trivial⟩⟩ h e (Reps.mark rk) (Reps.mark r)
 | .exc n h e => .exc n h e
theorem Reps.mark {vs : List L2.V} {ds : List D} : Reps K N F H vs ds -> Reps K N (fun o => F o /\ ∀ a, o = some a -> N a /\ IsM (H a)) H vs ds
 | .nil => .nil
 | .cons h t => .cons (Rep.mark h) (Reps.mark t)
end
end
end VL
end
section
namespace L2
open PySem PySem.Spec PyProof.Rows
theorem Inv.turned2 {X : Cx} {s : Shared} {h' : Heap} {t' : Nat} {e it : Addr} (I : Inv X pins σ H s) (k : ∀ b o, b ≠ e -> b ≠ it -> s.heap.get? b = some o -> h'.get? b = some o) (fe : gn X pins H e) (fi : gn X pins H it) :
  Inv X pins σ H { s with heap := h', toks := t' } := by
 obtain ⟨e0, e1, _, e3, e4, e5⟩ := fe
 obtain ⟨i0, i1, _, i3, i4, i5⟩ := fi
 have ne : ∀ b u, H b = some u -> b ≠ e := fun b u q z => by rw [z, e0] at q; cases q
 have ni : ∀ b u, H b = some u -> b ≠ it := fun b u q z => by rw [z, i0] at q; cases q
 have kk : ∀ b o, b ∉ [e, it] -> s.heap.get? b = some o -> h'.get? b = some o := fun b o hc q => k b o (fun z => hc (by simp [z])) (fun z => hc (by simp [z])) q
 refine I.step (g' := s.gens) (d' := s.drawn) (ch := [e, it]) (fun b hb => ?_) (fun b o _ _ hc q _ => kk b o hc q) (fun b o _ _ hc q _ => ⟨o.slots, kk b o hc q⟩) (fun _ _ _ _ n => n)
  (fun b o hc q => ⟨o, kk b o hc q⟩) (fun _ _ q => q) (fun _ _ _ q => q) (fun b ps q => ⟨#[], by rw [q]; simp⟩) (fun m hm => ?_) (fun b u q => ?_) I.bare
 ·rcases List.mem_cons.mp hb with rfl | hb
  ·exact ⟨e3, e1, e4, e5⟩
  ·obtain rfl := List.mem_singleton.mp hb
   exact ⟨i3, i1, i4, i5⟩
 ·obtain ⟨o, es, ep, ho, r⟩ := hm
  exact ⟨o, es, ep, k _ o (Ne.symm e1) (Ne.symm i1) ho, r⟩
 ·refine (I.hok b u q).stay (fun c v hc z => k c v ?_ ?_ z) (fun _ z => z) fun _ _ z => z
  ·rcases hc with y | y
   ·rw [y]; exact ne b u q
   ·exact ne c _ y
  ·rcases hc with y | y
   ·rw [y]; exact ni b u q
   ·exact ni c _ y
def Ite (K : PySem.W.Frag) (l : Addr) : It :=
 ⟨fun i H => ∃ xs x, SqL K H l xs /\ xs[i]? = some x, fun i H x H' => ∃ p, H p = none /\ x = .ref p /\ ∀ xs, SqL K H l xs -> ∃ y, xs[i]? = some y /\ H' = upd H p (.tup [.int i, y]), fun i H => ∃ xs, SqL K H l xs /\ xs.length <= i⟩
theorem nR {P : Program} {w : World} {elts : List Expr} {x1} {tp : Pos} (e it l : Addr) (hne : e ≠ it) :
  Turn P w K (.Tuple elts x1 tp) (Ite K l) [e, it] e (fun i h => (∃ old, IsEnum h e it i old) /\ h.IsListIter it l i) where
 mem := by simp
 obj := fun i h zq b hb => by
  obtain ⟨⟨old, st⟩, sl⟩ := zq
  rcases List.mem_cons.mp hb with rfl | hb
  ·exact ⟨_, st, fun v z => by
    have z' : Data.fields _ = Data.cell v := z
    cases z'⟩
  ·obtain rfl := List.mem_singleton.mp hb
   obtain ⟨o, q, c, d⟩ := sl
   exact ⟨o, q, fun v z => by rw [d] at z; cases z⟩
 keep := fun i h h' zq k => by
  obtain ⟨⟨old, st⟩, sl⟩ := zq
  exact ⟨⟨old, k e (by simp) _ st⟩, sl.at fun o q => k it (by simp) o q⟩
 item := by
  intro X hP hw hK hc i pins s σ H E I hf zq hg
  subst hP hw hK
  obtain ⟨⟨old, st⟩, sl⟩ := zq
  obtain ⟨xs, x, hq, hx⟩ := hg
  obtain ⟨its, rv, p, hz⟩ := I.list hq
  obtain ⟨u, hu, ru⟩ := rv.get hx
  have fe := hf e (by simp)
  have fi := hf it (by simp)
  refine wpAny_pyNext_enum_item st sl p.isList (x := u) (by simpa using hu) hne fun h' a1 a2 a3 a4 a5 => ⟨_, rfl, wpAny_letOwnedTupleGo_enum (s := { s with heap := h', toks := s.toks + 1 }) a1 fun h2 b1 b2 => ?_⟩
  have kb : ∀ b o, b ≠ e -> h'.get? b = some o -> h2.get? b = some o := fun b o hb q => (b2.2 b hb).trans q
  have I2 : Inv X pins σ H { s with heap := h2, toks := s.toks + 1 } := I.turned2 (fun b o n1 n2 q => kb b o n1 (a5 b o n1 n2 q)) fe fi
  have np : H s.heap.objs.size = none := I.hok.fresh (Nat.le_refl _)
  obtain ⟨_, p1, _, p3, p4, p5⟩ := I.fpOk (H' := H) (b := s.heap.objs.size) (Nat.le_refl _) np
  have ns : s.heap.objs.size ≠ e := Nat.ne_of_gt (Heap.lt_size st)
  have ni : s.heap.objs.size ≠ it := by
   obtain ⟨o, q, _⟩ := id sl
   exact Nat.ne_of_gt (Heap.lt_size q)
  refine ⟨.ref s.heap.objs.size, upd H s.heap.objs.size (.tup [.int i, x]), I2.track np I.sz p1 p4 p5 ⟨by rw [sizeLine_eq]; exact Nat.le_of_ble_eq_true rfl, [.int i s.toks, u], .cons ⟨_, rfl⟩ (.cons ru .nil), ⟨_, kb _ _ ns a3, rfl, _, rfl⟩⟩, rfl, ⟨_, np, rfl, fun ys hy => ⟨x, by rw [I.list_inj hy hq]; exact hx, rfl⟩⟩, ⟨⟨_, by simpa using b1⟩, a2.at fun o q => kb it o (Ne.symm hne) q⟩, fun b hb => ?_⟩
  rcases List.mem_cons.mp hb with rfl | hb
  ·rw [ao (Ne.symm ns)]; exact fe.1
  ·obtain rfl := List.mem_singleton.mp hb
   rw [ao (Ne.symm ni)]; exact fi.1
 done := by
  intro X hP hw hK hc i pins s σ H E I hf zq hg
  subst hP hw hK
  obtain ⟨⟨old, st⟩, sl⟩ := zq
  obtain ⟨xs, hq, hx⟩ := hg
  obtain ⟨its, rv, p, hz⟩ := I.list hq
  obtain ⟨f0, f1, f2, f3, f4, f5⟩ := hf it (by simp)
  have hl := rv.length
  exact wpAny_pyNext_enum_end (I.ok.hd hc) st sl p.isList (Array.getElem?_eq_none (by simp; lia)) fun h' eb => ⟨rfl, I.turned (t' := s.toks) (fun b o hb q => eb b o hb q) f0 f1 f3 f4 f5⟩
 self := fun _ _ _ _ _ zq h => by
  obtain ⟨⟨old, st⟩, _⟩ := zq
  exact wpAny_pyIter_enum st h
section
variable {X : Cx}
def vO (K : PySem.W.Frag) (ta : TA) : TI := fun σ H R => ta σ H fun vs H1 => ∃ l, vs = [.ref l] /\ (∃ xs, SqL K H1 l xs) /\ R (Ite K l) H1
theorem uc {a : Expr} {ta : TA} {p pos tp : Pos} {elts : List Expr} {x1} (hg : Gl X "enumerate") (hm : X.mg "enumerate" = none) (ha : PA X [a] ta) (hs : starEach [a] X.env = [(false, eval a X.env)] := by rfl) : PI X (.Tuple elts x1 tp) (.Call (.Name "enumerate" p) [a] [] pos) (vO X.K ta) := by
 intro pins s σ H R I h
 refine Call_ (dY I hg hm boot_enumerate (PyProof.Rows.callWith_type1 (thn (ha pos pins s σ H _ I h) fun us s1 zr1 => ?_) hs rfl))
 obtain ⟨vs, H1, I1, r1, q1⟩ := zr1
 obtain ⟨l, e, ⟨xs, hq⟩, q⟩ := q1
 subst e
 cases r1 with
 | cons r rr =>
  cases rr
  cases r
  obtain ⟨its, rv, pl, hz⟩ := I1.list hq
  refine call_enumerate_list pl.isList fun h' g1 g2 g3 g4 => ?_
  have I2 : Inv X pins σ H1 { s1 with heap := h' } := I1.kept (t' := s1.toks) g4
  refine wpAny_pyIter_enum (s := { s1 with heap := h' }) g1 ⟨s1.heap.objs.size + 1, [s1.heap.objs.size + 1, s1.heap.objs.size], _, Ite X.K l, H1, rfl, I2, nR _ _ l (by lia), ⟨⟨_, g1⟩, g2⟩, fun b hb => ?_, q⟩
  have hb' : s1.heap.objs.size <= b := by
   rcases List.mem_cons.mp hb with rfl | hb
   ·lia
   ·obtain rfl := List.mem_singleton.mp hb
    exact Nat.le_refl _
  exact I1.fpOk hb' (I1.hok.fresh hb')
end
end L2
namespace VL
open PySem L2
section
variable {K : PySem.W.Frag} {X : Cx} {a : Expr} {tr : TA} {vr : VTA} {S : List Sl} {QN : List D -> List Sl -> Prop} {p pos tp : Pos}
def enD (ds : List D) : List D := (List.range ds.length).map fun (i : Nat) => .tup [.int i, ds.getD i .non]
theorem mQ (ds : List D) : (enD ds).length = ds.length := by simp [enD]
theorem qD {i : Nat} (h : ds[i]? = some d) : (enD ds)[i]? = some (.tup [.int i, d]) := by
 obtain ⟨hi, e⟩ := List.getElem?_eq_some_iff.mp h
 simp [enD, hi, List.getD, e]
def vP (vr : VTA) : VTN := fun S Q => vr S fun rs S1 => ∃ ds, rs = [.d (.lst ds)] /\ Q (enD ds) S1
theorem ud {elts : List Expr} {x1} (hK : X.K = K) (hg : Gl X "enumerate") (hm : X.mg "enumerate" = none) (ha : VA K X false [a] tr vr) (hs : starEach [a] X.env = [(false, eval a X.env)] := by rfl) :
  VI K X (.Tuple elts x1 tp) (.Call (.Name "enumerate" p) [a] [] pos) (vO K tr) (vP vr) := ⟨by subst hK; exact uc hg hm ha.pe hs, fun H0 Z σ H S Q C k t hc =>
 ha.snd H0 Z σ H S _ _ k t fun vs H1 rs S1 k1 st1 rrs zq1 => by
  obtain ⟨ds, e, q⟩ := zq1
  subst e
  obtain ⟨v, rfl, rv⟩ := rrs.one
  have rv : Rep K _ _ H1 v (.lst ds) := rv
  obtain ⟨l, xs, rfl, hq, _⟩ := rv.sqL
  refine ⟨l, rfl, ⟨xs, hq⟩, hc _ (enD ds) H1 S1 k1 st1 (fun σ2 S2 H2 nm st2 i => ?_) q⟩
  obtain ⟨l', xs', e, hq2, r2⟩ := (rv.step st2).sqL
  cases e
  rw [mQ]
  refine ⟨fun hi => ?_, fun x H3 hy hi => ?_, fun hi => ⟨xs', hq2, by rw [r2.length]; lia⟩⟩
  ·obtain ⟨y, h1, _⟩ := r2.getD (List.getElem?_eq_getElem hi)
   exact ⟨xs', y, hq2, h1⟩
  ·obtain ⟨p, hp, rfl, hy⟩ := hy
   obtain ⟨y, h2, rfl⟩ := hy xs' hq2
   obtain ⟨d, h3, h4⟩ := r2.get h2
   have g := aJ (o := .tup [.int i, y]) hp
   exact ⟨g, _, qD h3, .tup (nm p hp) (.inl aq) (.cons (.int _) (.cons (h4.mono (fun b n z => ⟨n, g b z⟩) fun _ _ => trivial) .nil))⟩⟩
def vQ (QN : List D -> List Sl -> Prop) : List VR -> List Sl -> Prop := fun rs S1 => ∃ ds, rs = [.d (.lst ds)] /\ QN (enD ds) S1
theorem yP (h : vr S (vQ QN)) : vP vr S QN := h
theorem ue (h : QN (enD ds) S) : vQ QN [.d (.lst ds)] S := ⟨ds, rfl, h⟩
end
end VL
end
section
namespace L2
open PySem PySem.Spec PyProof.Rows
theorem qE {X : Cx} (hu : X.A.units + 64 < cLine) : IxR X (qC X.K) := by
 intro value slice pins s σ H x y v u Q I rx ry h hs
 have g := ub hu pins s σ H x y v u Q I rx ry h
 obtain ⟨b, a, ms, es, z, ey, ex, h1, ⟨ob, h2⟩, _⟩ := h
 subst ex
 cases rx
 obtain ⟨_, _, _, _, _, o, _, _, z1, z2, _⟩ := fT I h2
 exact tail_any ⟨_, z1, z2.1⟩ slot_dict_getitem.lookup g hs
end L2
namespace VL
open PySem L2
section
variable {K : PySem.W.Frag} {X : Cx} {m : Bool} {o ie : Expr} {to ti : TE} {vo vi : VT} {pos : Pos} {S : List Sl} {Q : VR -> List Sl -> Prop}
def Bu (vo vi : VT) : VT := fun S Q => vo S fun r S1 => vi S1 fun rk S2 => ∃ kvs ms i, get S2 r = some (dc kvs) /\ get S2 rk = some (kT ms) /\ dt kvs ms = some (.int i) /\ Q (.d (.int i)) S2
theorem yQ (hK : X.K = K) (hu : X.A.units + 64 < cLine) (ho : VE K X false o to vo) (hi : VE K X false ie ti vi) (hs : fQ ie) : VE K X m (.Subscript o ie pos) (tOp (qC K) to ti) (Bu vo vi) :=
 ⟨by subst hK; exact oC (qE hu) ho.pe hi.pe hs, fun H0 Z σ H S Q C k t hc => by
  refine ho.snd H0 Z σ H S _ _ k t fun x H1 ra S1 k1 st1 r1 t1 => ?_
  refine hi.snd H0 Z σ H1 S1 _ _ k1 t1 fun y H2 rb S2 k2 st2 r2 zr1 => ?_
  obtain ⟨kvs, ms, i, e1, e2, ei, q⟩ := zr1
  obtain ⟨b, vs, rfl, hq, rr⟩ := Rep.sqT (show Rep K _ _ H2 y (.tup (ms.map D.int)) from r2.get k2 e2)
  cases Reps.toInts rr
  obtain ⟨a, es, rfl, _, _, ha, ek, hk, _, rv⟩ := Rep.dct (show Rep K _ _ H2 x (.dic _ _) from (r1.step st2).get k2 e1)
  rcases jt (k := ms) ek rv with ⟨z1, z2⟩ | ⟨v, d, z1, z2, r⟩
  ·rw [z2] at ei; cases ei
  ·rw [z2] at ei
   cases ei
   cases r
   exact ⟨b, a, ms, es, .int i, rfl, rfl, hq, ha, hk, z1, hc _ H2 (.d (.int i)) S2 k2 (st1.trans st2) (Rep.int i) q⟩⟩
def vR (vi : VT) (Q : VR -> List Sl -> Prop) : VR -> List Sl -> Prop := fun r S1 => vi S1 fun rk S2 => ∃ kvs ms i, get S2 r = some (dc kvs) /\ get S2 rk = some (kT ms) /\ dt kvs ms = some (.int i) /\ Q (.d (.int i)) S2
def vS (r : VR) (Q : VR -> List Sl -> Prop) : VR -> List Sl -> Prop := fun rk S2 => ∃ kvs ms i, get S2 r = some (dc kvs) /\ get S2 rk = some (kT ms) /\ dt kvs ms = some (.int i) /\ Q (.d (.int i)) S2
theorem Bv (h : vo S (vR vi Q)) : Bu vo vi S Q := h
theorem uf (h : vi S (vS r Q)) : vR vi Q r S := h
theorem ug {r rk : VR} {i : Int} (e1 : get S r = some (dc kvs)) (e2 : get S rk = some (kT ms)) (e3 : dt kvs ms = some (.int i)) (h : Q (.d (.int i)) S) : vS r Q rk S := ⟨kvs, ms, i, e1, e2, e3, h⟩
end
end VL
namespace VL
open PySem L2
section
variable {K : PySem.W.Frag} {X : Cx} {m : Bool} {a b : Expr} {ta tb : TE} {va vb : VT} {pos : Pos} {S : List Sl} {Q : VR -> List Sl -> Prop}
def vT (va vb : VT) : VT := fun S Q => va S fun ra S1 => vb S1 fun rb S2 => ∃ ds es, ra = .d (.tup ds) /\ rb = .d (.tup es) /\ ds ≠ [] /\ ds.length + es.length <= 1000 /\ Q (.d (.tup (ds ++ es))) S2
theorem uh (hK : X.K = K) (ha : VE K X m a ta va) (hb : VE K X m b tb vb) : VE K X m (.BinOp a .Add b pos) (tOp (uN K) ta tb) (vT va vb) := ⟨by subst hK; exact oo sf ha.pe hb.pe, fun H0 Z σ H S Q C k t hc =>
 ha.snd H0 Z σ H S _ _ k t fun x H1 ra S1 k1 st1 r1 t1 => hb.snd H0 Z σ H1 S1 _ _ k1 t1 fun y H2 rb S2 k2 st2 r2 zq1 => by
  obtain ⟨ds, es, e1, e2, n1, hl, q⟩ := zq1
  subst e1; subst e2
  have rx : Rep K (NM Z σ S2) (FM H0 m) H2 x (.tup ds) := (show d8 K _ Z σ S1 H1 x (.d (.tup ds)) from r1).step st2
  obtain ⟨p, vs, rfl, hq, rr⟩ := rx.sqT
  obtain ⟨p', vs', rfl, hq', rr'⟩ := Rep.sqT (show Rep K _ _ H2 y (.tup es) from r2)
  have l1 := rr.length
  have l2 := rr'.length
  refine ⟨p, p', vs, vs', rfl, rfl, hq, hq', fun z => n1 (List.eq_nil_of_length_eq_zero (by rw [<- l1, z]; rfl)), by rw [l1, l2, sizeLine_eq]; lia, fun z => ?_, fun _ l hl2 => ?_⟩
  ·obtain rfl : es = [] := List.eq_nil_of_length_eq_zero (by rw [<- l2, z]; rfl)
   rw [List.append_nil] at q
   exact hc _ _ (.d (.tup ds)) S2 k2 (st1.trans st2) rx q
  ·have g := aJ (o := .tup (vs ++ vs')) hl2
   exact hc _ _ (.d (.tup (ds ++ es))) S2 (k2.grow g) ((st1.trans st2).trans (.grow g)) (show Rep K _ _ _ _ _ from Rep.tup (k2.nm hl2) (.inl aq) ((Reps.append rr rr').mono (fun a n e => ⟨n, g a e⟩) fun _ x => x)) q⟩
def qF (vb : VT) (Q : VR -> List Sl -> Prop) : VR -> List Sl -> Prop := fun ra S1 => vb S1 fun rb S2 => ∃ ds es, ra = .d (.tup ds) /\ rb = .d (.tup es) /\ ds ≠ [] /\ ds.length + es.length <= 1000 /\ Q (.d (.tup (ds ++ es))) S2
def qG (ra : VR) (Q : VR -> List Sl -> Prop) : VR -> List Sl -> Prop := fun rb S2 => ∃ ds es, ra = .d (.tup ds) /\ rb = .d (.tup es) /\ ds ≠ [] /\ ds.length + es.length <= 1000 /\ Q (.d (.tup (ds ++ es))) S2
theorem yR (h : va S (qF vb Q)) : vT va vb S Q := h
theorem qH {ra : VR} (h : vb S (qG ra Q)) : qF vb Q ra S := h
theorem qI {ds es : List D} (h1 : ds ≠ []) (hl : ds.length + es.length <= 1000) (h : Q (.d (.tup (ds ++ es))) S) : qG (.d (.tup ds)) Q (.d (.tup es)) S := ⟨ds, es, rfl, rfl, h1, hl, h⟩
end
end VL
end
section
namespace L2
open PySem PySem.Spec PyProof.Rows PySem.W
section
variable {X : Cx} {i : Nat} {CB : Addr} {cb en : Str} {b0 : Stmt} {suite body : List Stmt} {h0 : ExceptHandler} {th ts us : TS} {st : Stmt} {np hp tp : Pos}
theorem yS (h1 : PS X st ts) (h2 : PS X st us) : PS X st (fun D σ H => ts D σ H \/ us D σ H) := fun pins s σ H D I h => h.elim (h1 pins s σ H D I) (h2 pins s σ H D I)
def Bw (X : Cx) (Hin : Hp) (E : XK) : Prop := ∀ pins σ H s e s', Inv X pins σ H s -> CX1 X.prog X.w X.stack H s (fun c _ H' => (∀ b, Hin b ≠ none -> H' b = Hin b) /\ E c none H') e s' -> X.xe e s'
end
end L2
end
section
namespace VL
open PySem L2 PySem.W
section
variable {K : PySem.W.Frag} {X : Cx} {ts us : TS} {t u : VTS} {st : Stmt} {body : List Stmt} {h0 : ExceptHandler} {tp : Pos}
def Bx (t u : VTS) : VTS := fun V S => t V S \/ u V S
theorem yT (h1 : VS K X st ts t) (h2 : VS K X st us u) : VS K X st (fun D σ H => ts D σ H \/ us D σ H) (Bx t u) :=
 ⟨yS h1.ps h2.ps, fun H0 Z σ H S V E k zq l => zq.elim (fun z => .inl (h1.snd H0 Z σ H S V E k z l)) fun z => .inr (h2.snd H0 Z σ H S V E k z l)⟩
end
end VL
end
section
namespace VL
open PySem L2 PySem.W
structure VXe (K : PySem.W.Frag) (X : Cx) (Hin : Hp) (E : XK) (e : Expr) (te : TE) (t : (Addr -> Prop) -> List Sl -> Prop) : Prop where
 pe : PE X e te
 snd : ∀ Wc : Addr -> Prop, (∀ C, Wc C -> ∀ H', (∀ a, Hin a ≠ none -> H' a = Hin a) -> E (.ref C) none H') -> ∀ H0 Z σ H S Q, OK K H0 Z σ H S -> Fz Hin Z σ S H -> t Wc S -> te σ H Q
section
variable {K : PySem.W.Frag} {X : Cx} {Hin : Hp} {E : XK} {e : Expr} {es : List Expr} {rest : List Stmt} {te te' : TE} {tr tr' : TA} {t u : (Addr -> Prop) -> List Sl -> Prop} {v : VT} {vr : VTA} {pos : Pos}
theorem qJ {k j : Nat} {x : Str} {ps : List Str} {bad : List D -> Addr -> Prop} {p0 : Pos} (T : Bw X Hin E) (F : iu X.prog X.w X.K X.mg X.base k x ps bad) (hK : X.K = K) (hr : aQ j X.A) (ha : VA K X false (e :: es) tr vr)
  (hk : k <= j := by decide) (hg : Gl X x := by rfl) (hdb : (x == ("__debug__" : Str)) = false := by decide) (he : starEach (e :: es) X.env = (false, eval e X.env) :: starEach es X.env := by rfl)
  (hpl : (backTo pos (starEach es X.env)).any (·.1) = false := by rfl) :
  VXe K X Hin E (.Call (.Name x p0) (e :: es) [] pos) (dU (spX K bad) [] (fun c _ H' => (∀ b, Hin b ≠ none -> H' b = Hin b) /\ E c none H') tr) (fun Wc S => vr S fun rs S1 => ∃ ds C, gets S1 rs = some ds /\ bad ds C /\ Wc C) := by
 subst hK
 obtain ⟨f, fd, F, hm, kp, hb⟩ := F
 refine ⟨i8 F (hr.mono hk) hg hm kp hb .nil (fun pins σ H s e s' I h => T pins σ H s e s' I h) ha.pe hdb he hpl, fun Wc hE H0 Z σ H S Q k f h => ?_⟩
 refine ha.snd H0 Z σ H S _ _ k h fun vs H1 rs S1 k1 st1 rrs zr1 => ?_
 obtain ⟨ds, C, e, hb, hw⟩ := zr1
 have f1 := f.step st1
 refine ⟨ds, C, by rw [List.append_nil]; exact rrs.gets k1 e, hb, fun H' g => ?_⟩
 have fr : ∀ b, Hin b ≠ none -> H' b = Hin b := fun b e => by
  have q := (f1 b e).1
  rw [<- q]
  exact g b (by rw [q]; exact e)
 exact ⟨fr, hE C hw H' fr⟩
end
end VL
end
section
namespace L2
open PySem PySem.Spec PyProof.Rows
def Bmod (mg : Str -> Option Value) (h : Heap) : Prop := ∃ bm o, mg "__builtins__" = some (.ref bm) /\ bm ≠ builtinsNs /\ h.get? bm = some o /\ o.cls = .type "module" /\ o.dict = some builtinsNs /\ o.data = .plain
theorem nS {pos : Pos} {a b : Int} {c cv : Value} (l : List Value) (h : TriplesOk l) (e : codeAmong pos (l ++ [rawInt a, rawInt b, c]) = some cv) : codeAmong pos l = some cv \/ cv = c := by
 fun_induction TriplesOk l with
 | case1 =>
  simp only [List.nil_append, codeAmong, rawInt] at e
  split at e
  ·exact .inr (Option.some.inj e).symm
  ·cases e
 | case2 a t b u x rest ih =>
  simp only [List.cons_append, codeAmong] at e ⊢
  split at e
  ·rename_i hc
   rw [if_pos hc]
   exact .inl e
  ·rename_i hc
   rw [if_neg hc]
   exact ih h e
 | case3 l h1 h2 => exact h.elim
section
variable {X : Cx} {pins : List (Addr × Obj)} {σ : St} {H : Hp} {s : Shared}
theorem yU {M : Model} {A : Around} {E : Value -> Shared -> Prop} {name qual : Str} {params : Arguments} {body : Expr} {scope : Scope} {c P : Addr} {ps : Array Value} {t0 : Tok} {pos : Pos} {firstLine : Nat} {clos : List (Str × Addr)} {Q : Value -> Shared -> Prop}
  (I : Inv X pins σ H s) (hcode : X.env.code = .ref c) (C : PySem.W.CodeHd X.base c P) (hB : Bmod X.mg X.base) (hT : H P = some (.tbl ps)) (hq : ps[0]? = some (.str qual t0)) (hcl : closureFor scope X.env = pure clos)
  (h : ∀ (H' : Hp) (s' : Shared) (f c' : Addr) (ctv pm : Value), Inv X pins σ H' s' -> (∀ a, H a ≠ none -> H' a = H a) -> H' f = none -> s.heap.objs.size <= f -> s'.heap.get? f = some (PySem.W.kla_obj name qual params body scope clos pm c' ctv) ->
   s'.heap.CodeRec (.ref c') qual -> H' c' = some (.own P) -> Q (.ref f) s') :
  wpAny M A (makeFunction name qual params (.expr body) scope X.env [] [] [] pos firstLine) Q E s := by
 obtain ⟨qs, hP, ht, hf⟩ := (show ObjOk X.prog X.w H s.heap P (.tbl ps) from I.hok P _ hT)
 have hgs : s.heap.Ns mainGlobals X.mg := I.mod.glob.keeps I.bk
 obtain ⟨bm, o, b1, b2, b3, b4, b5, b6⟩ := hB
 have hgP : mainGlobals ≠ P := fun z => by
  obtain ⟨o', es, ep, e, hd, _⟩ := hgs
  rw [z, hP] at e
  cases e
  cases hd
 have hbG : bm ≠ mainGlobals := fun z => by
  obtain ⟨o', es, ep, e, hd, _⟩ := I.mod.glob
  rw [z, e] at b3
  cases b3
  rw [hd] at b6
  cases b6
 have hbP : bm ≠ P := fun z => by
  have e := I.bk _ _ b3
  rw [z, hP] at e
  cases e
  cases b4
 have bat : s.heap.BuiltinsAt X.mg P := ⟨bm, o, b1, b2, hbG, hbP, I.bk _ _ b3, b4, b5, b6⟩
 cases e : codeAmong pos qs.toList with
 | some cv =>
  obtain ⟨c1, q, t, rfl, ho, hq1, cr⟩ := hf pos cv e
  rw [hq] at hq1
  cases hq1
  refine PySem.W.kla_makeFunctionHit (mg := X.mg) hcl I.ok.glob hgs hcode (C.keeps I.bk) hP ht e bat fun ctv h' tk hk hsz => ?_
  have k2 : ∀ b u, s.heap.get? b = some u -> (h'.push (PySem.W.kla_obj name qual params body scope clos ((X.mg "__name__").getD .none) c1 ctv)).get? b = some u := fun b u e => Heap.get?_push_of_some _ (hk b u e)
  exact h H _ h'.objs.size c1 ctv _ (I.kept (t' := tk) k2) (fun _ _ => rfl) (I.hok.fresh hsz) hsz (Heap.get?_push_size _ rfl) (cr.keeps k2) ho
 | none =>
  refine PySem.W.kla_makeFunction (mg := X.mg) hcl I.ok.glob hgs hcode (C.keeps I.bk) hP ht e hgP bat fun c' ctv h' tk hx hge hlt hrec htb => ?_
  have hn : H c' = none := I.hok.fresh hge
  generalize hob : PySem.W.kla_obj name qual params body scope clos ((X.mg "__name__").getD .none) c' ctv = ob
  have k2 : ∀ b u, b ≠ P -> s.heap.get? b = some u -> (h'.push ob).get? b = some u := fun b u n e => Heap.get?_push_of_some _ (hx b u n e)
  have nP : ∀ b, H b = none -> b ≠ P := fun b n z => by rw [z, hT] at n; cases n
  have un : Un X.fs [] H (upd H c' (.own P)) s.heap (h'.push ob) := by
   refine ⟨fun b u q n _ _ => k2 b u (nP b n) q, fun b u q n _ _ => ⟨u.slots, k2 b u (nP b n) q⟩, fun b u q n _ => ?_, fun b u q _ => ?_, fun b xs q => ?_, fun b u xs q => ?_, fun b qs q => ⟨#[], ?_⟩⟩
   ·rw [ao (Nat.ne_of_lt (Nat.lt_of_lt_of_le (Heap.lt_size q) hge))]
    exact n
   ·by_cases hb : b = P
    ·exact ⟨_, by rw [hb]; exact Heap.get?_push_of_some _ htb⟩
    ·exact ⟨u, k2 b u hb q⟩
   ·rw [ao (au q hn)]; exact q
   ·rw [ao (au q hn)]; exact q
   ·rw [ao (au q hn), q]; simp
  have hok : HOk X.prog X.w (upd H c' (.own P)) (h'.push ob) := fun b u q => by
   by_cases hb : b = c'
   ·subst hb
    rw [aq] at q
    cases q
    obtain ⟨c2, oc, vs, tq, e2, hoc, _⟩ := hrec
    cases e2
    exact ⟨oc, Heap.get?_push_of_some _ hoc⟩
   ·rw [ao hb] at q
    by_cases hbP : b = P
    ·subst hbP
     rw [hT] at q
     cases q
     refine ⟨qs ++ #[rawInt pos.line, rawInt pos.col, .ref c'], Heap.get?_push_of_some _ htb, by rw [Array.toList_append]; exact TriplesOk_snoc _ _ _ _ ht, fun pos' cv hc => ?_⟩
     rw [Array.toList_append] at hc
     rcases nS _ ht hc with hc | hc
     ·obtain ⟨c1, q1, t1, rfl, ho, hq1, c2, oc, vs, tq, ec, e1, r⟩ := hf pos' cv hc
      cases ec
      exact ⟨c1, q1, t1, rfl, by rw [ao (au ho hn)]; exact ho, hq1, c1, oc, vs, tq, rfl, k2 c1 oc (fun z => by rw [z, hT] at ho; cases ho) e1, r⟩
     ·exact ⟨c', qual, t0, hc, aq, hq, by rw [hc]; exact hrec.push _⟩
    ·refine (I.hok b u q).stay (fun c2 v hc q2 => k2 c2 v ?_ q2) (fun c2 q2 => by rw [ao (au q2 hn)]; exact q2) fun c2 xs q2 => by rw [ao (au q2 hn)]; exact q2
     rcases hc with z | z
     ·rw [z]; exact hbP
     ·exact fun y => by rw [y, hT] at z; cases z
  have hfn : upd H c' (.own P) h'.objs.size = none := by
   rw [ao (Nat.ne_of_gt hlt)]
   exact I.hok.fresh (Nat.le_trans hge (Nat.le_of_lt hlt))
  exact h (upd H c' (.own P)) _ h'.objs.size c' ctv _ (I.un (t' := tk) un hok) (fun a z => ao fun y => z (by rw [y]; exact hn)) hfn (Nat.le_trans hge (Nat.le_of_lt hlt)) (by rw [<- hob]; exact Heap.get?_push_size _ rfl) (hrec.push _) aq
end
def mR (P : Addr) : Option HO -> Bool
 | some (.own x) => x == P
 | _ => false
theorem cI {P : Addr} {o : Option HO} : mR P o = true ↔ o = some (.own P) := by
 constructor
 ·intro h
  unfold mR at h
  split at h
  ·rw [beq_iff_eq.mp h]
  ·cases h
 ·rintro rfl
  exact beq_iff_eq.mpr rfl
def unt (H : Hp) (P : Addr) : Hp := fun b => if b = P \/ mR P (H b) = true then none else H b
def ret (H : Hp) (P : Addr) (H' : Hp) : Hp := fun b => if b = P \/ mR P (H b) = true then H b else H' b
section
variable {Pg : Program} {w : World} {H H' : Hp} {h h' : Heap} {P : Addr} {ps : Array Value}
theorem bp {b : Addr} (n : H b = none) : unt H P b = none := by
 unfold unt
 split
 ·rfl
 ·exact n
theorem qK {b : Addr} {o : HO} (e : unt H P b = some o) : b ≠ P /\ H b ≠ some (.own P) /\ H b = some o := by
 unfold unt at e
 split at e
 ·cases e
 ·rename_i hn
  exact ⟨fun z => hn (.inl z), fun z => hn (.inr (cI.mpr z)), e⟩
theorem el {b : Addr} (h1 : b ≠ P) (h2 : H b ≠ some (.own P)) : unt H P b = H b := by
 unfold unt
 rw [if_neg]
 rintro (z | z)
 ·exact h1 z
 ·exact h2 (cI.mp z)
theorem gW {b : Addr} (h : b = P \/ H b = some (.own P)) : unt H P b = none := by
 unfold unt
 rw [if_pos]
 rcases h with z | z
 ·exact .inl z
 ·exact .inr (cI.mpr z)
theorem gX {b : Addr} (h : b = P \/ H b = some (.own P)) : ret H P H' b = H b := by
 unfold ret
 rw [if_pos]
 rcases h with z | z
 ·exact .inl z
 ·exact .inr (cI.mpr z)
theorem dN {b : Addr} (h1 : b ≠ P) (h2 : H b ≠ some (.own P)) : ret H P H' b = H' b := by
 unfold ret
 rw [if_neg]
 rintro (z | z)
 ·exact h1 z
 ·exact h2 (cI.mp z)
theorem yV (ok : HOk Pg w H h) (hT : H P = some (.tbl ps)) : HOk Pg w (unt H P) h := fun b u e => by
 obtain ⟨h1, h2, h3⟩ := qK e
 refine (ok b u h3).stay (fun _ _ _ q => q) (fun c q => ?_) fun c xs q => ?_
 ·rw [el (fun z => by rw [z, hT] at q; cases q) (fun z => by rw [z] at q; cases q; exact h1 rfl)]
  exact q
 ·rw [el (fun z => by rw [z, hT] at q; cases q) (fun z => by rw [z] at q; cases q)]
  exact q
theorem yW (ok : HOk Pg w H h) (hT : H P = some (.tbl ps)) (ok' : HOk Pg w H' h') (un : ∀ b o, (b = P \/ H b = some (.own P)) -> h.get? b = some o -> h'.get? b = some o /\ H' b = none) : HOk Pg w (ret H P H') h' := fun b u e => by
 have hout : ∀ c o, H' c = some o -> ret H P H' c = some o := fun c o q => by
  by_cases hc : c = P \/ H c = some (.own P)
  ·have there : ∃ x, h.get? c = some x := by
    rcases hc with z | z
    ·obtain ⟨qs, e, _⟩ := (show ObjOk Pg w H h P (.tbl ps) from ok P _ hT)
     exact ⟨_, by rw [z]; exact e⟩
    ·exact (show ObjOk Pg w H h c (.own P) from ok c _ z)
   obtain ⟨x, hx⟩ := there
   rw [(un c x hc hx).2] at q
   cases q
  ·rw [dN (fun z => hc (.inl z)) fun z => hc (.inr z)]
   exact q
 by_cases hb : b = P
 ·subst hb
  rw [gX (.inl rfl), hT] at e
  cases e
  obtain ⟨qs, hP, ht, hf⟩ := (show ObjOk Pg w H h b (.tbl ps) from ok b _ hT)
  refine ⟨qs, (un b _ (.inl rfl) hP).1, ht, fun pos cv hc => ?_⟩
  obtain ⟨c, q, t, rfl, ho, hq, c2, oc, vs, tq, ec, e1, r⟩ := hf pos cv hc
  cases ec
  exact ⟨c, q, t, rfl, by rw [gX (.inr ho)]; exact ho, hq, c, oc, vs, tq, rfl, (un c oc (.inr ho) e1).1, r⟩
 ·by_cases ho : H b = some (.own P)
  ·rw [gX (.inr ho), ho] at e
   cases e
   obtain ⟨x, hx⟩ := (show ObjOk Pg w H h b (.own P) from ok b _ ho)
   exact ⟨x, (un b x (.inr ho) hx).1⟩
  ·rw [dN hb ho] at e
   exact (ok' b u e).stay (fun _ _ _ q => q) (fun c q => hout c _ q) fun c xs q => hout c _ q
end
theorem mS {base h h' : Heap} {fs ch : List Addr} {H H' : Hp} (u : Un fs ch H H' h h') : ∀ l : List Env, (∀ b ∈ frs l, b ∈ fs /\ H b = none /\ b ∉ ch) -> h.FunFrames base l -> h'.FunFrames base l
 | [], _, _ => trivial
 | env :: r, hs, hl => by
  obtain ⟨hk, ⟨L, o, hf, hn, ho, hd⟩, hr⟩ := hl
  have sub : ∀ b ∈ frs r, b ∈ frs (env :: r) := fun b hb => by
   unfold frs at hb ⊢
   rw [List.filterMap_cons, hf]
   exact List.mem_cons_of_mem _ hb
  obtain ⟨h1, h2, h3⟩ := hs L (by unfold frs; rw [List.filterMap_cons, hf]; exact List.mem_cons_self)
  obtain ⟨sl, e⟩ := u.slot L o ho h2 h1 h3
  exact ⟨hk, ⟨L, _, hf, hn, e, hd⟩, mS u r (fun b hb => hs b (sub b hb)) hr⟩
theorem Env0.next {P : Program} {w : World} {mg : Str -> Option Value} {base : Heap} {A : Around} {outer : List Env} {s s' : Shared} {H H' : Hp} {ch : List Addr} (e : Env0 P w K mg base A outer s H) (u : Un (frs outer) ch H H' s.heap s'.heap)
  (hch : ∀ b ∈ ch, base.get? b = none /\ b ∉ frs outer) (hok : HOk P w H' s'.heap) (hg : AllBare s'.gens) (hz : base.objs.size <= s'.heap.objs.size) : Env0 P w K mg base A outer s' H' := by
 have nch : ∀ b o, base.get? b = some o -> b ∉ ch := fun b o q z => by
  rw [(hch b z).1] at q
  cases q
 have nfr : ∀ b o, base.get? b = some o -> b ∉ frs outer := fun b o q z => by
  rw [(e.funs.mem z).1] at q
  cases q
 refine ⟨e.frames, e.mod, fun b o q => ?_, hz, mS u outer (fun b hb => ⟨hb, e.frf b hb, fun z => (hch b z).2 hb⟩) e.funs, fun b hb => ?_, hok, hg⟩
 ·obtain ⟨h1, h2⟩ := e.bs b o q
  exact ⟨u.keep b o h1 h2 (nfr b o q) (nch b o q), u.free b o h1 h2 (nch b o q)⟩
 ·obtain ⟨_, o, ho, _⟩ := e.funs.mem hb
  exact u.free b o ho (e.frf b hb) fun z => (hch b z).2 hb
structure dC (scope : Scope) (x y : Str) : Prop where
 kind : scope.kind = .function
 co : scope.isCoroutine = false
 gen : scope.isGenerator = false
 nocell : ∀ z ∈ scope.names, z.2 ≠ .cell
 loc : scope.names.lookup x = some .local
 fre : scope.names.lookup y = some .free
 one : ∀ z, (z, NameKind.free) ∈ scope.names -> z = y
def fK (P : Program) (w : World) (K : PySem.W.Frag) (mg : Str -> Option Value) (base : Heap) (x y qual : Str) (scope : Scope) (f c' cw : Addr) (A : Around) (outer : List Env) (s : Shared) (H : Hp) : Cx where
 prog := P
 w := w
 K := K
 mg := mg
 base := base
 A := A.deeper (PySem.W.envX qual scope s.heap.objs.size f (.ref c') [(y, cw)])
 N := [x, y]
 s₀ := s
 H₀ := H
 env := PySem.W.envX qual scope s.heap.objs.size f (.ref c') [(y, cw)]
 outer := outer
 stack := PySem.W.envX qual scope s.heap.objs.size f (.ref c') [(y, cw)] :: outer
 ex := []
 fn := fun _ => false
 calm := true
 pn := []
 xe := fun _ _ => False
theorem ui {P : Program} {w : World} {mg : Str -> Option Value} {base : Heap} {x y qual : Str} {scope : Scope} {params : Arguments} {body : Expr} {f c' cw : Addr} {A : Around} {outer : List Env} {s : Shared} {pm ctv u uw : Value} {v vw : V} {k : Nat} {te : TE} {Q : VK} {E : XK}
  (hr : aQ (k + 1) A) (e0 : Env0 P w K mg base A outer s H) (ho : s.heap.get? f = some (PySem.W.kla_obj "<lambda>" qual params body scope [(y, cw)] pm c' ctv)) (hcd : s.heap.CodeRec (.ref c') qual) (hce : s.heap.IsCell cw (some uw)) (hcn : H cw = none) (rw_ : RelV vw uw) (rv : RelV v u) (S : dC scope x y)
  (hbind : bindArgs (PySem.W.kla_fn "<lambda>" qual params body scope [(y, cw)] pm (.ref c') ctv) ⟨[u], []⟩ = pure [(x, u)])
  (ht : PE (fK P w K mg base x y qual scope f c' cw A outer s H) body te) (hq : te [some v, some vw] H Q) :
  codeAny (model P w) A (.call (.ref f) ⟨[u], []⟩) (CR CX0 outer P w H s Q E) s := by
 have lim : s.heap.NoLimit := e0.mod.nolimit.keeps fun b o e => (e0.bs b o e).1
 refine PySem.W.kla_callFunE hr.depth ho rfl S.co S.gen rfl hcd ?_
 rw [hbind]
 refine wpAny_pure (wpAny_newFunctionEnv S.nocell (fun z hz => ?_) (fun h₁ hns hsb => ⟨lim.fresh _ hsb, ?_⟩) S.kind)
 ·rw [List.mem_singleton.mp hz]
  exact S.loc
 have hk : ∀ b o, s.heap.get? b = some o -> h₁.get? b = some o := fun b o e => hsb.extBut b o (Nat.ne_of_lt (Heap.lt_size e)) (Heap.get?_push_of_some _ e)
 have noA : ∀ b : Addr, b ∉ (fK P w K mg base x y qual scope f c' cw A outer s H).ex := fun b z => absurd (show b ∈ ([] : List Addr) from z) (by simp)
 have one : ∀ z c, (fK P w K mg base x y qual scope f c' cw A outer s H).env.cells.lookup z = some c -> z = y /\ c = cw := fun z c e => by
  have e : ([(y, cw)] : List (Str × Addr)).lookup z = some c := e
  rw [List.lookup_cons] at e
  cases q : z == y with
  | true => rw [q] at e; exact ⟨eq_of_beq q, (Option.some.inj e).symm⟩
  | false => rw [q] at e; cases e
 have look : (fK P w K mg base x y qual scope f c' cw A outer s H).env.cells.lookup y = some cw := by
  show ([(y, cw)] : List (Str × Addr)).lookup y = some cw
  rw [List.lookup_cons, beq_self_eq_true]
 have I : Inv (fK P w K mg base x y qual scope f c' cw A outer s H) [] [some v, some vw] H { s with heap := h₁, toks := s.toks + ([(x, u)] : List (Str × Value)).length } := by
  refine ⟨⟨e0.mod, S.kind, rfl, rfl, Nat.le_refl _, fun z z' c h1 h2 => ?_, fun z hz => ?_, fun z c h _ => ?_, fun _ => hr.hd, Around.frames_deeper e0.frames, .inr ⟨rfl, rfl⟩, fun b z => absurd z (noA b), e0.bs, e0.bsz, fun b _ _ => noA b, fun b z => absurd z (noA b), e0.funs, e0.frf⟩,
   rfl, e0.bare, Un.kept hk, ⟨_, hns, fun i z v' h1 h2 h3 => ?_⟩, fun z c h => ?_, e0.hok.fresh (Nat.le_refl _), fun z c h => ?_, fun p hp => absurd (show p ∈ ([] : List (Addr × Obj)) from hp) (by simp), e0.hok.kept hk, rfl⟩
  ·rw [(one z c h1).1, (one z' c h2).1]
  ·have hz : scope.names.lookup z = some .cell \/ scope.names.lookup z = some .free := hz
   rcases hz with hz | hz
   ·exact absurd rfl (S.nocell _ (PySem.mem_of_lookup hz))
   ·rw [S.one z (PySem.mem_of_lookup hz)]
    exact ⟨cw, look⟩
  ·cases h
  ·match i, h1, h2 with
   | 0, h1, h2 =>
    have h1 : some x = some z := h1
    have h2 : some (some v) = some (some v') := h2
    cases h1
    cases h2
    exact ⟨u, rv, .inl ⟨S.loc, by simp [List.lookup_cons]⟩⟩
   | 1, h1, h2 =>
    have h1 : some y = some z := h1
    have h2 : some (some vw) = some (some v') := h2
    cases h1
    cases h2
    obtain ⟨o, e1, e2⟩ := hce
    exact ⟨uw, rw_, .inr ⟨.inr S.fre, cw, look, o, hk _ _ e1, e2⟩⟩
   | i + 2, h1, _ => cases (show ([] : List Str)[i]? = some z from h1)
  ·obtain ⟨_, rfl⟩ := one z c h
   obtain ⟨o, e1, e2⟩ := hce
   exact ⟨_, o, hk _ _ e1, e2⟩
  ·obtain ⟨_, rfl⟩ := one z c h
   exact hcn
 refine PySem.W.kla_codeExpr (wpAny_mono (ht [] _ _ H Q I hq) (fun u' s' zr1 => ?_) fun _ _ z => False.elim z)
 obtain ⟨v', H', J, r, q⟩ := zr1
 exact ⟨v', H', J.os, J.bare, J.base, J.hok, r, q⟩
end L2
end
section
namespace L2
open PySem PySem.Spec PyProof.Rows
theorem eX {α β : Type} {g : α -> β} {m n : List β} (h : m.Perm n) : ∀ {l : List α}, n = l.map g -> ∃ l' : List α, l'.Perm l /\ m = l'.map g := by
 induction h with
 | nil =>
  intro l e
  have : l = [] := List.map_eq_nil_iff.mp e.symm
  subst this
  exact ⟨[], .nil, rfl⟩
 | @cons x a b _ ih =>
  intro l e
  match l, e with
  | y :: l, e =>
   rw [List.map_cons] at e
   injection e with e1 e2
   obtain ⟨l', p, rfl⟩ := ih e2
   exact ⟨y :: l', .cons y p, by rw [List.map_cons, e1]⟩
 | swap x y a =>
  intro l e
  match l, e with
  | u :: v :: l, e =>
   rw [List.map_cons, List.map_cons] at e
   injection e with e1 e2
   injection e2 with e2 e3
   exact ⟨v :: u :: l, .swap u v l, by rw [List.map_cons, List.map_cons, e1, e2, e3]⟩
  | [u], e => simp at e
 | trans _ _ ih1 ih2 =>
  intro l e
  obtain ⟨l2, p2, e2⟩ := ih2 e
  obtain ⟨l1, p1, e1⟩ := ih1 e2
  exact ⟨l1, p1.trans p2, e1⟩
def uj : HO -> Bool
 | .tbl _ => false
 | .own _ => false
 | _ => true
def qL (K : PySem.W.Frag) (iy : Nat) (ta : TA) (te : TE) : TE := fun σ H Q => ta σ H fun vs H1 => ∃ (l : Addr) (as : List Addr) (vw : V) (kz : List Int), vs = [.ref l] /\ SqL K H1 l (as.map V.ref) /\ as.length < 64 /\ kz.length = as.length /\ σ[iy]? = some (some vw) /\
 (∀ (i : Nat) (a : Addr) (k : Int), as[i]? = some a -> kz[i]? = some k -> ∀ H2 : Hp, (∀ b o, H1 b = some o -> uj o = true -> H2 b = some o) -> te [some (.ref a), some vw] H2 fun v H3 => v = .int k /\ ∀ b, H2 b ≠ none -> H3 b = H2 b) /\
 ∀ (D : Addr) (l' : List (Int × Addr)) (H2 : Hp), (∀ b, H1 b ≠ none -> H2 b = H1 b) -> H2 D = none -> l'.Perm (kz.zip as) -> l'.Pairwise (fun p q => p.1 <= q.1) -> Q (.ref D) (upd H2 D (.lst (l'.map fun p => V.ref p.2)))
section
variable {X : Cx} {pins : List (Addr × Obj)} {σ : St} {H : Hp} {s : Shared}
theorem Inv.notFr (I : Inv X pins σ H s) {a : Addr} (h : s.heap.objs.size <= a) : a ∉ frs X.stack := fun z => by
 rcases List.mem_cons.mp (I.stkSub a z) with e | e
 ·have := I.lt
  rw [<- e] at this
  exact absurd (Nat.lt_of_lt_of_le this h) (Nat.lt_irrefl _)
 ·exact I.nofs h e
theorem qM {x y qual : Str} {scope : Scope} {params : Arguments} {body : Expr} {f c' cw P l : Addr} {pm ctv uw : Value} {vw : V} {k : Nat} {te : TE} {ps : Array Value} {as : List Addr} {kz : List Int} {Q : Value -> Shared -> Prop} {E : Value -> Shared -> Prop}
  (I : Inv X pins σ H s) (hr : aQ (k + 3) X.A) (hT : H P = some (.tbl ps)) (hfn : H f = none) (hff : f ∉ frs X.stack) (ho : s.heap.get? f = some (PySem.W.kla_obj "<lambda>" qual params body scope [(y, cw)] pm c' ctv)) (hcd : s.heap.CodeRec (.ref c') qual) (hc' : H c' = some (.own P))
  (hce : s.heap.IsCell cw (some uw)) (hcn : H cw = none) (rw_ : RelV vw uw) (S : dC scope x y)
  (hbind : ∀ u, bindArgs (PySem.W.kla_fn "<lambda>" qual params body scope [(y, cw)] pm (.ref c') ctv) ⟨[u], []⟩ = pure [(x, u)])
  (hl : s.heap.IsList l (as.map Value.ref).toArray) (h64 : as.length < 64) (hlen : kz.length = as.length)
  (ht : ∀ (A : Around) (s : Shared) (H : Hp), aQ k (A.deeper (PySem.W.envX qual scope s.heap.objs.size f (.ref c') [(y, cw)])) -> PE (fK X.prog X.w X.K X.mg X.base x y qual scope f c' cw A X.stack s H) body te)
  (hk : ∀ (i : Nat) (a : Addr) (k : Int), as[i]? = some a -> kz[i]? = some k -> ∀ H2 : Hp, (∀ b, unt H P b ≠ none -> H2 b = unt H P b) -> te [some (.ref a), some vw] H2 fun v H3 => v = .int k /\ ∀ b, H2 b ≠ none -> H3 b = H2 b)
  (fin : ∀ (D : Addr) (l' : List (Int × Addr)) (H2 : Hp) (s' : Shared), (∀ b, H b ≠ none -> H2 b = H b) -> H2 D = none -> Inv X pins σ (upd H2 D (.lst (l'.map fun p => V.ref p.2))) s' -> l'.Perm (kz.zip as) -> l'.Pairwise (fun p q => p.1 <= q.1) -> Q (.ref D) s') :
  wpAny (model X.prog X.w) X.A (call (.builtin "sorted") [.ref l] [(Str.ofString "key", .ref f)]) Q E s := by
 have hsz0 : (as.map Value.ref).length < 64 := by rw [List.length_map]; exact h64
 have line : 64 <= sizeLine := by rw [sizeLine_eq]; decide
 -- the table and its codes out of sight
 have hokU := yV I.hok hT
 have stF : ∀ b ∈ frs X.stack, unt H P b = none := fun b hb => bp (I.stkFree b hb)
 have eU : ∀ {A : Around}, A.frames = some X.stack -> Env0 X.prog X.w X.K X.mg X.base A X.stack s (unt H P) := fun hA =>
  ⟨hA, I.ok.mod, fun b o q => ⟨(I.bs b o q).1, bp (I.bs b o q).2⟩, Nat.le_trans I.ok.bsz I.sz, I.stack, stF, hokU, I.bare⟩
 have frA : X.A.in1.in1.frames = some X.stack := I.ok.frames
 obtain ⟨mL, hmL, _⟩ := id I.loc
 obtain ⟨oL, esL, epL, hoL, hdL, rL⟩ := id hmL
 have hLf : unt H P X.env.locals = none := bp I.free
 refine call_function_entry_kw kind_sorted plain_sorted entry_sorted (ksk_s1 _ _) ?_
 unfold Builtin.«sorted»
 refine wpAny_bind (m := checkCount "sorted" 1 1 _) (wpAny_pure (wpAny_bind (collect_list hl ?_ (Nat.le_trans (Nat.le_of_lt hsz0) line))))
 refine wpAny_bind (wpAny_newList ?_ (Nat.le_trans (Nat.le_of_lt hsz0) line))
 have keepA : ∀ b o, s.heap.get? b = some o -> ((s.heap.push (seqObj "list" #[] 0)).update s.heap.objs.size (Obj.mapSeq (· ++ (as.map Value.ref).toArray))).get? b = some o := fun b o q => by
  have n : b ≠ s.heap.objs.size := Nat.ne_of_lt (Heap.lt_size q)
  rw [Heap.get?_update_ne _ _ _ _ n]
  exact Heap.get?_push_of_some _ q
 have sizeA : s.heap.objs.size <= ((s.heap.push (seqObj "list" #[] 0)).update s.heap.objs.size (Obj.mapSeq (· ++ (as.map Value.ref).toArray))).objs.size := by
  rw [Heap.size_update, Heap.size_push]
  exact Nat.le_succ _
 dsimp only
 generalize (s.heap.push (seqObj "list" #[] 0)).update s.heap.objs.size (Obj.mapSeq (· ++ (as.map Value.ref).toArray)) = hA at keepA sizeA ⊢
 generalize hD : hA.objs.size = D at sizeA ⊢
 have oD : (hA.push (seqObj "list" (as.map Value.ref).toArray 0)).get? D = some (seqObj "list" (as.map Value.ref).toArray 0) := by rw [<- hD]; exact Heap.get?_push_size _ rfl
 have keepB : ∀ b o, s.heap.get? b = some o -> (hA.push (seqObj "list" (as.map Value.ref).toArray 0)).get? b = some o := fun b o q => Heap.get?_push_of_some _ (keepA b o q)
 refine wpAny_bind (wpAny_holding (wpAny_call_entry_kw slot_list_sort ⟨_, oD, rfl⟩ entry_list_sort ?_ (ksk_l1 _ _)))
 rw [ksk_t1]
 show wpAny (model X.prog X.w) X.A.in1.in1 (ksk_tree D (.ref f) false) _ _ { s with heap := hA.push (seqObj "list" (as.map Value.ref).toArray 0) }
 have sizeB : (hA.push (seqObj "list" (as.map Value.ref).toArray 0)).objs.size = D + 1 := by rw [Heap.size_push, hD]
 generalize hA.push (seqObj "list" (as.map Value.ref).toArray 0) = hB at oD keepB sizeB ⊢
 clear keepA hD hA
 unfold ksk_tree
 refine wpAny_bind (listItems_at oD rfl (wpAny_bind (listUpdate_at oD rfl ?_ (by rw [List.size_toArray]; exact Nat.le_trans (Nat.le_of_lt hsz0) line) (Nat.zero_le _))))
 obtain ⟨e1, oD1⟩ : ∃ e1, (hB.update D (Obj.mapSeq fun _ => (#[] : Array Value))).get? D = some (seqObj "list" #[] e1) := ⟨_, get?_update_seq oD fun _ => #[]⟩
 have keepC : ∀ b o, s.heap.get? b = some o -> (hB.update D (Obj.mapSeq fun _ => (#[] : Array Value))).get? b = some o := fun b o q => by
  rw [Heap.get?_update_ne _ _ _ _ (Nat.ne_of_lt (Nat.lt_of_lt_of_le (Heap.lt_size q) sizeA))]
  exact keepB b o q
 have sizeC : (hB.update D (Obj.mapSeq fun _ => (#[] : Array Value))).objs.size = D + 1 := by rw [Heap.size_update, sizeB]
 dsimp only
 generalize hB.update D (Obj.mapSeq fun _ => (#[] : Array Value)) = hC at oD1 keepC sizeC ⊢
 clear oD keepB sizeB hB
 refine wpAny_bind (seqEpoch_at oD1 rfl (wpAny_bind (wpAny_newTuple (wpAny_bind (wpAny_newList (wpAny_holding ?_) (Nat.zero_le _))) (by show (as.map Value.ref).length <= _; exact Nat.le_trans (Nat.le_of_lt hsz0) line))))
 dsimp only
 have sizeD : (hC.push { cls := .type "tuple", data := .seq (as.map Value.ref).toArray }).objs.size = D + 2 := by rw [Heap.size_push, sizeC]
 rw [sizeD]
 have nDK : D + 2 ≠ D := by omega
 have oK : ((hC.push { cls := .type "tuple", data := .seq (as.map Value.ref).toArray }).push { cls := .type "list", data := .seq #[] }).get? (D + 2) = some (seqObj "list" #[] 0) := by rw [<- sizeD]; exact Heap.get?_push_size _ rfl
 have oD2 : ((hC.push { cls := .type "tuple", data := .seq (as.map Value.ref).toArray }).push { cls := .type "list", data := .seq #[] }).get? D = some (seqObj "list" #[] e1) := Heap.get?_push_of_some _ (Heap.get?_push_of_some _ oD1)
 have keepF : ∀ b o, s.heap.get? b = some o -> ((hC.push { cls := .type "tuple", data := .seq (as.map Value.ref).toArray }).push { cls := .type "list", data := .seq #[] }).get? b = some o := fun b o q => Heap.get?_push_of_some _ (Heap.get?_push_of_some _ (keepC b o q))
 generalize (hC.push { cls := .type "tuple", data := .seq (as.map Value.ref).toArray }).push { cls := .type "list", data := .seq #[] } = hF at oK oD2 keepF ⊢
 clear sizeD keepC sizeC oD1 hC
 have sizeK : s.heap.objs.size <= D + 2 := Nat.le_trans sizeA (Nat.le_add_right _ _)
 generalize D + 2 = kS at oK nDK sizeK ⊢
 have ltS : ∀ {b : Addr} {o : Obj}, s.heap.get? b = some o -> b ≠ D /\ b ≠ kS := fun q => ⟨Nat.ne_of_lt (Nat.lt_of_lt_of_le (Heap.lt_size q) sizeA), Nat.ne_of_lt (Nat.lt_of_lt_of_le (Heap.lt_size q) sizeK)⟩
 have bsN : ∀ {a : Addr}, s.heap.objs.size <= a -> X.base.get? a = none := fun h => Heap.get?_none_of_le (Nat.le_trans (Nat.le_trans I.ok.bsz I.sz) h)
 have bL : X.base.objs.size <= X.env.locals := Nat.le_trans I.ok.bsz I.ok.above
 have nfD : D ∉ frs X.stack := I.notFr sizeA
 have nfK : kS ∉ frs X.stack := I.notFr sizeK
 have nfT : ∀ b, H b ≠ none -> b ∉ frs X.stack := fun b h z => h (I.stkFree b z)
 have szU : ∀ {H' : Hp} {h' : Heap}, Un (frs X.stack) [] (unt H P) H' s.heap h' -> X.base.objs.size <= h'.objs.size := fun u => by
  obtain ⟨o', e'⟩ := u.there _ _ hoL (by simp)
  exact Nat.le_trans bL (Nat.le_of_lt (Heap.lt_size e'))
 have unF : Un (frs X.stack) [] (unt H P) (unt H P) s.heap hF := Un.kept keepF
 unfold ksk_rest
 refine wpAny_bind (wpAny_rule ?_)
 rw [List.forIn_toArray]
 refine wpAny_bind (ksk_fold (fun i s' => ∃ H' kA e, Env0 X.prog X.w X.K X.mg X.base X.A.in1.in1 X.stack s' H' /\ Un (frs X.stack) [] (unt H P) H' s.heap s'.heap /\ (∀ b, unt H P b ≠ none -> H' b = unt H P b) /\ s'.os = s.os /\
   (H' D = none /\ s'.heap.get? D = some (seqObj "list" #[] e1)) /\ (H' kS = none /\ s'.heap.get? kS = some (seqObj "list" kA e)) /\ IntsAre kA.toList (kz.take i)) (as.map Value.ref) 0 _
  ⟨unt H P, #[], 0, (eU frA).next (s' := { s with heap := hF }) unF (fun b hb => absurd hb (by simp)) (hokU.kept keepF) I.bare (szU unF), unF, fun _ _ => rfl, rfl, ⟨bp (I.hok.fresh sizeA), oD2⟩, ⟨bp (I.hok.fresh sizeK), oK⟩, by simpa using IntsAre.nil⟩ ?_ ?_)
 ·rintro j x' s' hx ⟨H', kA, e, e0, un, gr, os, ⟨hDn, hDo⟩, ⟨hKn, hKo⟩, hi⟩
  simp only [Nat.zero_add] at hi ⊢
  rw [List.getElem?_map] at hx
  obtain ⟨a, ha, rfl⟩ := Option.map_eq_some_iff.mp hx
  have hj : j < as.length := (List.getElem?_eq_some_iff.mp ha).1
  obtain ⟨z, hz⟩ : ∃ z, kz[j]? = some z := ⟨_, List.getElem?_eq_getElem (by omega)⟩
  have hzl : kA.size <= 64 := by
   have h1 := hi.length
   rw [Array.length_toList, List.length_take] at h1
   omega
  have ho' := un.keep f _ ho (bp hfn) hff (by simp)
  have hcd' : s'.heap.CodeRec (.ref c') qual := by
   obtain ⟨c2, oc, vs, tq, ec, q1, q2⟩ := hcd
   cases ec
   exact ⟨c', oc, vs, tq, rfl, un.keep c' oc q1 (gW (.inr hc')) (nfT c' (by rw [hc']; simp)) (by simp), q2⟩
  have hce' : s'.heap.IsCell cw (some uw) /\ H' cw = none := by
   obtain ⟨oc, q1, q2⟩ := hce
   obtain ⟨sl, q3⟩ := un.any q1 (bp hcn) (by simp)
   exact ⟨⟨_, q3, q2⟩, un.free cw oc q1 (bp hcn) (by simp)⟩
  have run : wpAny (model X.prog X.w) X.A.in1.in1 (call (.ref f) [.ref a]) (CE X.stack X.prog X.w H' s' fun v H3 => v = .int z /\ ∀ b, H' b ≠ none -> H3 b = H' b) (fun _ _ => False) s' := by
   refine wpAny_call (codeAny_mono (ui (E := fun _ _ _ => False) hr.in1.in1 e0 ho' hcd' hce'.1 hce'.2 rw_ (show RelV (V.ref a) (Value.ref a) from rfl) S (hbind _) (ht X.A.in1.in1 s' H' (hr.in1.in1.deeper _)) (hk j a z ha hz H' gr)) fun r s'' hq => ?_)
   cases r with
   | error e => exact False.elim hq
   | ok fl =>
    cases fl with
    | ret u => exact hq
    | next => exact False.elim hq
    | brk => exact False.elim hq
    | cont => exact False.elim hq
  refine wpAny_bind (wpAny_attempt (wpAny_mono run (fun u s'' hq => ?_) fun _ _ hF => hF.elim))
  obtain ⟨v, H2, os2, bare2, un2, hok2, rr, rfl, gr2⟩ := hq
  obtain ⟨t, rfl⟩ := rr
  have unn := un.trans un2
  have hDo2 := un2.keep D _ hDo hDn nfD (by simp)
  have hDn2 := un2.free D _ hDo hDn (by simp)
  have hKo2 := un2.keep kS _ hKo hKn nfK (by simp)
  have hKn2 := un2.free kS _ hKo hKn (by simp)
  have e2 := e0.next un2 (fun b hb => absurd hb (by simp)) hok2 bare2 (szU unn)
  have upd3 : ∀ b, b ≠ kS -> (s''.heap.update kS (Obj.mapSeq (·.push (.int z t)))).get? b = s''.heap.get? b := fun b hb => Heap.get?_update_ne _ _ _ _ hb
  obtain ⟨c2, hc2⟩ : ∃ c2, (s''.heap.update kS (Obj.mapSeq (·.push (.int z t)))).get? kS = some (seqObj "list" (kA.push (.int z t)) c2) := ⟨_, get?_update_seq hKo2 (·.push (.int z t))⟩
  dsimp only
  refine wpAny_bind (listUpdate_at hKo2 rfl ?_ (Nat.le_trans hzl line) (Nat.le_trans (Nat.le_of_eq (Array.size_push ..)) (Nat.succ_le_succ (Nat.le_trans hzl line))))
  generalize s''.heap.update kS (Obj.mapSeq (·.push (.int z t))) = h3 at upd3 hc2 ⊢
  have un3 : Un (frs X.stack) [kS] H2 H2 s''.heap h3 := by
   have nk : ∀ b, b ∉ [kS] -> b ≠ kS := fun b hb z => hb (by simp [z])
   exact ⟨fun b o q _ _ hb => by rw [upd3 b (nk b hb)]; exact q, fun b o q _ _ hb => ⟨o.slots, by rw [upd3 b (nk b hb)]; exact q⟩, fun _ _ _ n _ => n, fun b o q hb => ⟨o, by rw [upd3 b (nk b hb)]; exact q⟩, fun _ _ q => q, fun _ _ _ q => q, fun b ps q => ⟨#[], by rw [q]; simp⟩⟩
  have unS : Un (frs X.stack) [] (unt H P) H2 s.heap h3 := by
   refine ⟨fun b o q n h1 h2 => ?_, fun b o q n h1 h2 => ?_, unn.free, fun b o q h2 => ?_, unn.tups, unn.frzs, unn.tbls⟩
   ·rw [upd3 b (ltS q).2]; exact unn.keep b o q n h1 h2
   ·rw [upd3 b (ltS q).2]; exact unn.slot b o q n h1 h2
   ·rw [upd3 b (ltS q).2]; exact unn.there b o q h2
  have hok3 : HOk X.prog X.w H2 h3 := fun b u q => (hok2 b u q).stay (fun c v hc q2 => by
   rw [upd3 c]
   ·exact q2
   ·rintro rfl
    rcases hc with z' | z'
    ·rw [<- z', hKn2] at q; cases q
    ·rw [hKn2] at z'; cases z') (fun _ q => q) fun _ _ q => q
  have ek : kz.take (j + 1) = kz.take j ++ [z] := by rw [List.take_add_one, hz]; rfl
  refine wpAny_pure ⟨rfl, H2, kA.push (.int z t), c2, e2.next (s' := { s'' with heap := h3 }) un3 (fun b hb => ?_) hok3 bare2 (szU unS), unS, fun b hb => ?_, os2.trans os, ⟨hDn2, ?_⟩, ⟨hKn2, hc2⟩, ?_⟩
  ·rw [List.mem_singleton.mp hb]
   exact ⟨bsN sizeK, nfK⟩
  ·have g1 := gr b hb
   rw [gr2 b (by rw [g1]; exact hb), g1]
  ·rw [upd3 D nDK.symm]; exact hDo2
  ·rw [ek, Array.toList_push]
   exact ksk_snoc hi
 ·rintro s' ⟨H', kA, e, e0, un, gr, os, ⟨hDn, hDo⟩, ⟨hKn, hKo⟩, hi⟩
  rw [List.length_map, Nat.zero_add, List.take_of_length_le (Nat.le_of_eq hlen)] at hi
  have nIn : ∀ b, (b = P \/ H b = some (.own P)) -> H b ≠ none := fun b hb => by
   rcases hb with z | z
   ·rw [z, hT]; simp
   ·rw [z]; simp
  have hokR : HOk X.prog X.w (ret H P H') s'.heap := yW I.hok hT e0.hok fun b o hb q => ⟨un.keep b o q (gW hb) (nfT b (nIn b hb)) (by simp), un.free b o q (gW hb) (by simp)⟩
  have outN : ∀ b, H b = none -> ret H P H' b = H' b := fun b n => dN (fun z => by rw [z, hT] at n; cases n) (fun z => by rw [n] at z; cases z)
  have outK : ∀ b o, H b = some o -> uj o = true -> ret H P H' b = H' b /\ unt H P b = some o := fun b o q nt => by
   have h1 : b ≠ P := fun z => by rw [z, hT] at q; cases q; cases nt
   have h2 : H b ≠ some (.own P) := fun z => by rw [z] at q; cases q; cases nt
   exact ⟨dN h1 h2, by rw [el h1 h2]; exact q⟩
  have unR : Un (frs X.stack) [] H (ret H P H') s.heap s'.heap := by
   refine ⟨fun b o q n h1 h2 => un.keep b o q (bp n) h1 h2, fun b o q n h1 h2 => un.slot b o q (bp n) h1 h2, fun b o q n h2 => by rw [outN b n]; exact un.free b o q (bp n) h2, un.there, fun b xs q => ?_, fun b o u q => ?_, fun b qs q => ?_⟩
   ·obtain ⟨r1, r2⟩ := outK b _ q rfl
    rw [r1]; exact un.tups b xs r2
   ·obtain ⟨r1, r2⟩ := outK b _ q rfl
    rw [r1]; exact un.frzs b o u r2
   ·by_cases hb : b = P
    ·exact ⟨#[], by rw [gX (.inl hb), q]; simp⟩
    ·have h2 : H b ≠ some (.own P) := fun z => by rw [z] at q; cases q
     obtain ⟨more, r⟩ := un.tbls b qs (by rw [el hb h2]; exact q)
     exact ⟨more, by rw [dN hb h2]; exact r⟩
  have I1 : Inv X pins σ (ret H P H') s' := I.call' os unR hokR e0.bare fun b z => absurd z (by simp)
  have grR : ∀ b, H b ≠ none -> ret H P H' b = H b := fun b hb => by
   by_cases hc : b = P \/ H b = some (.own P)
   ·exact gX hc
   ·have h1 : b ≠ P := fun z => hc (.inl z)
    have h2 : H b ≠ some (.own P) := fun z => hc (.inr z)
    rw [dN h1 h2, gr b (by rw [el h1 h2]; exact hb), el h1 h2]
  have hRD : ret H P H' D = none := by rw [outN D (I.hok.fresh sizeA)]; exact hDn
  have hRK : ret H P H' kS = none := by rw [outN kS (I.hok.fresh sizeK)]; exact hKn
  have nL : ∀ {a : Addr}, s.heap.objs.size <= a -> a ≠ X.env.locals := fun h => Nat.ne_of_gt (Nat.lt_of_lt_of_le I.lt h)
  obtain ⟨m, F⟩ := I1.fr
  have nw : ∀ p ∈ (bG X.base s'.heap X.env.locals).filter (fun p => decide (p.1 ≠ D /\ p.1 ≠ kS)), p.1 ≠ D /\ p.1 ≠ kS := fun p hp => of_decide_eq_true (List.mem_filter.mp hp).2
  refine wpAny_bind (listItems_at hKo rfl ?_)
  refine ksk_end_ (e := e) (h₀ := X.base) (L := X.env.locals) (m := m) (news := (bG X.base s'.heap X.env.locals).filter (fun p => decide (p.1 ≠ D /\ p.1 ≠ kS))) (kz := kz) (vs := as.map Value.ref) F (fun p hp => ?_) nDK (fun p hp => (nw p hp).2) (fun p hp => (nw p hp).1) hi (by rw [List.length_map]; exact hlen) hsz0 fun h' tk out c F' N' ko => ⟨.none, rfl, wpAny_pure ⟨.ref D, rfl, ?_⟩⟩
  ·rcases List.mem_append.mp hp with hp | hp
   ·exact gk p (List.mem_filter.mp hp).1
   ·rcases List.mem_cons.mp hp with hp | hp
    ·subst hp; exact ⟨hKo, nL sizeK, bsN sizeK⟩
    ·rw [List.mem_singleton.mp hp]; exact ⟨hDo, nL sizeA, bsN sizeA⟩
  have kp : ∀ b o, b ≠ X.env.locals -> b ≠ D -> b ≠ kS -> s'.heap.get? b = some o -> h'.get? b = some o := fun b o h1 h2 h3 q => by
   cases z : X.base.get? b with
   | some u =>
    have := I1.bk b u z
    rw [q] at this
    cases this
    exact F'.keep b _ z
   | none => exact (N' (b, o) (List.mem_cons_of_mem _ (List.mem_filter.mpr ⟨cZ h1 z q, decide_eq_true ⟨h2, h3⟩⟩))).1
  have tr : ∀ b u, ret H P H' b = some u -> b ≠ X.env.locals /\ b ≠ D /\ b ≠ kS := fun b u q => ⟨au q I1.free, au q hRD, au q hRK⟩
  have chOk : ∀ a, s.heap.objs.size <= a -> (a ∈ X.ex \/ X.s₀.heap.objs.size <= a) /\ a ≠ X.env.locals /\ (∀ x c, X.env.cells.lookup x = some c -> c ≠ a) /\ ∀ p ∈ X.pn ++ pins, p.1 ≠ a := fun a ha => by
   refine ⟨.inr (Nat.le_trans I.sz ha), nL ha, fun x c q => ?_, fun p hp => ?_⟩
   ·obtain ⟨v, o, q1, _⟩ := I.cell x c q
    exact Nat.ne_of_lt (Nat.lt_of_lt_of_le (Heap.lt_size q1) ha)
   ·exact Nat.ne_of_lt (Nat.lt_of_lt_of_le (Heap.lt_size (I.pin p hp).1) ha)
  have I2 : Inv X pins σ (ret H P H') { s' with heap := h', toks := tk } := by
   refine I1.step (g' := s'.gens) (d' := s'.drawn) (ch := [D, kS]) (fun b hb => ?_) (fun b o h1 _ hc q _ => kp b o h1 (fun z => hc (by simp [z])) (fun z => hc (by simp [z])) q) (fun b o h1 _ hc q _ => ⟨o.slots, kp b o h1 (fun z => hc (by simp [z])) (fun z => hc (by simp [z])) q⟩) (fun _ _ _ _ n => n) (fun b o hc q => ?_) (fun _ _ q => q) (fun _ _ _ q => q) (fun b ps q => ⟨#[], by rw [q]; simp⟩) (fun m' hm' => ?_) (fun b u q => ?_) e0.bare
   ·rcases List.mem_cons.mp hb with hb | hb
    ·rw [hb]; exact chOk D sizeA
    ·rw [List.mem_singleton.mp hb]; exact chOk kS sizeK
   ·by_cases hb : b = X.env.locals
    ·obtain ⟨o', _, _, ho', _⟩ := F'.ns
     exact ⟨o', by rw [hb]; exact ho'⟩
    ·exact ⟨o, kp b o hb (fun z => hc (by simp [z])) (fun z => hc (by simp [z])) q⟩
   ·have em : m' = m := by
     obtain ⟨o, es, ep, q1, q2, _, q3⟩ := F.ns
     obtain ⟨o2, es2, ep2, q4, q5, _, q6⟩ := hm'
     rw [q1] at q4; cases q4
     rw [q2] at q5; cases q5
     funext x
     rw [<- q3 x, <- q6 x]
    rw [em]
    exact F'.ns
   ·obtain ⟨t1, t2, t3⟩ := tr b u q
    refine (hokR b u q).stay (fun c v hc q2 => ?_) (fun _ q => q) fun _ _ q => q
    rcases hc with z | z
    ·rw [z] at q2 ⊢; exact kp b v t1 t2 t3 q2
    ·obtain ⟨y1, y2, y3⟩ := tr c _ z
     exact kp c v y1 y2 y3 q2
  obtain ⟨qs, qp, qo, qw⟩ := ko
  obtain ⟨l', pl, rfl⟩ := eX qp (l := kz.zip as) (g := fun p => (p.1, Value.ref p.2)) (by rw [List.zip_map_right]; rfl)
  rw [List.map_map] at qo
  rw [List.pairwise_map] at qw
  have vl : ∀ l : List (Int × Addr), Vals (l.map fun p => V.ref p.2) (l.map (Prod.snd ∘ fun p => (p.1, Value.ref p.2))) := fun l => by
   induction l with
   | nil => exact .nil
   | cons p l ih => exact .cons rfl ih
  have hll : l'.length < 64 := by rw [pl.length_eq, List.length_zip]; omega
  have ND := (N' (D, _) List.mem_cons_self).1
  refine fin D l' (ret H P H') _ grR hRD (I2.track hRD (Nat.le_trans I.sz sizeA) (nL sizeA) (chOk D sizeA).2.2.1 (chOk D sizeA).2.2.2 ⟨by rw [List.length_map]; exact Nat.le_trans (Nat.le_of_lt hll) line, out.toList, c, ?_, ?_⟩) pl ?_
  ·rw [qo]; exact vl l'
  ·rw [Array.toArray_toList]; exact ND
  ·exact qw.imp fun h => by simpa using h
end
end L2
end
section
namespace L2
open PySem PySem.Spec PyProof.Rows
def bN (H : Hp) (P : Addr) (q : Str) : Prop := ∃ ps t, H P = some (.tbl ps) /\ ps[0]? = some (.str q t)
theorem Inv.tab {X : Cx} {s : Shared} {P : Addr} {q : Str} (I : Inv X pins σ H s) (h : bN X.H₀ P q) : bN H P q := by
 obtain ⟨ps, t, e, hq⟩ := h
 obtain ⟨more, e2⟩ := I.base.tbls P ps e
 refine ⟨_, t, e2, ?_⟩
 have hz : 0 < ps.size := (Array.getElem?_eq_some_iff.mp hq).1
 rw [Array.getElem?_append_left hz]
 exact hq
section
variable {X : Cx}
theorem qN {e : Expr} {p pos lpos kpos : Pos} {x y qual : Str} {scope : Scope} {params : Arguments} {body : Expr} {c P : Addr} {k iy : Nat} {ta : TA} {te : TE} (hr : aQ (k + 3) X.A) (hg : Gl X "sorted") (hm : X.mg "sorted" = none) (hb : bootBuiltins "sorted" = some (.builtin "sorted"))
  (hcode : X.env.code = .ref c) (C : PySem.W.codeHdIn X.K c P = true) (hB : Bmod X.mg X.base) (hT : bN X.H₀ P qual) (hq : X.env.qual ++ "<lambda>" = qual) (S : dC scope x y) (hyN : X.N[iy]? = some y) (hyk : X.env.scope.names.lookup y = some .cell) (hdef : defaultsOf params X.env = ([], []))
  (hcl : ∀ cw, X.env.cells.lookup y = some cw -> closureFor scope X.env = pure [(y, cw)])
  (hbind : ∀ (cw c' : Addr) (pm ctv u : Value), bindArgs (PySem.W.kla_fn "<lambda>" qual params body scope [(y, cw)] pm (.ref c') ctv) ⟨[u], []⟩ = pure [(x, u)]) (ha : PA X [e] ta)
  (ht : ∀ (f c' cw : Addr) (A : Around) (s : Shared) (H : Hp), aQ k (A.deeper (PySem.W.envX qual scope s.heap.objs.size f (.ref c') [(y, cw)])) -> PE (fK X.prog X.w X.K X.mg X.base x y qual scope f c' cw A X.stack s H) body te)
  (he : backTo pos (starEach [e] X.env) = (false, eval e X.env) :: backTo pos (starEach [] X.env) := by rfl) (hpl : (backTo pos (starEach [e] X.env)).any (·.1) = false := by rfl) :
  PE X (.Call (.Name "sorted" p) [e] [⟨some "key", .Lambda params body scope lpos, kpos⟩] pos) (qL X.K iy ta te) := by
 intro pins s σ H Q I h
 refine wpAny_Call_Name_kw (dY I hg hm hb ?_)
 refine callWith_kw (thn (ha pos pins s σ H _ I h) fun us s1 zr1 => ?_) he hpl
 obtain ⟨vs, H1, I1, r1, q1⟩ := zr1
 obtain ⟨l, as, vw, kz, rfl, hl, h64, hlen, hvw, hk, fin⟩ := q1
 obtain ⟨u, rfl, rx⟩ := vals1 r1
 cases rx
 obtain ⟨ps, t0, hT1, hq0⟩ := I1.tab hT
 obtain ⟨cw, hcw⟩ := I1.ok.has y (.inl hyk)
 refine kws_cons (PySem.W.kla_eval hdef ?_)
 rw [hq]
 refine yU I1 hcode (PySem.W.codeHd_of_K I1.ok.mod.kin C) hB hT1 hq0 (hcl cw hcw) fun H' s' f c' ctv pm J gr hfn hsz ho hcd hc' => kws_nil ?_
 show wpAny _ _ (call (.builtin "sorted") [.ref l] [(Str.ofString "key", .ref f)]) _ _ s'
 have hT' : H' P = some (.tbl ps) := (gr P (by rw [hT1]; simp)).trans hT1
 have hl' : SqL X.K H' l (as.map V.ref) := by
  rcases hl with (h | ⟨o, h⟩) | h
  ·exact .inl (.inl ((gr l (by rw [h]; simp)).trans h))
  ·exact .inl (.inr ⟨o, (gr l (by rw [h]; simp)).trans h⟩)
  ·exact .inr h
 obtain ⟨us, rv, pl, _⟩ := J.list hl'
 have eus := fx rv
 subst eus
 obtain ⟨m, _, hloc⟩ := J.loc
 obtain ⟨uw, rw_, lk⟩ := hloc iy y vw hyN hvw (.inr (.inl hyk))
 have hce : s'.heap.IsCell cw (some uw) := by
  rcases lk with ⟨lk, _⟩ | ⟨_, c2, e2, ic⟩
  ·have lk : X.env.scope.names.lookup y = some .local := lk
   rw [hyk] at lk
   cases lk
  ·rw [hcw] at e2
   cases e2
   exact ic
 refine qM J hr hT' hfn (I1.notFr hsz) ho hcd hc' hce (J.freeC y cw hcw) rw_ S (fun u => hbind cw c' pm ctv u) pl.isList h64 hlen (fun A s H hr' => ht f c' cw A s H hr') (fun i a z e1 e2 H2 g2 => hk i a z e1 e2 H2 fun b o q nt => ?_) fun D l' H2 s2 g2 hD inv pm' pw => ?_
 ·have q' : H' b = some o := (gr b (by rw [q]; simp)).trans q
  have h1 : b ≠ P := fun z => by rw [z, hT'] at q'; cases q'; cases nt
  have h2 : H' b ≠ some (.own P) := fun z => by rw [z] at q'; cases q'; cases nt
  have h3 := el h1 h2
  rw [g2 b (by rw [h3, q']; simp), h3, q']
 ·exact ⟨.ref D, _, inv, rfl, fin D l' H2 (fun b hb => (g2 b (by rw [gr b hb]; exact hb)).trans (gr b hb)) hD pm' pw⟩
end
end L2
namespace VL
open PySem L2
mutual
theorem Rep.nt {K : PySem.W.Frag} {N : AP} {F : FP} {H : Hp} {v : V} {d : D} : Rep K N F H v d -> Rep K (fun a => ∃ o, H a = some o /\ uj o = true) F H v d
 | .int i => .int i
 | .bl i => .bl i
 | .non => .non
 | .str i => .str i
 | .ty i => .ty i
 | .tup n h r => .tup (by rcases h with h | ⟨o, h⟩ <;> exact ⟨_, h, rfl⟩) h (Reps.nt r)
 | .tupK h r => .tupK h (Reps.nt r)
 | .lst n f h r => .lst ⟨_, h, rfl⟩ f h (Reps.nt r)
 | .lstF n f h r => .lstF ⟨_, h, rfl⟩ f h (Reps.nt r)
 | .lstK f h r => .lstK f h (Reps.nt r)
 | .dic n f h e rk r => .dic ⟨_, h, rfl⟩ f h e (Reps.nt rk) (Reps.nt r)
 | .exc n h e => .exc ⟨_, h, rfl⟩ h e
theorem Reps.nt {K : PySem.W.Frag} {N : AP} {F : FP} {H : Hp} {vs : List V} {ds : List D} : Reps K N F H vs ds -> Reps K (fun a => ∃ o, H a = some o /\ uj o = true) F H vs ds
 | .nil => .nil
 | .cons h t => .cons (Rep.nt h) (Reps.nt t)
end
theorem gY : ∀ {ps : List Addr} {mss : List (List Int)}, Tups K H ps mss -> ∀ q ∈ mss.zip ps, SqT K H q.2 (q.1.map V.int)
 | _, _, .nil => fun q hq => nomatch hq
 | _, _, .cons h t => fun q hq => by
  rw [List.zip_cons_cons] at hq
  rcases List.mem_cons.mp hq with e | hq
  ·rw [e]; exact h
  ·exact gY t q hq
theorem gZ : ∀ {l : List (List Int × Addr)}, (∀ q ∈ l, SqT K H q.2 (q.1.map V.int)) -> Tups K H (l.map (·.2)) (l.map (·.1))
 | [], _ => .nil
 | q :: l, h => .cons (h q List.mem_cons_self) (gZ fun p hp => h p (List.mem_cons_of_mem _ hp))
theorem qO {ps : List Addr} (h : Tups K H ps mss) : ps.length = mss.length := Paired.length h
section
variable {K : PySem.W.Frag} {X : Cx}
def qP (iy : Nat) (vr : VTA) (tb : VT) : VTN := fun S Q => vr S fun rs S1 => ∃ (r : VR) (mss : List (List Int)) (dw : D) (key : List Int -> Int), rs = [r] /\ get S1 r = some (eL mss) /\ mss.length < 64 /\ S1[iy]? = some (.val dw) /\ (∀ ms ∈ mss, tb [.val (eT ms), .val dw] fun r _ => r = .d (.int (key ms))) /\
 ∀ out : List (List Int), out.Perm mss -> out.Pairwise (fun a b => key a <= key b) -> Q (out.map eT) S1
theorem qQ {e : Expr} {p pos lpos kpos : Pos} {x y qual : Str} {scope : Scope} {params : Arguments} {body : Expr} {c P : Addr} {k iy : Nat} {tr : TA} {vr : VTA} {te : TE} {tb : VT} {m : Bool} (hK : X.K = K) (hr : aQ (k + 3) X.A) (hg : Gl X "sorted") (hm : X.mg "sorted" = none)
  (hcode : X.env.code = .ref c) (C : PySem.W.codeHdIn X.K c P = true) (hB : Bmod X.mg X.base) (hT : bN X.H₀ P qual) (hq : X.env.qual ++ "<lambda>" = qual) (S : dC scope x y) (hyN : X.N[iy]? = some y) (hyk : X.env.scope.names.lookup y = some .cell) (hdef : defaultsOf params X.env = ([], []))
  (hcl : ∀ cw, X.env.cells.lookup y = some cw -> closureFor scope X.env = pure [(y, cw)])
  (hbind : ∀ (cw c' : Addr) (pm ctv u : Value), bindArgs (PySem.W.kla_fn "<lambda>" qual params body scope [(y, cw)] pm (.ref c') ctv) ⟨[u], []⟩ = pure [(x, u)]) (ha : VA K X false [e] tr vr)
  (ht : ∀ (f c' cw : Addr) (A : Around) (s : Shared) (H : Hp), aQ k (A.deeper (PySem.W.envX qual scope s.heap.objs.size f (.ref c') [(y, cw)])) -> VE K (fK X.prog X.w X.K X.mg X.base x y qual scope f c' cw A X.stack s H) m body te tb)
  (he : backTo pos (starEach [e] X.env) = (false, eval e X.env) :: backTo pos (starEach [] X.env) := by rfl) (hpl : (backTo pos (starEach [e] X.env)).any (·.1) = false := by rfl) :
  VN K X (.Call (.Name "sorted" p) [e] [⟨some "key", .Lambda params body scope lpos, kpos⟩] pos) (qL K iy tr te) (qP iy vr tb) :=
 ⟨by subst hK; exact qN hr hg hm dM hcode C hB hT hq S hyN hyk hdef hcl hbind ha.pe (fun f c' cw A s H h => (ht f c' cw A s H h).pe) he hpl, fun H0 Z σ H S' Q C' k' t hc => ha.snd H0 Z σ H S' _ _ k' t fun vs H1 rs S1 k1 st1 rrs zq1 => by
  have hs : SndE K m te tb := (ht 0 0 0 X.A X.s₀ (fun _ => none) ((hr.mono (Nat.le_add_right (k + 1) 2)).deeper _)).snd
  obtain ⟨r, mss, dw, key, e1, e2, h64, hw, hkey, q⟩ := zq1
  subst e1
  obtain ⟨v, rfl, rv⟩ := rrs.one
  obtain ⟨a, ys, rfl, hq, rr⟩ := rv.elems k1 e2
  obtain ⟨ps, rfl, htu, _⟩ := fB rr
  have hlen := qO htu
  have hi : iy < σ.length := by
   rw [k1.len]
   exact (List.getElem?_eq_some_iff.mp hw).1
  obtain ⟨vw, hv1, hv2⟩ := k1.at_ iy _ _ (List.getElem?_eq_getElem hi) hw
  have hvw : σ[iy]? = some (some vw) := by rw [List.getElem?_eq_getElem hi, hv1]
  refine ⟨a, ps, vw, mss.map key, rfl, hq, by rw [hlen]; exact h64, by rw [List.length_map, hlen], hvw, fun i p0 z hp hz H2 g2 => ?_, fun D l' H2 g hD pl pw => ?_⟩
  ·rw [List.getElem?_map] at hz
   obtain ⟨ms, hms, rfl⟩ := Option.map_eq_some_iff.mp hz
   obtain ⟨d, hd, rd⟩ := rr.get (i := i) (v := .ref p0) (by rw [List.getElem?_map, hp]; rfl)
   rw [List.getElem?_map, hms] at hd
   cases hd
   have up : ∀ {v : V} {d : D} {N : AP} {F : FP}, Rep K N F H1 v d -> Rep K Any AnyF H2 v d := fun h => h.nt.mono (fun b zt1 _ => by obtain ⟨o, q1, q2⟩ := zt1; exact ⟨trivial, by rw [g2 b o q1 q2, q1]⟩) fun _ _ => trivial
   have k0 := eO (K := K) (N := [x, y]) (vs := [.ref p0, vw]) (ds := [eT ms, dw]) (H := H2) (.cons (up rd) (.cons (up hv2) .nil))
   refine hs H2 (fun _ => False) _ H2 _ _ _ k0 (hkey ms (List.mem_of_getElem? hms)) fun v H3 r' S3 k3 st3 rr3 q3 => ?_
   subst q3
   have rr3 : Rep K _ _ H3 v (.int (key ms)) := rr3
   cases rr3
   refine ⟨rfl, fun b hb => (st3.1 b ?_ hb).1⟩
   rintro (⟨j, s', y1, y2, _⟩ | z)
   ·rw [bj (n := 2) (ds := [eT ms, dw]) y1] at y2; cases y2
   ·exact z
  ·obtain ⟨l2, p2, rfl⟩ := eX pl (l := mss.zip ps) (g := fun q => (key q.1, q.2)) (by rw [List.zip_map_left]; rfl)
   have hp1 : (l2.map (·.1)).Perm mss := by
    have := p2.map (·.1)
    rwa [List.map_fst_zip (by rw [hlen]; exact Nat.le_refl _)] at this
   rw [List.pairwise_map] at pw
   have tu : Tups K H2 (l2.map (·.2)) (l2.map (·.1)) := gZ fun q hq2 => by
    have h1 := gY htu q (p2.mem_iff.mp hq2)
    rcases h1 with h1 | h1
    ·have h1 : L2.Rd H1 q.2 (.tup (q.1.map V.int)) := h1
     exact .inl (VL.Rd.keep h1 (g _ (VL.Rd.there h1)))
    ·exact .inr h1
   have ev : (l2.map fun q => (key q.1, q.2)).map (fun q => V.ref q.2) = (l2.map (·.2)).map V.ref := by rw [List.map_map, List.map_map]; rfl
   rw [ev]
   exact hc D _ _ H2 _ S1 (k1.grow g) (st1.trans (.grow g)) hD (aJ hD) aq (bW hD (cP (k1.grow g).tupN tu)) (q _ hp1 (by rw [List.pairwise_map]; exact pw))⟩
end
end VL
namespace L2
open PySem PySem.Spec PyProof.Rows
section
variable {X : Cx}
theorem qR {j k : Nat} {x : Str} {ps : List Str} {sp sp' : Sp} {e : Expr} {es : List Expr} {t : TA} {p pos : Pos} {P : Addr} {q : Str} (hT : bN X.H₀ P q) (hs : ∀ vs H Q E, bN H P q -> sp' vs H Q E -> sp vs H Q E) (E : Has X.prog X.w X.K X.mg X.base k x ps sp) (hr : aQ j X.A) (ha : PA X (e :: es) t)
  (hk : k <= j := by decide) (hg : Gl X x := by rfl) (hdb : (x == ("__debug__" : Str)) = false := by decide) (he : starEach (e :: es) X.env = (false, eval e X.env) :: starEach es X.env := by rfl)
  (hpl : (backTo pos (starEach es X.env)).any (·.1) = false := by rfl) : PE X (.Call (.Name x p) (e :: es) [] pos) (dU sp' [] E0 t) := by
 obtain ⟨f, fd, F, hm, kp, hb, _⟩ := E
 intro pins s σ H Q I h
 refine wpAny_Call_Name_kw (dH I hg hm ?_ hdb)
 refine PySem.W.callWith_K (h₀ := X.base) I.ok.mod.kin kp (thn (ha pos pins s σ H _ I h) fun us s1 ⟨vs, H1, I1, r, q⟩ => ⟨I1.kIn, ?_⟩) he hpl
 exact ow F (hr.mono hk) hb .nil uO I1 r (hs _ _ _ _ (I1.tab hT) q)
end
end L2
namespace VL
open PySem L2
def spT (K : PySem.W.Frag) (P : Addr) (q : Str) (p : List D -> (D -> Prop) -> Prop) : Sp := fun vs H Q E => bN H P q /\ spP K p vs H Q E
section
variable {K : PySem.W.Frag} {X : Cx} {m : Bool} {e : Expr} {es : List Expr} {tr : TA} {vr : VTA} {x : Str} {p0 pos : Pos} {j k : Nat} {ps : List Str} {P : Addr} {q : Str}
theorem gb (hT : bN X.H₀ P q) (E : Has X.prog X.w X.K X.mg X.base k x ps (spT K P q p)) (hr : aQ j X.A) (ha : VA K X false (e :: es) tr vr)
  (hk : k <= j := by decide) (hg : Gl X x := by rfl) (hdb : (x == ("__debug__" : Str)) = false := by decide) (he : starEach (e :: es) X.env = (false, eval e X.env) :: starEach es X.env := by rfl)
  (hpl : (backTo pos (starEach es X.env)).any (·.1) = false := by rfl) : VE K X m (.Call (.Name x p0) (e :: es) [] pos) (dU (spP K p) [] E0 tr) (vFn p vr) :=
 ⟨qR hT (fun _ _ _ _ h1 h2 => ⟨h1, h2⟩) E hr ha.pe hk hg hdb he hpl, fun H0 Z σ H S Q C k t hc => ha.snd H0 Z σ H S _ _ k t fun vs H1 rs S1 k1 st1 rrs zq1 => by
  obtain ⟨ds, e, q⟩ := zq1
  refine ⟨ds, _, by rw [List.append_nil]; exact rrs.gets k1 e, q, fun d v H' q g r => ?_⟩
  refine hc v H' (.d d) S1 (k1.grow g) (st1.trans (.grow g)) (show Rep K _ _ H' v d from ?_) q
  refine (Rep.avoid (N' := NM Z σ S1) (fun a z => ?_) (fun a zq1 => by obtain ⟨b, e, f⟩ := zq1; cases e; exact k1.nm f) r).mono (fun _ n _ => ⟨n, rfl⟩) (fun o zt1 _ => by obtain ⟨b, e, f⟩ := zt1; exact ⟨b, e, k1.dom b f⟩)
  have e := k1.mo (Classical.not_not.mp z)
  rw [g a e.ne]; exact e⟩
end
section
variable {P : Program} {w : World} {K : PySem.W.Frag} {mg : Str -> Option Value} {base : Heap}
theorem jw {x q : Str} {st : Stmt} {N ps : List Str} {k : Nat} {Pt : Addr} (S : Src K mg x st) (sc : aA N ps (ai st))
  (hb : ∀ (kV doc pm : Value) (an : Option Addr) (cdv ct : Value) (us : List Value), us.length = ps.length -> bindArgs (PySem.W.fnOf x x (bz st) (aS st) (ai st) .none kV doc pm an cdv ct) ⟨us, []⟩ = pure (ps.zip us))
  (len : ∀ ds R, p ds R -> ds.length = ps.length)
  (hbody : ∀ (f : Addr) (fd : FuncData) (A : Around) (outer : List Env) (s : Shared) (H : Hp) (E : XK), aQ k (A.deeper (PyProof.Rows.envOfC x (ai st) s.heap.objs.size f fd.code)) -> bN H Pt q -> mg x = some (.ref f) -> (∃ oc od osl, K.lookup f = some ⟨oc, od, .func fd, osl⟩) ->
   ∃ ts t, VSs K (ft CX0 P w K mg base N x (ai st) f fd.code A outer s H E).nox (aS st) ts t /\ ∀ ds R, p ds R -> t { nx := fun _ => R .non, rt := fun d _ => R d } (slots N.length ds)) : Has P w K mg base (k + 1) x ps (spT K Pt q p) := by
 obtain ⟨f, fd, F, hm⟩ := S
 obtain ⟨oc, od, kV, doc, pm, an, cdv, ct, osl, rfl, lk, hcd⟩ := F.ex
 refine ⟨f, _, ox lk hcd sc (fun vs H Q E zq1 => by obtain ⟨_, ds, R, r, h, _⟩ := zq1; rw [r.length]; exact len ds R h) fun A outer s H vs Q E hr ⟨hT, ds, R, r, h, fin⟩ => ?_, hm, F.kp, F.binds hb, oc, od, osl, lk⟩
 obtain ⟨ts, t, vs', q⟩ := hbody f _ A outer s H E hr hT hm ⟨oc, od, osl, lk⟩
 have k0 := eO (N := N) r
 have st0 : ∀ {σ' S' H'}, Step (fun _ => False) (start N vs) (slots N.length ds) H σ' S' H' -> ∀ a, H a ≠ none -> H' a = H a := fun st a e => (st.1 a (by
  rintro (⟨j, s, g1, g2, _⟩ | z)
  ·rw [bj g1] at g2; cases g2
  ·exact z) e).1
 exact ⟨ts, vs'.ps.nox, vs'.snd H _ _ H _ _ _ k0 (q ds R h) ⟨fun σ' H' S' k' st q => fin .non .non H' q (st0 st) .non, fun σ' H' S' k' st q => q.elim, fun σ' H' S' k' st q => q.elim, fun v d σ' H' S' k' st rr q => fin d v H' q (st0 st) (rr.mono (fun _ _ _ => ⟨trivial, rfl⟩) fun _ x => x)⟩⟩
end
end VL
end
section
namespace L2
open PySem PySem.Spec PyProof.Rows
theorem qS {P : Program} {w : World} {mg : Str -> Option Value} {k : Nat} {st : Stmt} {fa : Addr} {x : Str} {sp : Sp} (S : Src K mg "law" st) (hfa : mg "law" = some (.ref fa))
  (hb : ∀ (kV doc pm : Value) (an : Option Addr) (cdv ct : Value) (v : Value), bindArgs (PySem.W.fnOf "law" "law" (bz st) (aS st) (ai st) .none kV doc pm an cdv ct) ⟨[v], []⟩ = pure [(x, v)])
  (all : ∀ base : Heap, Bmod mg base -> Has P w K mg base k "law" [x] sp) :
  ∃ fd : FuncData, (∀ (s : Shared) (v : Value), BindsTo s fd ⟨[v], []⟩ [(x, v)]) /\ ∀ base : Heap, Bmod mg base -> fN P w K mg base CX0 k fa fd [x] sp := by
 obtain ⟨f, fd, F, hm⟩ := S
 have e := hfa.symm.trans hm
 cases e
 obtain ⟨oc, od, kV, doc, pm, an, cdv, ct, osl, rfl, lk, _⟩ := F.ex
 refine ⟨_, fun s v => .of_eq (hb kV doc pm an cdv ct v), fun base hB => ?_⟩
 obtain ⟨f', fd', G', hm', _, _, oc', od', osl', lk'⟩ := all base hB
 have e := hm.symm.trans hm'
 cases e
 rw [lk] at lk'
 injection lk' with e1
 injection e1 with _ _ e2 _
 injection e2 with e3
 rw [e3]
 exact G'
theorem nT {P : Program} {w : World} {mg mb : Str -> Option Value} {k : Nat} {fa a c Pt : Addr} {fd : FuncData} {x q : Str} {sp : Sp} {s₁ : Shared} {vs : List Value}
  (KX : K.In s₁.heap) (hns : s₁.heap.Ns mainGlobals mg) (hb : s₁.heap.Ns builtinsNs mb) (hbb : ∀ x : Str, x ≠ "__name__" -> mb x = bootBuiltins x) (hlim : s₁.heap.NoLimit) (hg : s₁.gens = #[]) (hB : Bmod mg s₁.heap)
  (hP : s₁.heap.get? Pt = some (PySem.W.tabObj #[])) (hC : PySem.W.codeHdIn K c Pt = true) (hKP : K.lookup Pt = none)
  (ha : s₁.heap.get? a = some { cls := .type "list", data := .seq vs.toArray }) (hi : IntsAre vs ns) (hl : ns.length <= sizeLine) (hr : aQ k callerA)
  (F : ∀ base : Heap, Bmod mg base -> fN P w K mg base CX0 k fa fd [x] sp) (hbind : ∀ (s : Shared) (u : Value), BindsTo s fd ⟨[u], []⟩ [(x, u)])
  (hsp : ∀ H : Hp, bN H Pt q -> SqL K H a (ns.map V.int) -> sp [.ref a] H (fun v _ => v = .bl true) fun _ _ _ => False) :
  codeAny (model P w) callerA (.call (.ref fa) ⟨[.ref a], []⟩) (fun r s' => r = .ok (.ret (.bool true)) /\ OldK s₁.heap s'.heap /\ s'.os = s₁.os /\ AllBare s'.gens) s₁ := by
 have rv := iE hi
 have lenV := hi.length
 have aP : a ≠ Pt := fun z => by rw [z, hP] at ha; cases ha
 have core : ∀ H : Hp, (∀ b, b ≠ Pt -> H b = none \/ (b = a /\ ∃ o xs, H b = some (.frz o (.lst xs)))) -> H Pt = some (.tbl #[.str q 0]) -> SqL K H a (ns.map V.int) -> HOk P w H s₁.heap -> (H a ≠ none -> K.lookup a = none) ->
   codeAny (model P w) callerA (.call (.ref fa) ⟨[.ref a], []⟩) (fun r s' => r = .ok (.ret (.bool true)) /\ OldK s₁.heap s'.heap /\ s'.os = s₁.os /\ AllBare s'.gens) s₁ := by
  intro H hO hT hS hok hK
  have free : ∀ {b : Addr} {o : Obj}, s₁.heap.get? b = some o -> (∀ xs n, o.data ≠ .seq xs n) -> (∀ qs, o.data ≠ .fields qs) -> H b = none := fun {b o} e d1 d2 => by
   have hb : b ≠ Pt := fun z => by rw [z, hP] at e; cases e; exact d2 _ rfl
   rcases hO b hb with z | ⟨z, _⟩
   ·exact z
   ·rw [z, ha] at e; cases e; exact absurd rfl (d1 _ _)
  have nsK : ∀ {b : Addr} {m : Str -> Option Value}, s₁.heap.Ns b m -> (i7 s₁.heap H).Ns b m := fun {b m} zt1 => by obtain ⟨o, es, ep, e, d, r⟩ := zt1; exact ⟨o, es, ep, gi e (free e (fun _ _ z => by rw [d] at z; cases z) (fun _ z => by rw [d] at z; cases z)), d, r⟩
  have hKb : K.In (i7 s₁.heap H) := fun b o e => gi (KX b o e) (by
   have hb : b ≠ Pt := fun z => by rw [z, hKP] at e; cases e
   cases q : H b with
   | none => rfl
   | some u =>
    rcases hO b hb with z | ⟨z, _⟩
    ·rw [q] at z; cases z
    ·subst z; rw [hK (by rw [q]; simp)] at e; cases e)
  have hBb : Bmod mg (i7 s₁.heap H) := by
   obtain ⟨bm, o, b1, b2, b3, b4, b5, b6⟩ := hB
   exact ⟨bm, o, b1, b2, gi b3 (free b3 (fun _ _ z => by rw [b6] at z; cases z) (fun _ z => by rw [b6] at z; cases z)), b4, b5, b6⟩
  have hM : Mod K mg (i7 s₁.heap H) := ⟨hKb, nsK hns, ⟨mb, nsK hb, hbb⟩, let ⟨mc, h1, h2⟩ := hlim; ⟨mc, nsK h1, h2⟩⟩
  have e0 : Env0 P w K mg (i7 s₁.heap H) callerA [] s₁ H := ⟨rfl, hM, fun b o e => rN e, Nat.le_of_eq (mY _ _), trivial, fun b hb => absurd (show b ∈ ([] : List Addr) from hb) (by simp), hok, .of_eq hg⟩
  refine codeAny_mono ((F _ hBb).run callerA [] s₁ H ⟨[.ref a], []⟩ [.ref a] [.ref a] _ _ hr e0 (hbind s₁ (.ref a)) (.cons rfl .nil) (hsp H ⟨_, _, hT, rfl⟩ hS)) fun r s' h => ?_
  cases r with
  | error e => exact False.elim h
  | ok fl =>
   cases fl with
   | next => exact False.elim h
   | brk => exact False.elim h
   | cont => exact False.elim h
   | ret u =>
    obtain ⟨v, H', os, bare, un, hok', r', q'⟩ := h
    have q' : v = .bl true := q'
    subst q'
    obtain rfl : u = Value.bool true := r'
    obtain ⟨more, hT'⟩ := un.tbls Pt _ hT
    obtain ⟨qs, hP', _⟩ := (show ObjOk P w H' s'.heap Pt (.tbl _) from hok' Pt _ hT')
    have tab : s₁.heap.TableAt c Pt #[] := (PySem.W.codeHd_of_K KX hC).tab hP
    have kp : ∀ b o, b ≠ Pt -> s₁.heap.get? b = some o -> s'.heap.get? b = some o := fun b o hb e => by
     rcases hO b hb with z | ⟨_, ob, xs, z⟩
     ·exact un.keep b o e z (by intro y; exact absurd (show b ∈ ([] : List Addr) from y) (by simp)) (by simp)
     ·have z2 := un.frzs b ob _ z
      obtain ⟨e1, _⟩ := hok b _ z
      obtain ⟨e2, _⟩ := hok' b _ z2
      rw [e] at e1; cases e1
      exact e2
    refine ⟨rfl, ⟨fun b o e => ?_, fun b o e => ?_⟩, os, bare⟩
    ·by_cases hb : b = Pt
     ·subst hb
      rw [hP] at e
      cases e
      exact .inr (.inl ⟨tab.isCodeTable, rfl, #[], qs, rfl, by rw [Array.empty_append]; exact hP'⟩)
     ·exact .inl (kp b o hb e)
    ·by_cases hb : b = Pt
     ·exact ⟨_, by rw [hb]; exact hP'⟩
     ·exact ⟨o, kp b o hb e⟩
 have tabOk : ∀ H : Hp, ObjOk P w H s₁.heap Pt (.tbl #[.str q 0]) := fun H => ⟨#[], hP, trivial, fun pos cv h => by cases h⟩
 cases hk : K.lookup a with
 | some o =>
  have e := KX a o hk
  rw [ha] at e
  cases e
  refine core (fun b => if b = Pt then some (.tbl #[.str q 0]) else none) (fun b hb => .inl (if_neg hb)) (if_pos rfl) (.inr ⟨_, vs.toArray, _, hk, rfl, rfl, rfl, by rw [List.size_toArray, lenV]; exact hl, by simpa using rv⟩) (fun b u z => ?_) fun z => absurd (if_neg aP) z
  by_cases hb : b = Pt
  ·have z' := (if_pos hb).symm.trans z
   cases z'
   subst hb
   exact tabOk _
  ·have z' := (if_neg hb).symm.trans z
   cases z'
 | none =>
  refine core (fun b => if b = Pt then some (.tbl #[.str q 0]) else if b = a then some (.frz { cls := .type "list", data := .seq vs.toArray } (.lst (ns.map V.int))) else none) (fun b hb => ?_) (if_pos rfl) (.inl (.inr ⟨{ cls := .type "list", data := .seq vs.toArray }, (if_neg aP).trans (if_pos rfl)⟩)) (fun b u z => ?_) fun _ => hk
  ·by_cases hba : b = a
   ·exact .inr ⟨hba, _, _, by rw [if_neg hb, if_pos hba]⟩
   ·exact .inl (by rw [if_neg hb, if_neg hba])
  ·by_cases hb : b = Pt
   ·have z' := (if_pos hb).symm.trans z
    cases z'
    subst hb
    exact tabOk _
   ·have z := (if_neg hb).symm.trans z
    by_cases hba : b = a
    ·have z' := (if_pos hba).symm.trans z
     cases z'
     subst hba
     exact ⟨ha, by rw [List.length_map]; exact hl, vs, _, rv, ha⟩
    ·have z' := (if_neg hba).symm.trans z
     cases z'
theorem qT {l : PySem.W.OpenLaw} {n k : Nat} {q : Program} {loose : List Str} {XP : (Str -> Option Value) -> Heap -> Prop} {YP : World -> Heap -> Prop} {d : DefRec} {K : Params -> PySem.W.Frag} {sp : World -> Sp} {x qn : Str} {c Pt : Addr}
  (hn : l.most = some n) (hn2 : n <= sizeLine) (hdf : d.params.defaults = []) (hr : aQ k callerA)
  (hY : ∀ (w : World) (h : Heap), YP w h -> (K w.params).In h) (hTb : ∀ (w : World) (h : Heap), YP w h -> h.get? Pt = some (PySem.W.tabObj #[])) (hC : ∀ w : World, PySem.W.codeHdIn (K w.params) c Pt = true) (hKP : ∀ w : World, (K w.params).lookup Pt = none)
  (F : ∀ (w : World) (mg : Str -> Option Value) (fa : Addr) (h : Heap), (K w.params).In h -> h.Ns mainGlobals mg -> mg d.name = some (.ref fa) ->
   ∃ fd : FuncData, (∀ (s : Shared) (u : Value), BindsTo s fd ⟨[u], []⟩ [(x, u)]) /\ ∀ base : Heap, Bmod mg base -> fN l.prog w (K w.params) mg base CX0 k fa fd [x] (sp w))
  (hsp : ∀ (w : World) (H : Hp) (a : Addr) (ns : List Int), ns.length <= n -> bN H Pt qn -> SqL (K w.params) H a (ns.map V.int) -> sp w [.ref a] H (fun v _ => v = .bl true) fun _ _ _ => False) :
  PySem.W.WalkO q loose XP YP l.row.toRowW d [] (fun f vs => PySem.call f vs) := by
 refine Att.jI hn hdf fun w s₀ s₁ mg mb fa o pm cd doc a vs ns G Y ho hd hcd hmg hobj hints hlen hg => ?_
 have KX := hY w _ Y
 obtain ⟨fd, hb, hF⟩ := F w mg fa _ KX G.T.g hmg
 exact nT KX G.T.g G.T.b G.T.builtins G.T.nolimit hg G.T.bmain (hTb w _ Y) (hC w) (hKP w) hobj hints (Nat.le_trans hlen hn2) hr hF hb fun H hT hS => hsp w H a ns hlen hT hS
end L2
end
section
namespace L2
open PySem PySem.Spec PyProof.Rows
def By (scope : Scope) (x y : Str) : Bool := scope.kind == .function && !scope.isCoroutine && !scope.isGenerator && scope.names.all (fun z => z.2 != .cell && (z.2 != .free || z.1 == y)) && scope.names.lookup x == some .local && scope.names.lookup y == some .free
theorem nU {scope : Scope} {x y : Str} (h : By scope x y = true) : dC scope x y := by
 unfold By at h
 simp only [Bool.and_eq_true, beq_iff_eq, Bool.not_eq_true', List.all_eq_true] at h
 obtain ⟨⟨⟨⟨⟨h1, h2⟩, h3⟩, h4⟩, h5⟩, h6⟩ := h
 refine ⟨h1, h2, h3, fun z hz => ?_, h5, h6, fun z hz => ?_⟩
 ·simpa using (h4 z hz).1
 ·have := (h4 _ hz).2
  simpa using this
theorem yX {scope : Scope} {env : Env} {y : Str} {c : Addr} (h1 : env.cells.lookup y = some c) (h2 : closureFor scope env = pure [(y, c)]) : ∀ cw, env.cells.lookup y = some cw -> closureFor scope env = pure [(y, cw)] := fun cw h => by
 rw [h1] at h
 cases h
 exact h2
@[irreducible] def Wd (i : Int) : Prop := i.natAbs < 2 ^ 250
theorem vU {i : Int} (h : i.natAbs < 2 ^ 250) : Wd i := by unfold Wd; exact h
def BA (i j : Int) : Prop := Wd i /\ Wd j
theorem mT {i : Int} (h : Wd i) : Builtin.Int.intBits i <= 2 ^ 20 := by
 unfold Wd at h
 unfold Builtin.Int.intBits
 by_cases h0 : i = 0
 ·rw [h0]
  exact Nat.zero_le _
 ·rw [if_neg (by simpa using h0)]
  have : i.natAbs.log2 < 250 := (Nat.log2_lt (by lia)).mpr h
  exact Nat.le_trans (Nat.succ_le_of_lt this) (by decide)
theorem ck {X : Cx} : OpR X (binaryOp .Mult) (rI BA fun i j => .int (i * j)) := opI fun _ _ _ _ _ _ _ hc q => mul_int q (IntMulOk.of_bits (mT hc.1) (mT hc.2))
end L2
namespace VL
open PySem L2
section
variable {S : List Sl} {QN : List D -> List Sl -> Prop} {vr : VTA} {tb : VT} {iy : Nat}
@[irreducible] def jx (iy : Nat) (tb : VT) (QN : List D -> List Sl -> Prop) : List VR -> List Sl -> Prop := fun rs S1 => ∃ (r : VR) (mss : List (List Int)) (dw : D) (key : List Int -> Int), rs = [r] /\ get S1 r = some (eL mss) /\ mss.length < 64 /\ S1[iy]? = some (.val dw) /\ (∀ ms ∈ mss, tb [.val (eT ms), .val dw] fun r _ => r = .d (.int (key ms))) /\
 ∀ out : List (List Int), out.Perm mss -> out.Pairwise (fun a b => key a <= key b) -> QN (out.map eT) S1
theorem uk (h : vr S (jx iy tb QN)) : qP iy vr tb S QN := by unfold jx at h; exact h
theorem qU {dw : D} (key : List Int -> Int) (e : get S r = some (eL mss)) (h1 : mss.length < 64) (h2 : S[iy]? = some (.val dw)) (h3 : ∀ ms ∈ mss, tb [.val (eT ms), .val dw] fun r _ => r = .d (.int (key ms)))
  (h : ∀ out : List (List Int), out.Perm mss -> out.Pairwise (fun a b => key a <= key b) -> QN (out.map eT) S) : jx iy tb QN [r] S := by unfold jx; exact ⟨r, mss, dw, key, rfl, e, h1, h2, h3, h⟩
end
end VL
end
section
namespace VL
open PySem L2
section
variable {K : PySem.W.Frag} {X : Cx} {Hin : Hp} {E : XK} {a b : Expr} {A B rest : List Stmt} {ta tb : TE} {t : (Addr -> Prop) -> List Sl -> Prop} {v w : VT} {pos pos' : Pos} {r : R2}
theorem yY {op : CmpOp} {m : Bool} (ho : OpR X (compareOp op) r) (h : VXe K X Hin E a ta t) (hb : VE K X m b tb w) (hm : behindInMarks op b = false) : VXs K X Hin E (.If (.Compare a [op] [b] pos) A B pos' :: rest) (oa (rP (lT (tOp r ta tb)) de de) de) t :=
 ⟨eE (og (lU ho h.pe hb.pe hm) cD cD) cD, fun Wc hE H0 Z σ H S D k f z => h.snd Wc hE H0 Z σ H S _ k f z⟩
end
section
variable {K : PySem.W.Frag} {X : Cx} {e : Expr} {es : List Expr} {tr : TA} {vr : VTA} {x : Str} {p0 pos : Pos} {j k : Nat} {ps : List Str} {P : Addr} {q : Str}
theorem um (hT : bN X.H₀ P q) (E : Has X.prog X.w X.K X.mg X.base k x ps (spT K P q p)) (hr : aQ j X.A) (ha : VA K X false (e :: es) tr vr)
  (hk : k <= j := by decide) (hg : Gl X x := by rfl) (hdb : (x == ("__debug__" : Str)) = false := by decide) (he : starEach (e :: es) X.env = (false, eval e X.env) :: starEach es X.env := by rfl)
  (hpl : (backTo pos (starEach es X.env)).any (·.1) = false := by rfl) : VN K X (.Call (.Name x p0) (e :: es) [] pos) (dU (spP K p) [] E0 tr) (xp p vr) :=
 ⟨qR hT (fun _ _ _ _ h1 h2 => ⟨h1, h2⟩) E hr ha.pe hk hg hdb he hpl, fun H0 Z σ H S Q C k t hc => ha.snd H0 Z σ H S _ _ k t fun vs H1 rs S1 k1 st1 rrs zq1 => by
  obtain ⟨ds, e, q⟩ := zq1
  refine ⟨ds, _, by rw [List.append_nil]; exact rrs.gets k1 e, q, fun d v H' ⟨es, ed, hf, q⟩ g r => ?_⟩
  subst ed
  have r2 := Rep.avoid (N' := NM Z σ S1) (fun a z => by
   have e := k1.mo (Classical.not_not.mp z)
   rw [g a e.ne]; exact e) (fun a zq1 => by obtain ⟨b, e, f⟩ := zq1; cases e; exact k1.nm f) r
  cases r2 with
  | @lst a ws _ n f h rs =>
   obtain ⟨b, e, f⟩ := f
   cases e
   refine hc a ws es H1 H' S1 k1 st1 f g h ?_ q
   refine (Reps.avoid (N' := fun b => NM Z σ S1 b /\ b ≠ a) (fun b z => ?_) (fun b fb => fb.elim) (Reps.flat (F' := fun _ => False) rs hf)).mono (fun _ n _ => ⟨n, rfl⟩) (fun o f => f.elim)
   by_cases hb : b = a
   ·subst hb; rw [h]; trivial
   ·have e := k1.mo (Classical.byContradiction fun y => z ⟨y, hb⟩)
    rw [g b e.ne]; exact e
  | lstF n f h rs => obtain ⟨b, e, f⟩ := f; cases e
  | lstK f h rs => obtain ⟨b, e, f⟩ := f; cases e⟩
end
end VL
end
local macro_rules | `(tactic| walk_at "s") => `(tactic| exact ⟨rfl, rfl, rfl, by decide +kernel, rfl, by decide +kernel, by decide +kernel⟩)
theorem My.len1 {α:Type} {l:List α} (h:l.length=1):∃ a0,l=[a0]:=match l,h with|[a0],_=>⟨a0,rfl⟩
local macro_rules | `(tactic| walk_at "1") => `(tactic| exact (fun _ _ _ _ _ _ us hl => by obtain ⟨_,e⟩ := My.len1 hl; subst e; exact rfl))
theorem My.len2 {α:Type} {l:List α} (h:l.length=2):∃ a0 a1,l=[a0,a1]:=match l,h with|[a0,a1],_=>⟨a0,a1,rfl⟩
local macro_rules | `(tactic| walk_at "2") => `(tactic| exact (fun _ _ _ _ _ _ us hl => by obtain ⟨_,_,e⟩ := My.len2 hl; subst e; exact rfl))
local macro_rules | `(tactic| walk_at "rd1") => `(tactic| first
 | ((with_reducible refine' VL.An ?h ?_); (case h => exact rfl))
 | with_reducible refine VL.t4 ?_
 | with_reducible refine VL.yF ?_
 | ((with_reducible refine' VL.yG ?h ?_); (case h => exact rfl))
 | with_reducible refine VL.yP ?_
 | with_reducible refine VL.ue ?_
 | with_reducible refine VL.Bv ?_
 | with_reducible refine VL.uf ?_
 | with_reducible refine VL.yR ?_
 | with_reducible refine VL.qH ?_
 | with_reducible refine VL.j_c ?_
 | with_reducible refine VL.j_2 ?_
 | with_reducible refine VL.B6 ?_
 | ((with_reducible refine' VL.B7 ?h1 ?h2 ?_); (case h1 => exact rfl); (case h2 => exact rfl))
 | with_reducible refine VL.Ao ?_
 | with_reducible refine VL.AX ?_
 | with_reducible refine VL.AY ?_
 | ((with_reducible refine' VL.Ap ?h ?_); (case h => first | exact (by decide) | exact .inl ⟨by decide, by decide⟩ | exact .inr ⟨by decide, by decide⟩ | (show (0 : Int) < _; lia) | (show (0 : Int) <= _; lia) | exact ⟨by decide, by decide, by decide⟩ | exact ⟨by lia, by lia, by lia⟩ | exact ⟨by lia, by lia⟩ | exact .inl ⟨by lia, by lia⟩ | exact .inr ⟨by lia, by lia⟩))
 | with_reducible refine VL.xU ?_
 | with_reducible refine VL.sT ?_
 | with_reducible refine VL.Ag ?_
 | with_reducible refine VL.Ai ?_
 | with_reducible refine VL.xK ?_
 | ((with_reducible refine' VL.B4 ?h ?_); (case h => exact rfl); (try dsimp only [List.set_cons_zero, List.set_cons_succ]))
 | with_reducible refine VL.xJ ?_
 | with_reducible refine VL.Al ?_
 | with_reducible refine VL.pC ?_
 | with_reducible refine VL.pD ?_
 | with_reducible refine VL.Ak ?_
 | ((with_reducible refine' VL.xP ?h ?_); (case h => exact rfl))
 | with_reducible refine VL.xQ ?_
 | with_reducible refine VL.sS ?_
 | with_reducible refine VL.xR ?_
 | with_reducible refine VL.xS ?_
 | ((with_reducible refine' VL.eQ ?h ?_); (case h => first | exact rfl | simp only [VL.flat, VL.flats, VL.bX, VL.eT, VL.dq, Bool.and_self]))
 | with_reducible refine VL.pF ?_
 | with_reducible refine VL.B8 ?_
 | with_reducible refine VL.As ?_
 | ((with_reducible refine' VL.iL ?h1 ?h2 ?h3 ?_); (case h1 => exact rfl); (case h2 => exact rfl); (case h3 => exact rfl))
 | ((with_reducible refine' VL.vf ?h1 ?h2 ?h3 ?_); (case h1 => exact rfl); (case h2 => exact rfl); (case h3 => first | exact rfl | exact VL.Cm))
 | with_reducible refine VL.AA ?_
 | with_reducible refine VL.x4 ?_
 | with_reducible refine VL.sZ ?_
 | with_reducible refine VL.AB ?_
 | ((with_reducible refine' VL.x5 ?h1 ?h2 ?_); (case h1 => exact rfl); (case h2 => exact rfl))
 | with_reducible refine VL.AD ?_
 | ((with_reducible refine' VL.x6 ?h1 ?h2 ?_); (case h1 => exact rfl); (case h2 => exact rfl))
 | with_reducible refine VL.AF ?_
 | with_reducible refine VL.x8 ?_
 | with_reducible refine VL.Cb ?_
 | ((with_reducible refine' VL.AG ?h ?_); (case h => exact rfl))
 | with_reducible refine VL.x9 ?_
 | with_reducible refine VL.ya ?_
 | with_reducible refine VL.Cd ?_
 | with_reducible refine VL.Ce ?_
 | with_reducible refine VL.AI ?_
 | ((with_reducible refine' VL.yb ?h ?_); (case h => exact rfl))
 | with_reducible refine VL.AK ?_
 | ((with_reducible refine' VL.yc ?h1 ?h2 ?h3 ?_); (case h1 => exact rfl); (case h2 => exact rfl); (case h3 => exact rfl))
 | with_reducible refine VL.xN ?_
 | ((with_reducible refine' VL.sR ?h ?_); (case h => exact rfl); (try dsimp only [List.set_cons_zero, List.set_cons_succ]))
 | with_reducible refine VL.xO ?_
 | ((with_reducible refine' VL.mx ?h ?_); (case h => exact rfl); (try dsimp only [List.set_cons_zero, List.set_cons_succ]))
 | with_reducible refine VL.tj ?_
 | ((with_reducible refine' VL.pP ?h1 ?h2 ?_); (case h1 => exact rfl); (case h2 => exact rfl))
 | ((with_reducible refine' VL.nG ?h1 ?h2 ?h3 ?_); (case h1 => exact rfl); (case h2 => exact rfl); (case h3 => exact rfl); (try dsimp only [List.set_cons_zero, List.set_cons_succ]))
 | ((with_reducible refine' VL.AM ?h ?_); (case h => exact rfl))
 | with_reducible refine VL.AN ?_
 | ((with_reducible refine' VL.pO ?h1 ?h2 ?_); (case h1 => exact rfl); (case h2 => first | lia | (simp only [List.length_append, List.length_cons, List.length_nil, List.length_map]; lia) | exact Nat.le_of_ble_eq_true rfl); (try dsimp only [List.set_cons_zero, List.set_cons_succ]))
 | with_reducible refine VL.AR ?_
 | with_reducible refine VL.AS ?_
 | with_reducible refine VL.yd ?_
 | with_reducible refine VL.ye ?_
 | with_reducible refine VL.AV ?_
 | with_reducible refine VL.AW ?_
 | ((with_reducible refine' VL.yf ?h ?_); (case h => exact ⟨by lia, by lia⟩))
 | ((with_reducible refine' VL.yg ?h ?_); (case h => exact ⟨by lia, by lia, by lia, by lia⟩))
 | with_reducible refine VL.yh ?_
 | with_reducible refine VL.yi ?_
 | with_reducible refine VL.nH ?_
 | with_reducible refine VL.nI ?_
 | with_reducible refine VL.j3 ?_
 | with_reducible refine VL.Aw ?_
 | with_reducible refine VL.Ca ?_
 | with_reducible refine VL.Ax ?_
 | with_reducible refine VL.xV ?_
 | with_reducible refine VL.pH ?_
 | with_reducible refine VL.xW ?_
 | with_reducible refine VL.sV ?_
 | with_reducible refine VL.sW ?_
 | with_reducible refine VL.xY ?_
 | with_reducible refine VL.Ay ?_
 | with_reducible refine VL.Az ?_
 | with_reducible refine VL.B9 ?_
 | ((with_reducible refine' VL.Au ?h ?_); (case h => exact rfl))
 | with_reducible refine VL.Aq ?_
 | ((with_reducible refine' VL.AZ ?h1 ?h2 ?_); (case h1 => (intro n z; cases z)); (case h2 => first | exact L2.jf | exact L2.iq | exact L2.isiB_list_list | exact L2.isiB_tuple_tuple | exact L2.isiB_bool_bool | exact L2.isiB_f1 | exact L2.isiB_f2 | exact L2.isiB_f3 | exact L2.isiB_f4 | exact L2.isiB_f5 | exact L2.isiB_f6 | exact L2.isiB_g1 | exact L2.isiB_g2 | exact L2.isiB_g3 | exact L2.isiB_g4 | exact L2.isiB_g5 | exact L2.isiB_g6 | exact L2.isiB_h1 | exact L2.isiB_h2 | exact L2.isiB_h3 | exact L2.isiB_h4 | exact L2.isiB_h5 | exact L2.isiB_h6 | exact L2.isiB_h7))
 | with_reducible refine VL.A2 ?_
 | with_reducible refine VL.xM ?_
 | with_reducible refine VL.sQ ?_
 | ((with_reducible refine' VL.B5 ?h ?_); (case h => exact rfl); (try simp only [List.map_cons, List.map_nil]))
 | with_reducible refine VL.pL ?_
 | with_reducible refine VL.tf ?_
 | ((with_reducible refine' VL.yO ?h ?_); (case h => exact rfl); (try dsimp only [List.set_cons_zero, List.set_cons_succ]))
 | with_reducible refine VL.yN ?_
 | with_reducible refine VL.t9 ?_
 | ((with_reducible refine' VL.Bg ?h ?_); (case h => exact rfl))
 | with_reducible refine VL.Bh ?_
 | with_reducible refine VL.Cj ?_
 | with_reducible refine VL.yj ?_
 | with_reducible refine VL.yk ?_
 | with_reducible refine VL.ym ?_
 | with_reducible refine VL.pW ?_
 | with_reducible refine VL.Bi ?_
 | with_reducible refine VL.Bk ?_
 | with_reducible refine VL.yu ?_
 | with_reducible refine VL.yv ?_
 | ((with_reducible refine' VL.tN ?h ?_); (case h => exact rfl); (try dsimp only [List.set_cons_zero, List.set_cons_succ]))
 | with_reducible refine VL.yw ?_
 | ((with_reducible refine' VL.tO ?h ?_); (case h => exact rfl))
 | with_reducible refine VL.uk ?_
 | with_reducible refine VL.tP ?_)
local macro_rules | `(tactic| walk_at "rc1") => `(tactic| first
 | walk_at "rd1"
 | ((with_reducible refine' VL.A4 ?h ?_); (case h => exact rfl))
 | ((with_reducible refine' VL.A5 ?h ?_); (case h => exact rfl))
 | ((with_reducible refine' VL.A3 ?h ?_); (case h => exact rfl))
 | ((with_reducible refine' VL.Cf ?h ?_); (case h => exact rfl))
 | ((with_reducible refine' VL.Cg ?h ?_); (case h => exact rfl))
 | ((with_reducible refine' VL.A6 ?h ?_); (case h => exact rfl))
 | ((with_reducible refine' VL.A7 ?h ?_); (case h => exact rfl)))
local macro_rules | `(tactic| walk_at "rc") => `(tactic| repeat walk_at "rc1")
local macro_rules | `(tactic| walk_at "rd") => `(tactic| repeat walk_at "rd1")
local macro_rules | `(tactic| walk_at "sl") => `(tactic| simp only [VL.slots, VL.cR, VL.eT, List.map_cons, List.map_nil, List.length_cons, List.length_nil, List.cons_append, List.nil_append, Nat.reduceAdd, Nat.reduceSub, Nat.zero_add, List.replicate_succ, List.replicate_zero])
namespace My
open PySem L2 VL
def top (i : Nat) : Stmt := PySem.Challenge.pw_cellships_k28_growers.main.body.getD i (.Pass ⟨0, 0, 0, 0⟩)
abbrev g7 : Stmt := top 2
theorem nV : aA ["kind"] ["kind"] (ai g7) := by walk_at "s"
abbrev g8 : Stmt := top 18
theorem nW : aA ["rule"] ["rule"] (ai g8) := by walk_at "s"
abbrev bM : Stmt := top 19
theorem eY : aA ["rule"] ["rule"] (ai bM) := by walk_at "s"
abbrev dD : Stmt := top 21
theorem jy : aA ["cell", "way"] ["cell", "way"] (ai dD) := by walk_at "s"
abbrev gc : Stmt := top 22
theorem qV : aA ["picture", "way"] ["picture", "way"] (ai gc) := by walk_at "s"
abbrev b8 : Stmt := top 23
theorem aX : aA ["rule", "way", "kind", "born", "stay", "rising"] ["rule", "way"] (ai b8) := by walk_at "s"
abbrev eZ : Stmt := top 24
theorem g9 : aA ["rule", "way", "parents"] ["rule", "way"] (ai eZ) := by walk_at "s"
abbrev e7 : Stmt := top 25
theorem kj : aA ["rule", "way"] ["rule", "way"] (ai e7) := by walk_at "s"
abbrev qW : Stmt := top 27
theorem jz : aA ["_law_script", "_law_k", "_law_cell"] ["_law_script", "_law_k"] (ai qW) := by walk_at "s"
abbrev lF : Stmt := top 28
theorem fc : aA ["_law_pen_here", "_law_many", "_law_drawn", "_law_number_here"] ["_law_pen_here", "_law_many"] (ai lF) := by walk_at "s"
abbrev hU : Stmt := top 29
theorem iW : aA ["_law_pen_here", "_law_way_here"] ["_law_pen_here"] (ai hU) := by walk_at "s"
abbrev hV : Stmt := top 30
theorem gg : aA ["_law_pen_here", "_law_kind", "_law_way_here", "_law_stay"] ["_law_pen_here"] (ai hV) := by walk_at "s"
abbrev qX : Stmt := top 31
theorem yZ : aA ["_law_pen_here"] ["_law_pen_here"] (ai qX) := by walk_at "s"
abbrev jA : Stmt := top 32
theorem ff : aA ["_law_kind", "_law_found"] ["_law_kind"] (ai jA) := by walk_at "s"
abbrev fh : Stmt := top 33
theorem iX : aA ["_law_told", "_law_way_here", "_law_falls"] ["_law_told", "_law_way_here"] (ai fh) := by walk_at "s"
abbrev jB : Stmt := top 34
theorem cU : aA ["_law_told", "_law_live", "_law_near", "_law_cell", "_law_step", "_law_there", "_law_alive"] ["_law_told", "_law_live"] (ai jB) := by walk_at "s"
abbrev cm : Stmt := top 35
theorem cV : aA ["_law_found", "_law_at", "_law_cell"] ["_law_found"] (ai cm) := by walk_at "s"
abbrev b9 : Stmt := top 36
theorem cq : aA ["_law_told", "_law_way_here", "_law_found", "_law_rise", "_law_ahead", "_law_behind"] ["_law_told", "_law_way_here", "_law_found"] (ai b9) := by walk_at "s"
abbrev dF : Stmt := top 37
theorem bB : aA ["_law_told", "_law_way_here", "_law_found", "e", "_law_other"] ["_law_told", "_law_way_here"] (ai dF) := by walk_at "s"
abbrev y8 : Stmt := top 38
theorem dX : aA ["_law_script", "_law_k", "_law_pen_here", "_law_told", "_law_turn", "_law_way_here", "_law_again", "_law_found", "_law_loud"] ["_law_script"] (ai y8) := by walk_at "s"
structure Txt (mg : Str -> Option Value) : Prop where
 len_ : mg "len" = none
 range : mg "range" = none
 abs_ : mg "abs" = none
 isinstance_ : mg "isinstance" = none
 int_ : mg "int" = none
 bool_ : mg "bool" = none
 list_ : mg "list" = none
 tuple_ : mg "tuple" = none
 sorted_ : mg "sorted" = none
 max_ : mg "max" = none
 min_ : mg "min" = none
 all_ : mg "all" = none
 any_ : mg "any" = none
 set_ : mg "set" = none
 sum_ : mg "sum" = none
 str_ : mg "str" = none
 dict_ : mg "dict" = none
 zip_ : mg "zip" = none
 enumerate_ : mg "enumerate" = none
def Pn (b : Nat) (pn : List Int) : Prop := ∃ x y c : Int, pn = [x, y, c] /\ 0 <= c /\ c <= b
theorem Pn.le {b b' : Nat} {pn : List Int} (h : Pn b pn) (e : b <= b') : Pn b' pn := let ⟨x, y, c, h1, h2, h3⟩ := h; ⟨x, y, c, h1, h2, by lia⟩
def BB : List D -> (D -> Prop) -> Prop := fun ds R => ∃ (ns : List Int) (k : Nat), ds = [.lst (ns.map .int), .int k] /\ k <= 1000 /\ ∀ x y : Int, R (.lst ([x, y, 0].map .int))
def uo : List D -> (D -> Prop) -> Prop := fun ds R => ∃ ns : List Int, ds = [.lst (ns.map .int)] /\ ns.length <= 63 /\ R (.bl true)
def km : List Int -> List D -> (D -> List Int -> Prop) -> Prop := fun pn ds R => ∃ (b : Nat) (m : Int), ds = [.int m] /\ Pn b pn /\ b <= 1000000 /\ 0 < m /\ m < 1073741824 /\ ∀ (pn' : List Int) (r : Int), Pn (b + 1) pn' -> 0 <= r -> r < m -> R (.int r) pn'
theorem hW {j : Nat} (h : j < ns.length) : atI (ns.map D.int) (j : Int) = some (.int (ns[j])) := by
 exact ja (by simp [h])
section
variable {P : Program} {w : World} {K : PySem.W.Frag} {mg : Str -> Option Value} {base : Heap}
theorem y9 (S : Src K mg "_law_pen" qW) (T : Txt mg) : Has P w K mg base 1 "_law_pen" ["_law_script", "_law_k"] (spP K BB) := by
 refine cW S jz (by walk_at "2") (fun ds R zq1 => by obtain ⟨_, _, e, _⟩ := zq1; rw [e]; rfl) fun f cdv A outer s H E hr => ⟨_, _, (aj (aC (i := 2) jz.nd rfl (Or.inl rfl) (aw aZ aK (aw cM br af (ae 1 (pv 1))) af))
  (aj (ba (aO uL aK (ae 1 (pv 1)) (aU (mr (K := K) rfl) mj (by rfl) T.len_ je (aa (ae 0 (pv 0)) ah)) (aH _)) (ak (aC (i := 2) jz.nd rfl (Or.inl rfl) (aG rfl (ae 0 (pv 0)) (ae 1 (pv 1)) (fun _ _ => rfl)))) (ak (ba (aO lS aK (aU (mr (K := K) rfl) mj (by rfl) T.len_ je (aa (ae 0 (pv 0)) ah)) af (aH _)) (ak (aC (i := 2) jz.nd rfl (Or.inl rfl) (aw aZ aK (aw cN br (aG rfl (ae 0 (pv 0)) (aw cN br (ae 1 (pv 1)) (aU (mr (K := K) rfl) mj (by rfl) T.len_ je (aa (ae 0 (pv 0)) ah))) (fun _ _ => rfl)) af) (aw cM br af (ae 1 (pv 1)))))) aD)))
  (aj (ba (aO zy aK (ae 2 (pv 2)) (aw gq br af af) (aH _)) (ak (az (aT (cA (aa (aw cL aK (ae 2 (pv 2)) (aw gq br af af)) (aa (aw cN br (ae 2 (pv 2)) af) (aa af ah))))))) aD)
  (ak (az (aT (cA (aa af (aa (aw cN br (ae 2 (pv 2)) af) (aa af ah)))))))))), ?_⟩
 rintro ds R ⟨ns, k, rfl, hk, q⟩
 have fin : ∀ (x y : Int), R (.lst [.int x, .int y, .int 0]) := fun x y => q x y
 walk_at "sl"
 walk_at "rd"
 rw [List.length_map]
 refine bZ (fun h1 => ?_) (fun h1 => ?_)
 ·have h1' : k < ns.length := by lia
  walk_at "rd"
  refine iL rfl rfl (hW h1') ?_
  walk_at "rd"
  refine bZ (fun h1 => ?_) (fun h1 => ?_)
  all_goals (walk_at "rd"; exact fin _ _)
 ·walk_at "rd"
  rw [List.length_map]
  refine bZ (fun h2 => ?_) (fun h2 => ?_)
  ·walk_at "rd"
   rw [List.length_map]
   have h2' : 0 < ns.length := by lia
   have e : ((k : Int) % (ns.length : Int)) = ((k % ns.length : Nat) : Int) := by lia
   refine Ap (by show (0 : Int) < _; lia) ?_
   dsimp only [ofV]
   rw [e]
   refine iL rfl rfl (hW (Nat.mod_lt _ h2')) ?_
   walk_at "rd"
   refine bZ (fun h1 => ?_) (fun h1 => ?_)
   all_goals (walk_at "rd"; exact fin _ _)
  ·walk_at "rd"
   refine bZ (fun h1 => ?_) (fun h1 => ?_)
   all_goals (walk_at "rd"; exact fin _ _)
theorem uq (S : Src K mg "_law_draw" lF) (T : Txt mg) : Has P w K mg base 1 "_law_draw" ["_law_pen_here", "_law_many"] (spI K 0 km) := by
 refine mq 0 S fc (by walk_at "2") (fun ns ds R zq1 => by obtain ⟨_, _, e, _⟩ := zq1; rw [e]; rfl) fun f cdv A outer s H E hr => ⟨_, _, (aj (jU 0 (pv 0) (aw aZ aK (aG rfl (ae 0 (pv 0)) af (fun _ _ => rfl)) af) af)
  (aj (ba (aO lS aK (aG rfl (ae 0 (pv 0)) af (fun _ _ => rfl)) af (aH _)) (aj (aC (i := 2) fc.nd rfl (Or.inl rfl) (aw cN br (aG rfl (ae 0 (pv 0)) af (fun _ _ => rfl)) (ae 1 (pv 1))))
  (aj (jU 0 (pv 0) (aw lO br (aG rfl (ae 0 (pv 0)) af (fun _ _ => rfl)) (ae 1 (pv 1))) af)
  (ak (az (bu (ae 2 (pv 2))))))) aD)
  (aj (aC (i := 3) fc.nd rfl (Or.inl rfl) (aw cN br (aw aZ aK (aw aZ aK (aG rfl (ae 0 (pv 0)) af (fun _ _ => rfl)) (aw cM br af (aG rfl (ae 0 (pv 0)) af (fun _ _ => rfl)))) af) af))
  (aj (aC (i := 3) fc.nd rfl (Or.inl rfl) (aw aZ aK (aw cN br (aw cM br (ae 3 (pv 3)) (ae 3 (pv 3))) af) (aw cM br af (aG rfl (ae 0 (pv 0)) af (fun _ _ => rfl)))))
  (aj (aC (i := 3) fc.nd rfl (Or.inl rfl) (aw cN br (aw cM br (ae 3 (pv 3)) (ae 3 (pv 3))) af))
  (ak (az (aw cN br (aw lO br (ae 3 (pv 3)) af) (ae 1 (pv 1)))))))))), ?_⟩
 rintro a pn ds es R hl ⟨b, m, e, ⟨x, y, c, rfl, hc0, hc1⟩, hb, hm0, hm1, q⟩
 obtain rfl : ds = [] := List.eq_nil_of_length_eq_zero hl
 obtain rfl : es = [.int m] := e
 walk_at "sl"
 walk_at "rd"
 refine bZ (fun h1 => ?_) (fun h1 => ?_)
 ·walk_at "rd"
  exact ⟨_, rfl, q _ _ ⟨_, _, _, rfl, by lia, by lia⟩ (Int.emod_nonneg _ (by lia)) (Int.emod_lt_of_pos _ hm0)⟩
 ·walk_at "rd"
  exact ⟨_, rfl, q _ _ ⟨_, _, _, rfl, by lia, by lia⟩ (Int.emod_nonneg _ (by lia)) (Int.emod_lt_of_pos _ hm0)⟩
end
end My
namespace My
open PySem L2 VL
def nr (k : Int) : List (List Int) := if k = 4 then [[-1, 0], [0, -1], [0, 1], [1, 0]] else if k = 6 then [[-1, -1], [-1, 0], [0, -1], [0, 1], [1, 0], [1, 1]] else [[-1, -1], [-1, 0], [-1, 1], [0, -1], [0, 1], [1, -1], [1, 0], [1, 1]]
def rows : List (Int × List (List Int)) := [(4, nr 4), (6, nr 6), (8, nr 8)]
def Kd (k : Int) : Prop := k = 4 \/ k = 6 \/ k = 8
theorem qY {k : Int} (hk : Kd k) : (k, nr k) ∈ rows := by rcases hk with rfl | rfl | rfl <;> simp [rows]
def Pr (ms : List Int) : Prop := ∃ x y, ms = [x, y]
theorem dG {k : Int} (hk : Kd k) {m : List Int} (h : m ∈ nr k) : ∃ x y, m = [x, y] /\ -1 <= x /\ x <= 1 /\ -1 <= y /\ y <= 1 := by
 have : (nr k).all (fun m => match m with | [x, y] => decide (-1 <= x) && decide (x <= 1) && decide (-1 <= y) && decide (y <= 1) | _ => false) = true := by rcases hk with rfl | rfl | rfl <;> decide +kernel
 have := List.all_eq_true.mp this m h
 match m, this with
 | [x, y], h => simp only [Bool.and_eq_true, decide_eq_true_eq] at h; exact ⟨x, y, rfl, h.1.1.1, h.1.1.2, h.1.2, h.2⟩
theorem hZ {k : Int} (hk : Kd k) {m : List Int} (h : m ∈ nr k) : Pr m := let ⟨x, y, e, _⟩ := dG hk h; ⟨x, y, e⟩
theorem et {k : Int} (hk : Kd k) : (nr k).length <= 8 := by rcases hk with rfl | rfl | rfl <;> decide
def ad (p m : List Int) : List Int := match p, m with
 | [x, y], [dx, dy] => [x + dx, y + dy]
 | _, _ => []
def rl (k : Int) (b s : List Int) : D := .tup [.int k, .tup (b.map .int), .tup (s.map .int)]
def bes (k : Int) (xs : List (List Int)) : List (List Int) := xs.flatMap fun p => (nr k).map (ad p)
theorem mU (k : Int) : ∀ ys : List (List Int), (bes k ys).length = ys.length * (nr k).length := fun ys => by
 induction ys with
 | nil => simp [bes]
 | cons y ys ih => simp only [bes, List.flatMap_cons, List.length_append, List.length_map, List.length_cons] at ih ⊢; rw [ih, Nat.succ_mul]; lia
def ddp : List (List Int) -> List (List Int)
 | [] => []
 | x :: r => if x ∈ r then ddp r else x :: ddp r
theorem dO {c : List Int} : ∀ l, c ∈ ddp l ↔ c ∈ l
 | [] => Iff.rfl
 | x :: r => by
  unfold ddp
  split
  ·rename_i h
   rw [dO r, List.mem_cons]
   exact ⟨.inr, fun z => z.elim (fun e => e ▸ h) id⟩
  ·rw [List.mem_cons, List.mem_cons, dO r]
theorem dP : ∀ l, (ddp l).Nodup
 | [] => List.nodup_nil
 | x :: r => by
  unfold ddp
  split
  ·exact dP r
  ·rename_i h
   exact List.nodup_cons.mpr ⟨fun z => h ((dO r).mp z), dP r⟩
def liv (k : Int) (bo st : List Int) (xs : List (List Int)) (c : List Int) : Bool := decide ((((bes k xs).count c : Nat) : Int) ∈ if decide (c ∈ xs) = true then st else bo)
def nx (k : Int) (bo st : List Int) (xs : List (List Int)) : List (List Int) := srt ((ddp (bes k xs ++ xs)).filter (liv k bo st xs))
theorem nX {a b : List (List Int)} (h : a.Perm b) : srt a = srt b := kN ((dj a).trans h) (d7 a)
theorem BC {k : Int} {bo st : List Int} {xs ys : List (List Int)} (nd : ys.Nodup) (hm : ∀ c, c ∈ ys ↔ (c ∈ bes k xs \/ c ∈ xs) /\ liv k bo st xs c = true) : srt ys = nx k bo st xs := by
 refine nX ?_
 refine (List.perm_ext_iff_of_nodup nd ((dP _).filter _)).mpr fun c => ?_
 rw [hm, List.mem_filter, dO, List.mem_append]
theorem jC : ∀ {xs g : List (List Int)}, xs.Nodup -> (∀ x ∈ xs, x ∈ g) -> xs.length <= g.length
 | [], _, _, _ => Nat.zero_le _
 | x :: r, g, nd, h => by
  rw [List.nodup_cons] at nd
  have hx := h x List.mem_cons_self
  have := jC (xs := r) (g := g.erase x) nd.2 fun y hy => (List.mem_erase_of_ne (show y ≠ x from fun e => nd.1 (by subst e; exact hy))).mpr (h y (List.mem_cons_of_mem _ hy))
  rw [List.length_erase_of_mem hx] at this
  have : 0 < g.length := List.length_pos_of_mem hx
  simp only [List.length_cons]; lia
theorem ig : ∀ {kvs : List (List Int × D)} {p : List Int × D}, (kvs.map (·.1)).Nodup -> p ∈ kvs -> dt kvs p.1 = some p.2
 | [], _, _, h => by cases h
 | q :: ps, p, nd, h => by
  rw [List.map_cons, List.nodup_cons] at nd
  unfold dt
  rcases List.mem_cons.mp h with rfl | h
  ·simp
  ·have : ¬ q.1 = p.1 := fun z => nd.1 (List.mem_map.mpr ⟨p, h, z.symm⟩)
   simp only [List.find?_cons, this, decide_false]
   exact ig nd.2 h
theorem qZ {c : List Int} (h : c ∉ kvs.map (·.1)) : dt kvs c = none := by
 unfold dt
 rw [List.find?_eq_none.mpr fun x hx => by
  have : ¬ x.1 = c := fun z => h (List.mem_map.mpr ⟨x, hx, z⟩)
  simpa using this]
 rfl
structure Wt (l xs : List (List Int)) (kvs : List (List Int × D)) : Prop where
 nd : (kvs.map (·.1)).Nodup
 keys : ∀ c, c ∈ kvs.map (·.1) ↔ c ∈ l \/ c ∈ xs
 vals : ∀ p ∈ kvs, p.2 = .int (l.count p.1)
 len : kvs.length <= l.length + xs.length
theorem Wt.get {l xs : List (List Int)} (h : Wt l xs kvs) (c : List Int) : (dt kvs c).getD (.int 0) = .int (l.count c) := by
 by_cases hc : c ∈ kvs.map (·.1)
 ·obtain ⟨p, hp, rfl⟩ := List.mem_map.mp hc
  rw [ig h.nd hp, h.vals p hp]; rfl
 ·rw [qZ hc]
  have : c ∉ l := fun z => hc ((h.keys c).mpr (.inl z))
  rw [List.count_eq_zero.mpr this]; rfl
end My
namespace My
open PySem L2 VL
theorem rf (ms : List Int) : VL.flat (kT ms) = true := bX ms
theorem rh {k : Int} (hk : Kd k) {xs : List (List Int)} (hp : ∀ p ∈ xs, Pr p) : ∀ c ∈ bes k xs, Pr c := fun c hc => by
 obtain ⟨q, hq, hs⟩ := List.mem_flatMap.mp hc
 obtain ⟨s, hs2, rfl⟩ := List.mem_map.mp hs
 obtain ⟨x, y, rfl⟩ := hp q hq
 obtain ⟨dx, dy, rfl⟩ := hZ hk hs2
 exact ⟨x + dx, y + dy, rfl⟩
theorem Wt.perm {l l' ys : List (List Int)} (h : Wt l ys kvs) (p : l.Perm l') : Wt l' ys kvs :=
 ⟨h.nd, fun c => by rw [h.keys c, p.mem_iff], fun q hq => by rw [h.vals q hq, p.count_eq], by rw [<- p.length_eq]; exact h.len⟩
def fol (l : List (List Int)) : List (List Int × D) := l.foldl (fun kvs x => cH kvs x (D.bl true)) []
theorem rj (l : List (List Int)) (c : List Int) : fol (l ++ [c]) = cH (fol l) c (.bl true) := by unfold fol; rw [List.foldl_append]; rfl
theorem kn {l : List (List Int)} {c : List Int} : c ∈ (fol l).map (·.1) ↔ c ∈ l := (iR (ky := fun p => p) (f := fun _ => D.bl true) l []).trans (by simp)
theorem nY {m : List Int} (h : (kvs.map (·.1)).Nodup) : ((cH kvs m d).map (·.1)).Nodup := by
 unfold cH
 by_cases hm : m ∈ kvs.map (·.1)
 ·rw [if_pos hm, cT]; exact h
 ·rw [if_neg hm, List.map_append, List.nodup_append]
  exact ⟨h, by simp, fun x hx y hy z => hm (by cases List.mem_singleton.mp hy; exact (show x = m from z) ▸ hx)⟩
theorem nZ : ∀ l : List (List Int), ((fol l).map (·.1)).Nodup := fun l => by
 have : ∀ (l : List (List Int)) (kvs : List (List Int × D)), (kvs.map (·.1)).Nodup -> ((l.foldl (fun kvs x => cH kvs x (D.bl true)) kvs).map (·.1)).Nodup := fun l => by
  induction l with
  | nil => exact fun _ h => h
  | cons x l ih => exact fun kvs h => ih _ (nY h)
 exact this l [] List.nodup_nil
theorem ur : ∀ l : List (List Int), (fol l).length <= l.length := fun l => by
 have := jC (nZ l) (g := l) fun x hx => kn.mp hx
 rwa [List.length_map] at this
theorem Wt.upd {l ys l' ys' : List (List Int)} {m : List Int} (h : Wt l ys kvs) (hk : ∀ c, (c ∈ l' \/ c ∈ ys') ↔ ((c ∈ l \/ c ∈ ys) \/ c = m)) (hc : ∀ c, c ≠ m -> l'.count c = l.count c) (hd : d = .int (l'.count m)) (hl : l.length + ys.length + 1 <= l'.length + ys'.length) : Wt l' ys' (cH kvs m d) := by
 have hlen := h.len
 unfold cH
 by_cases hm : m ∈ kvs.map (·.1)
 ·rw [if_pos hm]
  have ek : (kvs.map fun x => if x.1 = m then (x.1, d) else x).map (·.1) = kvs.map (·.1) := cT kvs m _
  refine ⟨by rw [ek]; exact h.nd, fun c => ?_, fun p hp => ?_, by rw [List.length_map]; lia⟩
  ·rw [ek, h.keys c, hk]
   constructor
   ·exact .inl
   ·rintro (z | z)
    ·exact z
    ·subst z; exact (h.keys _).mp hm
  ·obtain ⟨q, hq, rfl⟩ := List.mem_map.mp hp
   by_cases e : q.1 = m
   ·rw [if_pos e]
    show d = _
    rw [hd, e]
   ·rw [if_neg e, hc _ e]
    exact h.vals q hq
 ·rw [if_neg hm]
  refine ⟨?_, fun c => ?_, fun p hp => ?_, by rw [List.length_append, List.length_singleton]; lia⟩
  ·rw [List.map_append, List.nodup_append]
   exact ⟨h.nd, by simp, fun x hx y hy z => hm (by cases List.mem_singleton.mp hy; exact (show x = m from z) ▸ hx)⟩
  ·rw [List.map_append, List.mem_append, h.keys c, hk]; simp
  ·rcases List.mem_append.mp hp with hp | hp
   ·have : p.1 ≠ m := fun z => hm (List.mem_map.mpr ⟨p, hp, z⟩)
    rw [hc _ this]
    exact h.vals p hp
   ·cases List.mem_singleton.mp hp
    exact hd
def BD : List D -> (D -> Prop) -> Prop := fun ds R => ∃ k, ds = [.int k] /\ Kd k /\ R (eL (nr k))
def lG : List D -> (D -> Prop) -> Prop := fun ds R => ∃ k bo st, ds = [rl k bo st] /\ R (.bl (decide (0 ∉ bo)))
def vV : List D -> (D -> Prop) -> Prop := fun ds R => ∃ k bo st, ds = [rl k bo st] /\ 0 ∉ bo /\ R .non
def uu (c : Addr) (ds : List D) (C : Addr) : Prop := C = c /\ ∃ k bo st, ds = [rl k bo st] /\ 0 ∈ bo
theorem kq {neg : Bool} : kY neg d (.lst ds) q -> kY neg d (.tup ds) q := by
 rintro ⟨ds', h, r⟩
 rcases h with h | h
 ·cases h; exact ⟨_, .inr rfl, r⟩
 ·cases h
def fr (p : Nat -> Bool) (w : Nat) : List Nat := (List.range w).filter p
theorem uv (p : Nat -> Bool) (w : Nat) : fr p (w + 1) = fr p w ++ if p w = true then [w] else [] := by
 unfold fr
 rw [List.range_succ, List.filter_append]
 congr 1
 by_cases h : p w = true <;> simp [h]
theorem gh (l : List Nat) (lo : Int) : (l.map fun (i : Nat) => D.int (lo + (i : Int))) = (l.map fun (i : Nat) => lo + (i : Int)).map D.int := by rw [List.map_map]; rfl
theorem cJ (l : List Nat) (lo : Int) : flats (l.map fun (i : Nat) => D.int (lo + (i : Int))) = true := by
 rw [show (l.map fun (i : Nat) => D.int (lo + (i : Int))) = (l.map fun (i : Nat) => lo + (i : Int)).map D.int by rw [List.map_map]; rfl]
 exact bX _
theorem rm (p : Nat -> Bool) (b : Bool) (w : Nat) : fr (fun x => if x = w then b else p x) (w + 1) = fr p w ++ if b = true then [w] else [] := by
 rw [uv]
 congr 1
 ·unfold fr
  refine List.filter_congr fun x hx => ?_
  have := List.mem_range.mp hx
  rw [if_neg (by lia)]
 ·rw [if_pos rfl]
theorem fL {T : List Sl} : ∀ (r : List Sl) (k : Nat), bt 1 [0] T (k + 1) r = r
 | [], _ => rfl
 | s :: r, k => by
  have : ([0] : List Nat).idxOf? (k + 1) = none := by simp [List.idxOf?, List.findIdx?_cons]
  unfold bt
  rw [this, fL r (k + 1)]
theorem iY {ad : Option Addr} {pn pn2 : List Int} {rest : List Sl} {x : Sl} : backS 1 [0] (.pen ad pn :: rest) [x, .pen ad pn2] = .pen ad pn2 :: rest := by
 show bt 1 [0] _ 0 _ = _
 unfold bt
 rw [fL]
 rfl
theorem mV {ad : Option Addr} {pn : List Int} {rest : List Sl} {QN : List D -> List Sl -> Prop} {vt : VTT} {lo : Int} {n b : Nat} (hb : b + n <= 1000000) (hp : Pn b pn)
  (hvt : ∀ (b' : Nat) (pn' : List Int) (x : Int) (A : Bool -> List Sl -> Prop), Pn b' pn' -> b' <= 1000000 -> (∀ v pn2, Pn (b' + 1) pn2 -> A v [.val (.int x), .pen ad pn2]) -> vt [.val (.int x), .pen ad pn'] A)
  (q : ∀ (p : Nat -> Bool) pn', Pn (b + n) pn' -> QN ((fr p n).map fun (i : Nat) => D.int (lo + (i : Int))) (.pen ad pn' :: rest)) : iM 1 [0] (vgN 0) vt (oP (sH 0)) QN (rg lo n) (.pen ad pn :: rest) := by
 refine pQ (fun i ys S2 => ∃ (p : Nat -> Bool) (pn' : List Int), Pn (b + i) pn' /\ ys = ((fr p i).map fun (i : Nat) => D.int (lo + (i : Int))) /\ S2 = .pen ad pn' :: rest) (by lia) ⟨fun _ => false, pn, hp, rfl, rfl⟩ ?_ ?_
 ·rintro i ys S2 hi ⟨p, pn', h1, rfl, rfl⟩
  refine ⟨(by show 0 < _; simp [bE]), ?_⟩
  show vt [.val (.int (lo + (i : Int))), .pen ad pn'] _
  refine hvt (b + i) pn' _ _ h1 (by lia) fun v pn2 h2 => ?_
  cases v with
  | true =>
   refine eS (fun _ => ?_) (fun e => nomatch e)
   refine ⟨.d (.int (lo + (i : Int))), rfl, rfl, ?_⟩
   refine j3 ?_
   rw [iY]
   exact ⟨fun x => if x = i then true else p x, pn2, h2, by rw [rm, List.map_append]; rfl, rfl⟩
  | false =>
   refine eS (fun e => nomatch e) (fun _ => ?_)
   rw [iY]
   exact ⟨fun x => if x = i then false else p x, pn2, h2, by rw [rm, List.map_append]; simp, rfl⟩
 ·rintro ys S2 ⟨p, pn', h1, rfl, rfl⟩
  exact q p pn' h1
theorem BE {r : Int} (h0 : 0 <= r) (h1 : r < 3) : ∃ k, Kd k /\ atI [D.int 4, .int 6, .int 8] r = some (.int k) := by
 have : r = 0 \/ r = 1 \/ r = 2 := by lia
 rcases this with rfl | rfl | rfl
 ·exact ⟨4, .inl rfl, rfl⟩
 ·exact ⟨6, .inr (.inl rfl), rfl⟩
 ·exact ⟨8, .inr (.inr rfl), rfl⟩
def eB3 (bs : List Bool) : D := .tup (bs.map D.bl)
theorem ux : Enc 1 eB3 := xH.tup
theorem Co (n : Nat) : cutD ds none (some (n : Int)) = ds.take n := by
 unfold cutD
 rw [HT.rY, HT.oA, List.drop_zero, Nat.sub_zero]
 by_cases h : n <= ds.length
 ·rw [Nat.min_eq_left h]
 ·rw [Nat.min_eq_right (by lia), List.take_of_length_le (Nat.le_refl _), List.take_of_length_le (by lia)]
def sp (k : Int) : List (List Int) := if k = 4 then [[0, -1], [-1, 0], [1, 0], [0, 1]] else if k = 6 then [[0, -1], [-1, 0], [1, 0], [0, 1], [-1, -1], [1, 1]] else [[0, -1], [-1, 0], [1, 0], [0, 1], [-1, -1], [1, 1], [-1, 1], [1, -1]]
theorem mW {k : Int} (hk : Kd k) : (sp k).Perm (nr k) := by rcases hk with rfl | rfl | rfl <;> decide +kernel
def lH : List D -> (D -> Prop) -> Prop := fun ds R => ∃ k, ds = [.int k] /\ Kd k /\ R (eL (sp k))
def rn : List D -> (D -> Prop) -> Prop := fun ds R => ∃ k bo st xs, ds = [rl k bo st, eL xs] /\ Kd k /\ (∀ p ∈ xs, Pr p) /\ xs.length <= 15625 /\ R (eL (nx k bo st xs))
section
variable {P : Program} {w : World} {K : PySem.W.Frag} {mg : Str -> Option Value} {base : Heap}
theorem za {a_OFFSETS : Addr} (S : Src K mg "offsets" g7) (T : Txt mg) (hD : mg "OFFSETS" = some (.ref a_OFFSETS)) (kD : okD K a_OFFSETS rows = true) : Has P w K mg base 1 "offsets" ["kind"] (spP K BD) := by
 refine cW S nV (by walk_at "1") (fun ds R zq1 => by obtain ⟨_, e, _⟩ := zq1; rw [e]; rfl) fun f cdv A outer s H E hr => ⟨_, _, (ak (az (aT (sL rfl (by rfl) T.list_ (aa (yn (rows := rows) rfl kD (fP (v := .ref a_OFFSETS) (by rfl) hD rfl) (ae 0 (pv 0)) (fun _ _ => rfl)) ah))))), ?_⟩
 rintro ds R ⟨k, rfl, hk, q⟩
 walk_at "sl"
 walk_at "rd"
 refine yo rfl (qY hk) ?_
 walk_at "rd"
 exact pM rfl (dq _) (by walk_at "rd"; exact q)
theorem rp (S : Src K mg "is_quiet" g8) (T : Txt mg) : Has P w K mg base 1 "is_quiet" ["rule"] (spP K lG) := by
 refine cW S nW (by walk_at "1") (fun ds R zq1 => by obtain ⟨_, _, _, e, _⟩ := zq1; rw [e]; rfl) fun f cdv A outer s H E hr => ⟨_, _, (ak (az (fy (nF (K := K) rfl hr.units) uX af (aG rfl (ae 0 (pv 0)) af (fun _ _ => rfl)) (by with_unfolding_all rfl)))), ?_⟩
 rintro ds R ⟨k, bo, sy, rfl, q⟩
 unfold rl
 walk_at "sl"
 walk_at "rc"
 by_cases h : 0 ∈ bo
 ·refine kq (A9 (f := D.int) (l := bo) eP h ?_)
  walk_at "rc"
  rw [decide_eq_false (by simpa using h)] at q
  exact q
 ·refine kq (A8 (f := D.int) (l := bo) eP h ?_)
  walk_at "rc"
  rw [decide_eq_true h] at q
  exact q
theorem uy (S : Src K mg "refuse_loud" bM) (T : Txt mg) (e3_ : Has P w K mg base 1 "is_quiet" ["rule"] (spP K lG)) : Has P w K mg base 2 "refuse_loud" ["rule"] (spP K vV) := by
 refine cW S eY (by walk_at "1") (fun ds R zq1 => by obtain ⟨_, _, _, e, _⟩ := zq1; rw [e]; rfl) fun f cdv A outer s H E hr => ⟨_, _, (ak (ba (bV (cu (bY e3_ hr (aa (ae 0 (pv 0)) ah)))) (ak oV) aD)), ?_⟩
 rintro ds R ⟨k, bo, st, rfl, h0, q⟩
 walk_at "sl"
 walk_at "rd"
 refine ⟨k, bo, st, rfl, ?_⟩
 rw [decide_eq_true h0]
 walk_at "rc"
 exact q
theorem rq {c_Loud : Addr} (S : Src K mg "refuse_loud" bM) (T : Txt mg) (e3_ : Has P w K mg base 1 "is_quiet" ["rule"] (spP K lG)) (g_Loud : mg "Loud" = some (.ref c_Loud))
  (x_Loud : PySem.W.excIn K c_Loud [.type "ValueError", .type "Exception", .type "BaseException", .type "object"] "ValueError.__new__" = true) : iu P w K mg base 2 "refuse_loud" ["rule"] (uu c_Loud) := by
 refine qh S eY (by walk_at "1") (fun ds C h => by obtain ⟨_, _, _, _, e, _⟩ := h; rw [e]; rfl) fun f cdv A outer s H E hr TH => ⟨_, _, (Br (bV (cu (bY e3_ hr (aa (ae 0 (pv 0)) ah)))) (qg TH PySem.F.excBase_ValueError x_Loud g_Loud rfl)
  qf), ?_⟩
 rintro ds C ⟨rfl, k, bo, st, rfl, h0⟩
 walk_at "sl"
 walk_at "rd"
 refine ⟨k, bo, st, rfl, ?_⟩
 rw [decide_eq_false (by simpa using h0)]
 walk_at "rc"
 exact if_pos rfl ▸ trivial
theorem rA (S : Src K mg "_law_steps" jA) (T : Txt mg) : Has P w K mg base 1 "_law_steps" ["_law_kind"] (spP K lH) := by
 refine cW S ff (by walk_at "1") (fun ds R zq1 => by obtain ⟨_, e, _⟩ := zq1; rw [e]; rfl) fun f cdv A outer s H E hr => ⟨_, _, (aj (fV (fun _ h => df (i := 1) ff.nd rfl (Or.inl rfl) h) (cA (aa (aM (aa af (aa (gB dZ af) ah))) (aa (aM (aa (gB dZ af) (aa af ah))) (aa (aM (aa af (aa af ah))) (aa (aM (aa af (aa af ah))) ah))))))
  (aj (ba (aO lS aK (ae 0 (pv 0)) af (aH _)) (ak (fV (fun _ h => df (i := 1) ff.nd rfl (Or.inl rfl) h) (pS 1 (pv 1) (cA (aa (aM (aa (gB dZ af) (aa (gB dZ af) ah))) (aa (aM (aa af (aa af ah))) ah)))))) aD)
  (aj (ba (aO dh ir (ae 0 (pv 0)) af (aH _)) (ak (fV (fun _ h => df (i := 1) ff.nd rfl (Or.inl rfl) h) (pS 1 (pv 1) (cA (aa (aM (aa (gB dZ af) (aa af ah))) (aa (aM (aa af (aa (gB dZ af) ah))) ah)))))) aD)
  (ak (az (bu (ae 1 (pv 1)))))))), ?_⟩
 rintro ds R ⟨k, rfl, hk, q⟩
 walk_at "sl"
 rcases hk with rfl | rfl | rfl
 ·walk_at "rc"
  exact q
 ·walk_at "rc"
  refine lq rfl (Nat.le_of_ble_eq_true rfl) ?_
  walk_at "rc"
  exact q
 ·walk_at "rc"
  refine lq rfl (Nat.le_of_ble_eq_true rfl) ?_
  walk_at "rc"
  refine lq rfl (Nat.le_of_ble_eq_true rfl) ?_
  walk_at "rc"
  exact q
theorem rB (S : Src K mg "_law_next" jB) (T : Txt mg) (e1_ : Has P w K mg base 1 "_law_steps" ["_law_kind"] (spP K lH)) : Has P w K mg base 2 "_law_next" ["_law_told", "_law_live"] (spP K rn) := by
 refine cW S cU (by walk_at "2") (fun ds R zq1 => by obtain ⟨_, _, _, _, e, _⟩ := zq1; rw [e]; rfl) fun f cdv A outer s H E hr => ⟨_, _, (aj (mF (fun _ h => df (i := 2) cU.nd rfl (Or.inr rfl) h) p7)
  (aj (d9 PassesOwn.never rfl (cQ rfl (ae 1 (pv 1))) (aF (aE (i := 3) cU.nd rfl (Or.inl rfl) (Or.inl rfl))) (aj (jo 2 rfl hr.units (pv 2) (mI rfl hr.units (ae 2 (pv 2)) (ae 3 (pv 3))) (ae 3 (pv 3)))
  (ak (d9 PassesOwn.never rfl (cQ rfl (bY e1_ hr (aa (aG rfl (ae 0 (pv 0)) af (fun _ _ => rfl)) ah))) (aF (aE (i := 4) cU.nd rfl (Or.inl rfl) (Or.inl rfl))) (aj (aC (i := 5) cU.nd rfl (Or.inl rfl) (aM (aa (aw aZ aK (aG rfl (ae 3 (pv 3)) af (fun _ _ => rfl)) (aG rfl (ae 4 (pv 4)) af (fun _ _ => rfl))) (aa (aw aZ aK (aG rfl (ae 3 (pv 3)) af (fun _ _ => rfl)) (aG rfl (ae 4 (pv 4)) af (fun _ _ => rfl))) ah))))
  (ak (jo 2 rfl hr.units (pv 2) (aw aZ aK (mI rfl hr.units (ae 2 (pv 2)) (ae 5 (pv 5))) af) (ae 5 (pv 5)))))))))
  (aj (mF (fun _ h => df (i := 6) cU.nd rfl (Or.inr rfl) h) p7)
  (aj (d9 PassesOwn.never rfl (cQ rfl (ae 1 (pv 1))) (aF (aE (i := 3) cU.nd rfl (Or.inl rfl) (Or.inl rfl))) (ak (jo 6 rfl hr.units (pv 6) cF (ae 3 (pv 3)))))
  (ak (ua 2 (az (aT (kh rfl rfl (by rfl) T.sorted_ dM (aa (aT (cg (tg := ["_law_cell"]) (cs := ["_law_near", "_law_told", "_law_alive"]) (ix := [2, 0, 6]) (bg (ai jB) ["_law_told", "_law_live", "_law_near", "_law_cell", "_law_step", "_law_there", "_law_alive"] (by decide +kernel)) rfl (bU (by decide)) (by decide) (t8 (ae 2 (pv 2))) (fun _ _ _ _ => (aF (aE (i := 0) (show (["_law_cell", "_law_near", "_law_told", "_law_alive"] : List Str).Nodup by decide +kernel) rfl (Or.inl rfl) (by first | exact Or.inl rfl | exact Or.inr rfl)))) (fun _ _ _ _ => (fX (aO (xG (K := K) rfl hr.units) uX (yQ rfl hr.units (ae 1 (pv 1)) (ae 0 (pv 0)) (fun _ _ => rfl)) (aG rfl (ae 2 (pv 2)) (aw aZ aK af (nv m6 zS (by rfl) T.int_ oF (aa (fy (Bn (K := K) rfl hr.units) Bm (ae 0 (pv 0)) (ae 3 (pv 3)) (by with_unfolding_all rfl)) ah))) (fun _ _ => rfl)) (by with_unfolding_all rfl)))) (fun _ _ _ _ => (bu (ae 0 (pv 0)))))) ah)))))))))), ?_⟩
 rintro ds R ⟨k, bo, st, xs, rfl, hk, hp, hl, q⟩
 walk_at "sl"
 unfold rl
 walk_at "rd"
 have nl := et hk
 have bl := mU k
 have sl : (sp k).length <= 8 := by rcases hk with rfl | rfl | rfl <;> decide
 refine jl (fun i S => ∃ kvs s3 s4 s5, Wt (bes k (xs.take i)) (xs.take i) kvs /\ S = [.val (rl k bo st), .val (eL xs), od kvs, s3, s4, s5, .no]) ⟨[], _, _, _, ⟨by simp, by simp [bes], by simp, by simp⟩, rfl⟩ ?_ ?_
 ·rintro i d S2 e ⟨kvs, s3, s4, s5, tc, rfl⟩
  obtain ⟨c, h1, rfl, hm, ht⟩ := bH e
  have hi : i < xs.length := (List.getElem?_eq_some_iff.mp h1).1
  obtain ⟨x, y, rfl⟩ := hp c hm
  have b1 := bl (xs.take i)
  have l1 : (xs.take i).length <= 15625 := by rw [List.length_take]; lia
  have l2 : (xs.take i).length * (nr k).length <= 15625 * 8 := Nat.mul_le_mul l1 nl
  have t2 := tc.len
  unfold rl
  walk_at "rd"
  refine qk (kvs := kvs) (ms := [x, y]) rfl rfl (tc.get _) ?_
  walk_at "rd"
  refine gQ (kvs := kvs) (ms := [x, y]) rfl rfl (by lia) ?_
  have tc1 : Wt (bes k (xs.take i)) (xs.take (i + 1)) (cH kvs [x, y] (.int ((bes k (xs.take i)).count [x, y] : Nat))) := by
   rw [ht]
   refine tc.upd (fun c => ⟨fun h => ?_, fun h => ?_⟩) (fun c hc => rfl) rfl ?_
   ·rcases h with h | h
    ·exact .inl (.inl h)
    ·rcases List.mem_append.mp h with h | h
     ·exact .inl (.inr h)
     ·exact .inr (List.mem_singleton.mp h)
   ·rcases h with (h | h) | h
    ·exact .inl h
    ·exact .inr (List.mem_append.mpr (.inl h))
    ·exact .inr (List.mem_append.mpr (.inr (List.mem_singleton.mpr h)))
   ·simp only [List.length_append, List.length_singleton]; lia
  walk_at "rd"
  refine ⟨k, rfl, hk, ?_⟩
  walk_at "rd"
  have l3 : (xs.take (i + 1)).length <= 15625 := by rw [List.length_take]; lia
  refine jl (fun j S => ∃ kvs s4 s5, Wt (bes k (xs.take i) ++ ((sp k).take j).map (ad [x, y])) (xs.take (i + 1)) kvs /\ S = [.val (rl k bo st), .val (eL xs), od kvs, .val (eT [x, y]), s4, s5, .no]) ⟨_, _, _, by simpa using tc1, rfl⟩ ?_ ?_
  ·rintro j d S3 e' ⟨kvs, s4, s5, tc, rfl⟩
   obtain ⟨n, h2, rfl, hm', ht'⟩ := bH e'
   obtain ⟨dx, dy, rfl⟩ := hZ hk ((mW hk).mem_iff.mp hm')
   have t2 := tc.len
   rw [List.length_append, List.length_map, List.length_take] at t2
   unfold rl
   walk_at "rd"
   refine qk (kvs := kvs) (ms := [x + dx, y + dy]) rfl rfl (tc.get _) ?_
   walk_at "rd"
   refine gQ (kvs := kvs) (ms := [x + dx, y + dy]) rfl rfl (by lia) ?_
   refine ⟨_, _, _, ?_, rfl⟩
   rw [ht', List.map_append, <- List.append_assoc]
   show Wt (_ ++ [[x + dx, y + dy]]) _ _
   refine tc.upd (fun c => ⟨fun h => ?_, fun h => ?_⟩) (fun c hc => ?_) ?_ ?_
   ·rcases h with h | h
    ·rcases List.mem_append.mp h with h | h
     ·exact .inl (.inl h)
     ·exact .inr (List.mem_singleton.mp h)
    ·exact .inl (.inr h)
   ·rcases h with (h | h) | h
    ·exact .inl (List.mem_append.mpr (.inl h))
    ·exact .inr h
    ·exact .inl (List.mem_append.mpr (.inr (List.mem_singleton.mpr h)))
   ·rw [List.count_append]
    simp [List.count_cons, Ne.symm hc]
   ·rw [List.count_append (l₂ := [[x + dx, y + dy]])]
    simp only [List.count_singleton_self]
    push_cast
    rfl
   ·simp only [List.length_append, List.length_singleton]; lia
  ·rintro S3 ⟨kvs, s4, s5, tc, rfl⟩
   rw [List.length_map, List.take_length] at tc
   refine ⟨kvs, _, _, _, ?_, rfl⟩
   have e1 : bes k (xs.take (i + 1)) = bes k (xs.take i) ++ (nr k).map (ad [x, y]) := by rw [ht]; simp [bes]
   rw [e1]
   exact Wt.perm tc (((mW hk).map _).append_left _)
 ·rintro S2 ⟨kvs, s3, s4, s5, tc, rfl⟩
  rw [List.length_map, List.take_length] at tc
  walk_at "rd"
  refine jl (fun i S => ∃ s3, S = [.val (rl k bo st), .val (eL xs), od kvs, s3, s4, s5, od (fol (xs.take i))]) ⟨_, rfl⟩ ?_ ?_
  ·rintro i d S2 e ⟨s3, rfl⟩
   obtain ⟨c, h1, rfl, hm, ht⟩ := bH e
   have hi : i < xs.length := (List.getElem?_eq_some_iff.mp h1).1
   have fl := ur (xs.take i)
   rw [List.length_take] at fl
   walk_at "rd"
   refine gQ (kvs := fol (xs.take i)) (ms := c) rfl rfl (by lia) ?_
   rw [<- rj, <- ht]
   exact ⟨_, rfl⟩
  ·rintro S2 ⟨s3, rfl⟩
   rw [List.length_map, List.take_length]
   have b1 := bl xs
   have l2 : xs.length * (nr k).length <= 15625 * 8 := Nat.mul_le_mul hl nl
   have t2 := tc.len
   walk_at "rd"
   refine dr (xs := kvs.map (·.1)) (en := kT) (f := eT) (p := liv k bo st xs) (by rw [List.length_map]; lia) (fun c hc A B hA hB => ?_) ?_
   ·dsimp only [bE, List.replicate, List.map_cons, List.map_nil, List.cons_append, List.nil_append]
    obtain ⟨pq, hpq, rfl⟩ := List.mem_map.mp hc
    have hal : decide (pq.1 ∈ (fol xs).map (·.1)) = decide (pq.1 ∈ xs) := by
     congr 1
     exact propext kn
    unfold rl
    walk_at "rd"
    refine ug (kvs := kvs) (ms := pq.1) rfl rfl ((ig tc.nd hpq).trans (by rw [tc.vals pq hpq])) ?_
    walk_at "rd"
    refine yx (ms := pq.1) rfl rfl ?_
    rw [if_neg Bool.false_ne_true, hal]
    walk_at "rd"
    refine .inr ⟨_, rfl, ?_⟩
    walk_at "rd"
    have hv : decide ((((bes k xs).count pq.1 : Nat) : Int) ∈ if decide (pq.1 ∈ xs) = true then st else bo) = liv k bo st xs pq.1 := rfl
    refine vf rfl rfl (show atI _ _ = some (.tup ((if decide (pq.1 ∈ xs) = true then st else bo).map .int)) from by by_cases h : pq.1 ∈ xs <;> simp only [h, decide_true, decide_false, if_true, if_false, Bool.false_eq_true] <;> rfl) ?_
    walk_at "rd"
    refine yz (f := D.int) eP ?_
    rw [hv]
    cases hw : liv k bo st xs pq.1 with
    | true => walk_at "rc"; refine eQ (rf _) ?_; walk_at "rc"; exact hA _ rfl hw
    | false => walk_at "rc"; exact hB _ rfl hw
   walk_at "rd"
   refine ki (mss := (kvs.map (·.1)).filter (liv k bo st xs)) rfl (fun ms hms => ?_) ?_
   ·have hk2 := (tc.keys ms).mp (List.mem_filter.mp hms).1
    obtain ⟨a, b, e⟩ := hk2.elim (rh hk hp ms) (hp ms)
    rw [e]; exact List.cons_ne_nil _ _
   ·rw [BC (k := k) (bo := bo) (st := st) (xs := xs) (tc.nd.filter _) fun c => by rw [List.mem_filter, tc.keys c]]
    walk_at "rd"
    exact q
end
end My
namespace My
open PySem L2 VL
def qn : Str := "lowest_parents.<locals>.<lambda>"
def hg (a b : Int) (ms : List Int) : Int := match ms with
 | [x, y] => a * x + b * y
 | _ => 0
def Wc (ms : List Int) : Prop := ∃ x y, ms = [x, y] /\ Wd x /\ Wd y
theorem kr {x : Int} (h1 : -1 <= x) (h2 : x <= 1) : Wd x := vU (Nat.lt_of_le_of_lt (show x.natAbs <= 1 by lia) (Nat.one_lt_two_pow (by decide)))
theorem ku {k : Int} (hk : Kd k) {m : List Int} (h : m ∈ nr k) : Wc m := by
 obtain ⟨x, y, e, h1, h2, h3, h4⟩ := dG hk h
 exact ⟨x, y, e, kr h1 h2, kr h3 h4⟩
theorem rC {x : Int} (h : x.natAbs <= 10 ^ 61) : Wd x := vU (Nat.lt_of_le_of_lt h (by decide))
theorem uz {l : List Int} (h : l.Pairwise (· <= ·)) {n : Nat} (h0 : 0 < n) (hn : n <= l.length) {M : Int} (hM : M ∈ l.take n) (hg : ∀ a ∈ l.take n, a <= M) : M = l.getD (n - 1) 0 := by
 have hlen : (l.take n).length = n := by rw [List.length_take]; lia
 have hp : (l.take n).Pairwise (· <= ·) := h.sublist (List.take_sublist _ _)
 have hi : n - 1 < (l.take n).length := by lia
 have e : l.getD (n - 1) 0 = (l.take n)[n - 1] := by
  rw [List.getElem_take, List.getD_eq_getElem?_getD, List.getElem?_eq_getElem (by lia)]
  rfl
 rw [e]
 refine Int.le_antisymm ?_ (hg _ (List.getElem_mem hi))
 obtain ⟨j, hj, rfl⟩ := List.getElem_of_mem hM
 by_cases hjn : j = n - 1
 ·subst hjn; exact Int.le_refl _
 ·exact List.pairwise_iff_getElem.mp hp j (n - 1) hj hi (by lia)
theorem n5 {l l' : List Int} (p : l.Perm l') (h : l.Pairwise (· <= ·)) (h' : l'.Pairwise (· <= ·)) : l = l' := List.Perm.eq_of_pairwise (fun _ _ _ _ h1 h2 => Int.le_antisymm h1 h2) h h' p
def fl (k a b : Int) : List Int := ((nr k).map (hg a b)).mergeSort (fun x y => decide (x <= y))
theorem jD (k a b : Int) : (fl k a b).Perm ((nr k).map (hg a b)) := List.mergeSort_perm _ _
theorem iZ (k a b : Int) : (fl k a b).Pairwise (· <= ·) := by
 have := List.pairwise_mergeSort (le := fun x y : Int => decide (x <= y)) (fun a b c h1 h2 => by simp only [decide_eq_true_eq] at *; lia) (fun a b => by simp only [Bool.or_eq_true, decide_eq_true_eq]; lia) ((nr k).map (hg a b))
 exact this.imp fun h => of_decide_eq_true h
theorem rD {k a b : Int} {l : List Int} (p : l.Perm ((nr k).map (hg a b))) (h : l.Pairwise (· <= ·)) : l = fl k a b := n5 (p.trans (jD k a b).symm) h (iZ k a b)
theorem zb (k a b : Int) : (fl k a b).length = (nr k).length := by rw [(jD k a b).length_eq, List.length_map]
def grw (k : Int) (bo : List Int) (a b : Int) : Int := match bo with
 | [] => 0
 | c :: _ => if 0 < -((fl k a b).getD (c.toNat - 1) 0) then -((fl k a b).getD (c.toNat - 1) 0) else 0
def Bo (k : Int) (bo : List Int) : Prop := (∀ c ∈ bo, 1 <= c /\ c <= k) /\ bo.length <= 20 /\ ∀ c ∈ bo, bo.headD 0 <= c
theorem Bo.zero {k : Int} (h : Bo k bo) : 0 ∉ bo := fun z => by have := (h.1 0 z).1; lia
theorem zc {k : Int} (hk : Kd k) : ((nr k).length : Int) = k := by rcases hk with rfl | rfl | rfl <;> rfl
def pCh : List D -> (D -> Prop) -> Prop := fun ds R => ∃ ms a b, ds = [eT ms, eT [a, b]] /\ Wc ms /\ Wd a /\ Wd b /\ R (.int (hg a b ms))
def pHt : List D -> (D -> Prop) -> Prop := fun ds R => ∃ mss a b, ds = [eL mss, eT [a, b]] /\ (∀ m ∈ mss, Wc m) /\ mss.length <= 2000 /\ mss ≠ [] /\ Wd a /\ Wd b /\ ∀ M, M ∈ mss.map (hg a b) -> (∀ z ∈ mss.map (hg a b), z <= M) -> R (.int M)
def pLp : List D -> (D -> Prop) -> Prop := fun ds R => ∃ k bo st a b, ds = [rl k bo st, eT [a, b]] /\ Kd k /\ Bo k bo /\ Wd a /\ Wd b /\ (bo = [] -> R (eL [])) /\ ∀ c r, bo = c :: r -> ∀ out : List (List Int), out.Perm (nr k) -> out.Pairwise (fun x y => hg a b x <= hg a b y) -> R (eL (out.take c.toNat))
def vW : List D -> (D -> Prop) -> Prop := fun ds R => ∃ k bo st a b, ds = [rl k bo st, eT [a, b]] /\ Kd k /\ Bo k bo /\ Wd a /\ Wd b /\ R (.int (grw k bo a b))
def uA (c : Addr) (ds : List D) (C : Addr) : Prop := ∃ r p, ds = [r, p] /\ uu c [r] C
section
variable {P : Program} {w : World} {K : PySem.W.Frag} {mg : Str -> Option Value} {base : Heap} {Pt c : Addr}
theorem BF (S : Src K mg "cell_height" dD) (T : Txt mg) : Has P w K mg base 1 "cell_height" ["cell", "way"] (spP K pCh) := by
 refine cW S jy (by walk_at "2") (fun ds R zq1 => by obtain ⟨_, _, _, e, _⟩ := zq1; rw [e]; rfl) fun f cdv A outer s H E hr => ⟨_, _, (ak (az (aw aZ aK (aw ck br (aG rfl (ae 1 (pv 1)) af (fun _ _ => rfl)) (aG rfl (ae 0 (pv 0)) af (fun _ _ => rfl))) (aw ck br (aG rfl (ae 1 (pv 1)) af (fun _ _ => rfl)) (aG rfl (ae 0 (pv 0)) af (fun _ _ => rfl)))))), ?_⟩
 rintro ds R ⟨ms, a, b, rfl, ⟨x, y, rfl, hx, hy⟩, ha, hb, q⟩
 walk_at "sl"
 walk_at "rd"
 exact q
theorem BG (S : Src K mg "height" gc) (T : Txt mg) (e4_ : Has P w K mg base 1 "cell_height" ["cell", "way"] (spP K pCh)) : Has P w K mg base 2 "height" ["picture", "way"] (spP K pHt) := by
 refine cW S qV (by walk_at "2") (fun ds R zq1 => by obtain ⟨_, _, _, e, _⟩ := zq1; rw [e]; rfl) fun f cdv A outer s H E hr => ⟨_, _, (ak (az (aU (li (K := K) rfl rfl) lj (by rfl) T.max_ gL (aa (aT (cg (tg := ["cell"]) (cs := ["way"]) (ix := [1]) (bg (ai gc) ["picture", "way"] (by decide +kernel)) rfl (bU (by decide)) (by decide) (cQ rfl (ae 0 (pv 0))) (fun _ _ _ _ => (aF (aE (i := 0) (show (["cell", "way"] : List Str).Nodup by decide +kernel) rfl (Or.inl rfl) (by first | exact Or.inl rfl | exact Or.inr rfl)))) (fun _ _ _ _ => fW) (fun _ _ _ _ => (bY e4_ hr (aa (ae 0 (pv 0)) (aa (ae 1 (pv 1)) ah)))))) ah)))), ?_⟩
 rintro ds R ⟨mss, a, b, rfl, hw, hl, h0, ha, hb, q⟩
 walk_at "sl"
 walk_at "rd"
 refine comp_map (xs := mss) (en := eT) (f := fun m => .int (hg a b m)) (by lia) (fun m hm A B hA => ?_) ?_
 ·dsimp only [bE, List.replicate, List.map_cons, List.map_nil, List.cons_append, List.nil_append]
  walk_at "rd"
  refine ⟨m, a, b, rfl, hw m hm, ha, hb, ?_⟩
  walk_at "rd"
  exact hA _ rfl
 rw [show mss.map (fun m => D.int (hg a b m)) = (mss.map (hg a b)).map D.int by rw [List.map_map]; rfl]
 walk_at "rd"
 refine lr (by simpa using h0) fun M h1 h2 => ?_
 walk_at "rd"
 exact q M h1 h2
theorem BH (S : Src K mg "lowest_parents" b8) (T : Txt mg) (e15_ : Has P w K mg base 1 "offsets" ["kind"] (spP K BD)) (e4_ : Has P w K mg base 1 "cell_height" ["cell", "way"] (spP K pCh)) (hC : PySem.W.codeHdIn K c Pt = true) (hB : Bmod mg base) (hcd : ∀ f fd, mg "lowest_parents" = some (.ref f) -> (∃ oc od osl, K.lookup f = some ⟨oc, od, .func fd, osl⟩) -> fd.code = .ref c) : Has P w K mg base 5 "lowest_parents" ["rule", "way"] (spT K Pt qn pLp) := by
 refine jw S aX (by walk_at "2") (fun ds R zq1 => by obtain ⟨_, _, _, _, _, e, _⟩ := zq1; rw [e]; rfl) fun f fd A outer s H E hr hT hmf hlk => ?_
 have hcode : fd.code = .ref c := hcd f fd hmf hlk
 refine ⟨_, _, (aj (xw (ae 0 (pv 0)) (gE (n := 3) rfl rfl (bh (aF (aE (i := 2) aX.nd rfl (Or.inl rfl) (Or.inl rfl))) (bh (aF (aE (i := 3) aX.nd rfl (Or.inl rfl) (Or.inl rfl))) (bh (aF (aE (i := 4) aX.nd rfl (Or.inl rfl) (Or.inl rfl))) eK)))))
  (aj (ba (bV (pR rfl (ae 3 (pv 3)))) (ak (az (aT (cA ah)))) aD)
  (aj (aC (i := 5) aX.nd rfl (Or.inl rfl) (aT (qQ (m := false) (iy := 1) rfl hr (by rfl) T.sorted_ hcode hC hB hT (by rfl) (nU (by decide +kernel)) rfl rfl rfl (yX rfl rfl) (fun _ _ _ _ _ => rfl) (aa (bY e15_ hr (aa (ae 2 (pv 2)) ah)) ah) (fun _ _ _ _ _ _ hr => (bY e4_ hr (aa (ae 0 (pv 0)) (aa (ae 1 (pv 1)) ah)))))))
  (ak (az (aT (Bf rfl (ae 5 (pv 5)) tw (tx (aG rfl (ae 3 (pv 3)) af (fun _ _ => rfl)))))))))), ?_⟩
 rintro ds R ⟨k, bo, st, a, b, rfl, hk, hbo, ha, hb, q0, q1⟩
 walk_at "sl"
 unfold rl
 walk_at "rd"
 cases bo with
 | nil =>
  refine jn (b := false) rfl rfl ?_
  walk_at "rc"
  exact q0 rfl
 | cons c0 r =>
  obtain ⟨c1, c2⟩ := hbo.1 c0 List.mem_cons_self
  refine jn (b := true) rfl rfl ?_
  walk_at "rc"
  refine ⟨k, rfl, hk, ?_⟩
  walk_at "rc"
  refine qU (hg a b) rfl (Nat.lt_of_le_of_lt (et hk) (by decide)) rfl (fun ms hms => ?_) fun out h1 h2 => ?_
  ·walk_at "rc"
   exact ⟨ms, a, b, rfl, ku hk hms, ha, hb, rfl⟩
  walk_at "rc"
  refine tI rfl (dq _) (es := (out.take c0.toNat).map eT) (by have := Co (ds := out.map eT) c0.toNat; rw [Int.toNat_of_nonneg (by lia)] at this; rw [this, List.map_take]) ?_
  walk_at "rc"
  exact q1 c0 r rfl out h1 h2
theorem uB (S : Src K mg "growth" eZ) (T : Txt mg) (e12_ : Has P w K mg base 2 "refuse_loud" ["rule"] (spP K vV)) (e2_ : Has P w K mg base 5 "lowest_parents" ["rule", "way"] (spT K Pt qn pLp)) (e14_ : Has P w K mg base 2 "height" ["picture", "way"] (spP K pHt)) : Has P w K mg base 6 "growth" ["rule", "way"] (spT K Pt qn vW) := by
 refine jw S g9 (by walk_at "2") (fun ds R zq1 => by obtain ⟨_, _, _, _, _, e, _⟩ := zq1; rw [e]; rfl) fun f fd A outer s H E hr hT hmf hlk => ⟨_, _, (aj (mn (bY e12_ hr (aa (ae 0 (pv 0)) ah)))
  (aj (aC (i := 2) g9.nd rfl (Or.inl rfl) (gb hT e2_ hr (aa (ae 0 (pv 0)) (aa (ae 1 (pv 1)) ah))))
  (ak (az (oS (pR rfl (ae 2 (pv 2))) (aU (iz rfl) zR (by rfl) T.max_ gL (aa af (aa (gB dZ (bY e14_ hr (aa (ae 2 (pv 2)) (aa (ae 1 (pv 1)) ah)))) ah))) af))))), ?_⟩
 rintro ds R ⟨k, bo, st, a, b, rfl, hk, hbo, ha, hb, q⟩
 walk_at "sl"
 walk_at "rd"
 refine ⟨k, bo, st, rfl, hbo.zero, ?_⟩
 walk_at "rd"
 refine ⟨k, bo, st, a, b, rfl, hk, hbo, ha, hb, fun e => ?_, fun c0 r e out h1 h2 => ?_⟩
 ·subst e
  walk_at "rd"
  refine jn (b := false) rfl rfl ?_
  walk_at "rc"
  exact q
 ·subst e
  obtain ⟨c1, c2⟩ := hbo.1 c0 List.mem_cons_self
  have hn : c0.toNat <= out.length := by
   have := zc hk
   rw [h1.length_eq]
   lia
  have hne : out.take c0.toNat ≠ [] := fun z => by
   have := congrArg List.length z
   rw [List.length_take, List.length_nil] at this
   lia
  obtain ⟨m0, r0, e0⟩ : ∃ m0 r0, out.take c0.toNat = m0 :: r0 := by
   cases hz : out.take c0.toNat with
   | nil => exact absurd hz hne
   | cons m0 r0 => exact ⟨m0, r0, rfl⟩
  walk_at "rd"
  refine jn (b := true) rfl (by rw [e0]; rfl) ?_
  walk_at "rc"
  refine ⟨_, a, b, rfl, fun m hm => ku hk (h1.mem_iff.mp (List.mem_of_mem_take hm)), by rw [List.length_take, h1.length_eq]; have := et hk; lia, hne, ha, hb, fun M hM hM2 => ?_⟩
  rw [List.map_take] at hM hM2
  have pw : (out.map (hg a b)).Pairwise (· <= ·) := by rw [List.pairwise_map]; exact h2
  have eM := uz pw (n := c0.toNat) (by lia) (by rw [List.length_map]; exact hn) hM hM2
  rw [rD (h1.map _) pw] at eM
  subst eM
  walk_at "rc"
  exact q
theorem rE {c_Loud : Addr} (S : Src K mg "growth" eZ) (T : Txt mg) (EX_refuse_loud : iu P w K mg base 2 "refuse_loud" ["rule"] (uu c_Loud)) : iu P w K mg base 6 "growth" ["rule", "way"] (uA c_Loud) := by
 refine qh S g9 (by walk_at "2") (fun ds C h => by obtain ⟨_, _, e, _⟩ := h; rw [e]; rfl) fun f cdv A outer s H E hr TH => ⟨_, _, (tT TH EX_refuse_loud rfl hr (aa (ae 0 (pv 0)) ah)), ?_⟩
 rintro ds C ⟨r, p1, rfl, h⟩
 walk_at "sl"
 walk_at "rd"
 exact ⟨_, C, rfl, h, rfl⟩
end
end My
namespace My
open PySem L2 VL
def pNu : List Int -> List D -> (D -> List Int -> Prop) -> Prop := fun pn ds R => ∃ b : Nat, ds = [] /\ Pn b pn /\ b <= 10000 /\ ∀ (x : Int) pn', x.natAbs <= 10 ^ 60 -> Pn (b + 3) pn' -> R (.int x) pn'
def pRu : List Int -> List D -> (D -> List Int -> Prop) -> Prop := fun pn ds R => ∃ b : Nat, ds = [] /\ Pn b pn /\ b <= 10000 /\ ∀ (k : Int) (bo sy : List Int) pn', Kd k -> Bo k bo -> sy.length <= 20 -> Pn (b + 30) pn' -> R (rl k bo sy) pn'
def pWy : List Int -> List D -> (D -> List Int -> Prop) -> Prop := fun pn ds R => ∃ b : Nat, ds = [] /\ Pn b pn /\ b <= 9000 /\ ∀ (x y : Int) pn', Wd x -> Wd y -> Pn (b + 7) pn' -> R (eT [x, y]) pn'
def pLg : List D -> (D -> Prop) -> Prop := fun ds R => ∃ k bo st a b, ds = [rl k bo st, eT [a, b]] /\ Kd k /\ Bo k bo /\ Wd a /\ Wd b /\ R (.int (grw k bo a b))
def pRf (c : Addr) : List D -> (D -> Prop) -> Prop := fun ds R => ∃ r p, ds = [r, p] /\ uu c [r] c /\ R (.bl true)
theorem mX {k : Int} (hk : Kd k) : (sp k).Perm (nr k) := by rcases hk with rfl | rfl | rfl <;> decide
theorem BI {p : Nat -> Bool} {n : Nat} {lo : Int} : ∀ c ∈ (fr p n).map fun (i : Nat) => lo + (i : Int), lo <= c /\ c < lo + (n : Int) := fun c hc => by
 obtain ⟨i, hi, rfl⟩ := List.mem_map.mp hc
 have := List.mem_range.mp (List.mem_filter.mp hi).1
 lia
theorem rF {p : Nat -> Bool} {n : Nat} : (fr p n).length <= n := by
 have := List.length_filter_le p (List.range n)
 rwa [List.length_range] at this
theorem uC {p : Nat -> Bool} {n : Nat} {lo : Int} : ∀ c ∈ (fr p n).map fun (i : Nat) => lo + (i : Int), ((fr p n).map fun (i : Nat) => lo + (i : Int)).headD 0 <= c := fun c hc => by
 have pw : ((fr p n).map fun (i : Nat) => lo + (i : Int)).Pairwise (· <= ·) := by
  rw [List.pairwise_map]
  exact List.Pairwise.imp (fun h => by lia) (List.Pairwise.filter _ List.pairwise_lt_range)
 cases e : (fr p n).map fun (i : Nat) => lo + (i : Int) with
 | nil => rw [e] at hc; cases hc
 | cons h t =>
  rw [e] at hc pw
  rcases List.mem_cons.mp hc with z | z
  ·rw [z]; exact Int.le_refl _
  ·exact (List.pairwise_cons.mp pw).1 c z
section
variable {P : Program} {w : World} {K : PySem.W.Frag} {mg : Str -> Option Value} {base : Heap}
theorem BJ (S : Src K mg "_law_number" hU) (T : Txt mg) (e0_ : Has P w K mg base 1 "_law_draw" ["_law_pen_here", "_law_many"] (spI K 0 km)) : Has P w K mg base 2 "_law_number" ["_law_pen_here"] (spI K 0 pNu) := by
 refine mq 0 S iW (by walk_at "1") (fun ns ds R zq1 => by obtain ⟨_, e, _⟩ := zq1; rw [e]; rfl) fun f cdv A outer s H E hr => ⟨_, _, (aj (aC (i := 1) iW.nd rfl (Or.inl rfl) (bw e0_ hr (aa (ae 0 (pv 0)) (aa af ah))))
  (aj (ba (aO uL aK (ae 1 (pv 1)) af (aH _)) (ak (az (aw cL aK (bw e0_ hr (aa (ae 0 (pv 0)) (aa af ah))) af))) aD)
  (aj (ba (aO dh ir (ae 1 (pv 1)) af (aH _)) (ak (az (aw cL aK (bw e0_ hr (aa (ae 0 (pv 0)) (aa (aw gq br af af) ah))) (aw cM br af (aw gq br af af))))) aD)
  (ak (az (aw cM br (aw cL aK (aw cL aK (aw gq br af af) af) (bw e0_ hr (aa (ae 0 (pv 0)) (aa af ah)))) (aw cL aK af (aw cM br af (bw e0_ hr (aa (ae 0 (pv 0)) (aa af ah))))))))))), ?_⟩
 rintro a pn ds es R hl ⟨b, e, hpn, hb, q⟩
 obtain rfl : ds = [] := List.eq_nil_of_length_eq_zero hl
 obtain rfl : es = [] := e
 have e60 : (10 : Nat) ^ 60 = 1000000000000000000000000000000000000000000000000000000000000 := by decide
 have e6 : (10 ^ Int.toNat 60 : Int) = 1000000000000000000000000000000000000000000000000000000000000 := by decide
 have e9 : (10 ^ Int.toNat 9 : Int) = 1000000000 := by decide
 have e8 : (10 ^ Int.toNat 8 : Int) = 100000000 := by decide
 rw [e60] at q
 walk_at "sl"
 walk_at "rd"
 refine ⟨b, 12, rfl, hpn, by lia, by lia, by lia, fun pn1 r1 h1 r1a r1b => ?_⟩
 walk_at "rd"
 refine bZ (fun c1 => ?_) (fun c1 => ?_)
 ·walk_at "rd"
  refine ⟨b + 1, 9, rfl, h1, by lia, by lia, by lia, fun pn2 r2 h2 r2a r2b => ?_⟩
  walk_at "rd"
  exact ⟨_, rfl, q _ _ (by lia) (h2.le (by lia))⟩
 ·walk_at "rd"
  refine bZ (fun c2 => ?_) (fun c2 => ?_)
  ·walk_at "rd"
   try rw [e9]
   refine ⟨b + 1, 1000000000, rfl, h1, by lia, by lia, by lia, fun pn2 r2 h2 r2a r2b => ?_⟩
   walk_at "rd"
   rw [e8]
   exact ⟨_, rfl, q _ _ (by lia) (h2.le (by lia))⟩
  ·walk_at "rd"
   refine ⟨b + 1, 3, rfl, h1, by lia, by lia, by lia, fun pn2 r2 h2 r2a r2b => ?_⟩
   walk_at "rd"
   refine ⟨b + 2, 2, rfl, h2, by lia, by lia, by lia, fun pn3 r3 h3 r3a r3b => ?_⟩
   walk_at "rd"
   rw [e6]
   refine ⟨_, rfl, q _ _ ?_ (h3.le (by lia))⟩
   rcases (by lia : r3 = 0 \/ r3 = 1) with rfl | rfl
   ·rw [show (1 - 2 * 0 : Int) = 1 from rfl, Int.mul_one]; lia
   ·rw [show (1 - 2 * 1 : Int) = -1 from rfl]; lia
theorem BK (S : Src K mg "_law_rule" hV) (T : Txt mg) (e0_ : Has P w K mg base 1 "_law_draw" ["_law_pen_here", "_law_many"] (spI K 0 km)) : Has P w K mg base 2 "_law_rule" ["_law_pen_here"] (spI K 0 pRu) := by
 refine mq 0 S gg (by walk_at "1") (fun ns ds R zq1 => by obtain ⟨_, e, _⟩ := zq1; rw [e]; rfl) fun f cdv A outer s H E hr => ⟨_, _, (aj (aC (i := 1) gg.nd rfl (Or.inl rfl) (aG rfl (aT (cA (aa af (aa af (aa af ah))))) (bw e0_ hr (aa (ae 0 (pv 0)) (aa af ah))) (fun _ _ => rfl)))
  (aj (aC (i := 2) gg.nd rfl (Or.inl rfl) (bw e0_ hr (aa (ae 0 (pv 0)) (aa af ah))))
  (aj (aC (i := 3) gg.nd rfl (Or.inl rfl) (gC rfl (by rfl) T.tuple_ (aa (aT (cg (tg := ["_law_count"]) (cs := ["_law_pen_here"]) (ix := [0]) (bg (ai hV) ["_law_pen_here", "_law_kind", "_law_way_here", "_law_stay"] (by decide +kernel)) rfl (bU (by decide)) (by decide) (dJ rfl T.range (aa (aw aZ aK (ae 1 (pv 1)) af) ah)) (fun _ _ _ _ => (aF (aE (i := 0) (show (["_law_count", "_law_pen_here"] : List Str).Nodup by decide +kernel) rfl (Or.inl rfl) (by first | exact Or.inl rfl | exact Or.inr rfl)))) (fun _ _ _ _ => (fX (aO dh ir (bw e0_ hr (aa (ae 1 (pv 1)) (aa af ah))) af (aH _)))) (fun _ _ _ _ => (bu (ae 0 (pv 0)))))) ah)))
  (aj (ba (aO dh ir (ae 2 (pv 2)) af (aH _)) (ak (az (aM (aa (bu (ae 1 (pv 1))) (aa (aM ah) (aa (bu (ae 3 (pv 3))) ah)))))) aD)
  (aj (ba (aO dh ir (ae 2 (pv 2)) af (aH _)) (ak (az (aM (aa (bu (ae 1 (pv 1))) (aa (aM (aa (aw aZ aK af (bw e0_ hr (aa (ae 0 (pv 0)) (aa (ae 1 (pv 1)) ah)))) ah)) (aa (bu (ae 3 (pv 3))) ah)))))) aD)
  (ak (az (aM (aa (bu (ae 1 (pv 1))) (aa (gC rfl (by rfl) T.tuple_ (aa (aT (cg (tg := ["_law_count"]) (cs := ["_law_pen_here"]) (ix := [0]) (bg (ai hV) ["_law_pen_here", "_law_kind", "_law_way_here", "_law_stay"] (by decide +kernel)) rfl (bU (by decide)) (by decide) (nA rfl T.range (aa af (aa (aw aZ aK (ae 1 (pv 1)) af) ah))) (fun _ _ _ _ => (aF (aE (i := 0) (show (["_law_count", "_law_pen_here"] : List Str).Nodup by decide +kernel) rfl (Or.inl rfl) (by first | exact Or.inl rfl | exact Or.inr rfl)))) (fun _ _ _ _ => (fX (aO dh ir (bw e0_ hr (aa (ae 1 (pv 1)) (aa af ah))) af (aH _)))) (fun _ _ _ _ => (bu (ae 0 (pv 0)))))) ah)) (aa (bu (ae 3 (pv 3))) ah))))))))))), ?_⟩
 rintro a pn ds es R hl ⟨b, e, hpn, hb, q⟩
 obtain rfl : ds = [] := List.eq_nil_of_length_eq_zero hl
 obtain rfl : es = [] := e
 walk_at "sl"
 walk_at "rd"
 refine ⟨b, 3, rfl, hpn, by lia, by lia, by lia, fun pn1 r1 h1 r1a r1b => ?_⟩
 walk_at "rd"
 obtain ⟨k, hk, ek⟩ := BE r1a r1b
 have hkb : 4 <= k /\ k <= 8 := by rcases hk with rfl | rfl | rfl <;> lia
 refine iL rfl rfl ek ?_
 walk_at "rd"
 refine ⟨b + 1, 4, rfl, h1, by lia, by lia, by lia, fun pn2 r2 h2 r2a r2b => ?_⟩
 walk_at "rd"
 have hvt : ∀ (m : Int) (b' : Nat) (pn' : List Int) (x : Int) (A : Bool -> List Sl -> Prop), 0 < m -> m < 100 -> Pn b' pn' -> b' <= 1000000 -> (∀ v pn2, Pn (b' + 1) pn2 -> A v [.val (.int x), .pen (some a) pn2]) -> (iI (v2 wEq (xC 0 km (mi (sH 1) (mi (vC (D.int m)) xj))) (vC (D.int 0)))) [.val (.int x), .pen (some a) pn'] A := by
  intro m b' pn' x A m0 m1 h1 h2 h3
  walk_at "rd"
  refine ⟨b', m, rfl, h1, by lia, by lia, by lia, fun pn3 r3 h4 r3a r3b => ?_⟩
  walk_at "rd"
  exact h3 _ _ h4
 refine mV (b := b + 2) (by lia) h2 (fun b' pn' x A => hvt 2 b' pn' x A (by decide) (by decide)) fun p1 pn3 h3 => ?_
 walk_at "rd"
 refine mz rfl (cJ _ _) ?_
 walk_at "rd"
 have l1 : ((fr p1 (k + 1).toNat).map fun (i : Nat) => (0 : Int) + (i : Int)).length <= 20 := by rw [List.length_map]; have := rF (p := p1) (n := (k + 1).toNat); lia
 refine bZ (fun c1 => ?_) (fun c1 => ?_)
 ·walk_at "rd"
  try refine eQ (cJ _ _) ?_
  walk_at "rd"
  rw [gh]
  exact ⟨_, rfl, q k [] _ _ hk ⟨fun c hc => (by cases hc), Nat.zero_le _, fun c hc => (by cases hc)⟩ l1 (h3.le (by lia))⟩
 ·walk_at "rd"
  refine bZ (fun c2 => ?_) (fun c2 => ?_)
  ·walk_at "rd"
   refine ⟨b + 2 + (k + 1).toNat, k, rfl, h3, by lia, by lia, by lia, fun pn4 r4 h4 r4a r4b => ?_⟩
   walk_at "rd"
   try refine eQ (cJ _ _) ?_
   walk_at "rd"
   rw [gh]
   exact ⟨_, rfl, q k [1 + r4] _ _ hk ⟨fun c hc => by rw [List.mem_singleton.mp hc]; lia, by simp, fun c hc => by rw [List.mem_singleton.mp hc]; exact Int.le_refl _⟩ l1 (h4.le (by lia))⟩
  ·walk_at "rd"
   refine mV (b := b + 2 + (k + 1).toNat) (by lia) h3 (fun b' pn' x A => hvt 3 b' pn' x A (by decide) (by decide)) fun p2 pn4 h4 => ?_
   walk_at "rd"
   refine mz rfl (cJ _ _) ?_
   walk_at "rd"
   try refine eQ (cJ _ _) ?_
   walk_at "rd"
   rw [gh, gh]
   exact ⟨_, rfl, q k _ _ _ hk ⟨fun c hc => by have := BI c hc; lia, by rw [List.length_map]; have := rF (p := p2) (n := (k + 1 - 1).toNat); lia, uC⟩ l1 (h4.le (by lia))⟩
theorem BL (S : Src K mg "_law_way" qX) (T : Txt mg) (e0_ : Has P w K mg base 1 "_law_draw" ["_law_pen_here", "_law_many"] (spI K 0 km)) (e7_ : Has P w K mg base 2 "_law_number" ["_law_pen_here"] (spI K 0 pNu)) : Has P w K mg base 3 "_law_way" ["_law_pen_here"] (spI K 0 pWy) := by
 refine mq 0 S yZ (by walk_at "1") (fun ns ds R zq1 => by obtain ⟨_, e, _⟩ := zq1; rw [e]; rfl) fun f cdv A outer s H E hr => ⟨_, _, (aj (ba (aO dh ir (bw e0_ hr (aa (ae 0 (pv 0)) (aa af ah))) af (aH _)) (ak (az (aM (aa af (aa af ah))))) aD)
  (ak (az (aM (aa (bw e7_ hr (aa (ae 0 (pv 0)) ah)) (aa (bw e7_ hr (aa (ae 0 (pv 0)) ah)) ah)))))), ?_⟩
 rintro a pn ds es R hl ⟨b, e, hpn, hb, q⟩
 obtain rfl : ds = [] := List.eq_nil_of_length_eq_zero hl
 obtain rfl : es = [] := e
 have w : ∀ {x : Int}, x.natAbs <= 10 ^ 60 -> Wd x := fun h => rC (Nat.le_trans h (Nat.pow_le_pow_right (by decide) (by decide)))
 walk_at "sl"
 walk_at "rd"
 refine ⟨b, 6, rfl, hpn, by lia, by lia, by lia, fun pn1 r1 h1 r1a r1b => ?_⟩
 walk_at "rd"
 refine bZ (fun c1 => ?_) (fun c1 => ?_)
 ·walk_at "rd"
  exact ⟨_, rfl, q 0 0 _ (w (Nat.zero_le _)) (w (Nat.zero_le _)) (h1.le (by lia))⟩
 ·walk_at "rd"
  refine ⟨b + 1, rfl, h1, by lia, fun x pn2 hx h2 => ?_⟩
  walk_at "rd"
  refine ⟨b + 1 + 3, rfl, h2, by lia, fun y pn3 hy h3 => ?_⟩
  walk_at "rd"
  exact ⟨_, rfl, q x y _ (w hx) (w hy) (h3.le (by lia))⟩
theorem BM (S : Src K mg "_law_growth" fh) (T : Txt mg) (e1_ : Has P w K mg base 1 "_law_steps" ["_law_kind"] (spP K lH)) : Has P w K mg base 2 "_law_growth" ["_law_told", "_law_way_here"] (spP K pLg) := by
 refine cW S iX (by walk_at "2") (fun ds R zq1 => by obtain ⟨_, _, _, _, _, e, _⟩ := zq1; rw [e]; rfl) fun f cdv A outer s H E hr => ⟨_, _, (aj (ba (aO (kZ (K := K) rfl hr.units) jY (aG rfl (ae 0 (pv 0)) af (fun _ _ => rfl)) (aM ah) (aH _)) (ak (az af)) aD)
  (aj (aC (i := 2) iX.nd rfl (Or.inl rfl) (aT (pZ rfl rfl (by rfl) T.sorted_ dM (aa (aT (cg (tg := ["_law_dx", "_law_dy"]) (cs := ["_law_way_here"]) (ix := [1]) (bg (ai fh) ["_law_told", "_law_way_here", "_law_falls"] (by decide +kernel)) rfl (fw (by decide) (by decide)) (by decide) (cQ rfl (bY e1_ hr (aa (aG rfl (ae 0 (pv 0)) af (fun _ _ => rfl)) ah))) (fun _ _ _ _ => (gE (n := 2) rfl rfl (bh (aF (aE (i := 0) (show (["_law_dx", "_law_dy", "_law_way_here"] : List Str).Nodup by decide +kernel) rfl (Or.inl rfl) (by first | exact Or.inl rfl | exact Or.inr rfl))) (bh (aF (aE (i := 1) (show (["_law_dx", "_law_dy", "_law_way_here"] : List Str).Nodup by decide +kernel) rfl (Or.inl rfl) (by first | exact Or.inl rfl | exact Or.inr rfl))) eK)))) (fun _ _ _ _ => fW) (fun _ _ _ _ => (aw aZ aK (aw ck br (aG rfl (ae 2 (pv 2)) af (fun _ _ => rfl)) (ae 0 (pv 0))) (aw ck br (aG rfl (ae 2 (pv 2)) af (fun _ _ => rfl)) (ae 1 (pv 1))))))) ah))))
  (ak (az (aU (iz rfl) zR (by rfl) T.max_ gL (aa af (aa (aw cL aK af (aG rfl (ae 2 (pv 2)) (aw cL aK (aG rfl (aG rfl (ae 0 (pv 0)) af (fun _ _ => rfl)) af (fun _ _ => rfl)) af) (fun _ _ => rfl))) ah))))))), ?_⟩
 rintro ds R ⟨k, bo, st, a, b, rfl, hk, hbo, ha, hb, q⟩
 walk_at "sl"
 unfold rl
 walk_at "rd"
 change gI false (eT bo) (eT []) _
 cases bo with
 | nil =>
  refine vp lg rfl ?_
  walk_at "rc"
  exact q
 | cons c0 r =>
  obtain ⟨c1, c2⟩ := hbo.1 c0 List.mem_cons_self
  have hkn := zc hk
  refine vq lg (by simp) ?_
  walk_at "rc"
  refine ⟨k, rfl, hk, ?_⟩
  walk_at "rc"
  refine comp_map (xs := sp k) (en := eT) (f := fun m => .int (hg a b m)) (by rw [(mX hk).length_eq]; have := et hk; lia) (fun m hm A B hA => ?_) ?_
  ·obtain ⟨x, y, rfl, hx, hy⟩ := ku hk ((mX hk).mem_iff.mp hm)
   dsimp only [bE, List.replicate, List.map_cons, List.map_nil, List.cons_append, List.nil_append]
   walk_at "rd"
   exact hA _ rfl
  rw [show (sp k).map (fun m => D.int (hg a b m)) = ((sp k).map (hg a b)).map D.int by rw [List.map_map]; rfl]
  walk_at "rc"
  refine p8 rfl (by rw [List.length_map, (mX hk).length_eq]; have := et hk; lia) fun ns' h1 h2 => ?_
  have e1 := rD (h1.trans ((mX hk).map _)) h2
  subst e1
  walk_at "rc"
  refine iL rfl rfl (show atI ((fl k a b).map D.int) (c0 - 1) = some (.int ((fl k a b).getD (c0.toNat - 1) 0)) from ?_) ?_
  ·rw [show c0 - 1 = ((c0.toNat - 1 : Nat) : Int) by lia]
   have hlt : c0.toNat - 1 < (fl k a b).length := by rw [zb]; lia
   rw [hW hlt, List.getD_eq_getElem?_getD, List.getElem?_eq_getElem hlt]
   rfl
  walk_at "rc"
  rw [Int.zero_sub]
  exact q
theorem rG {c_CellError c_Folded c_Loud c_NoLine c_NoName c_NoNumber c_NoRest c_NoRule c_NoSize c_NoText c_NoThing c_Outside c_TooWide : Addr} (S : Src K mg "_law_is_refused" dF) (T : Txt mg) (EX_grower : iu P w K mg base 7 "grower" ["rule", "way"] (uA c_Loud))
  (g_CellError : mg "CellError" = some (.ref c_CellError)) (g_ValueError : mg "ValueError" = none) (g_Folded : mg "Folded" = some (.ref c_Folded)) (g_Loud : mg "Loud" = some (.ref c_Loud)) (g_NoLine : mg "NoLine" = some (.ref c_NoLine)) (g_NoName : mg "NoName" = some (.ref c_NoName)) (g_NoNumber : mg "NoNumber" = some (.ref c_NoNumber))
  (g_NoRest : mg "NoRest" = some (.ref c_NoRest)) (g_NoRule : mg "NoRule" = some (.ref c_NoRule)) (g_NoSize : mg "NoSize" = some (.ref c_NoSize)) (g_NoText : mg "NoText" = some (.ref c_NoText)) (g_NoThing : mg "NoThing" = some (.ref c_NoThing)) (g_Outside : mg "Outside" = some (.ref c_Outside)) (g_TooWide : mg "TooWide" = some (.ref c_TooWide))
  (y1 : PySem.W.exmOne K (.ref c_Loud) (.ref c_CellError) = some true) (y2 : cX K c_Loud = true) (y3 : PySem.W.kitOne K (.ref c_Loud) (.ref c_Loud) = some true) (y4 : PySem.W.kitOne K (.ref c_Loud) (.type "ValueError") = some true)
  (y5 : PySem.W.kitAny K (.ref c_Loud) [.ref c_Folded, .ref c_NoLine, .ref c_NoName, .ref c_NoNumber, .ref c_NoRest, .ref c_NoRule, .ref c_NoSize, .ref c_NoText, .ref c_NoThing, .ref c_Outside] = some false) (y6 : PySem.W.kitOne K (.ref c_Loud) (.ref c_TooWide) = some false) : Has P w K mg base 8 "_law_is_refused" ["_law_told", "_law_way_here"] (spP K (pRf c_Loud)) := by
 refine cW S bB (by walk_at "2") (fun ds R zq1 => by obtain ⟨_, _, e, _⟩ := zq1; rw [e]; rfl) fun f cdv A outer s H E hr => ⟨_, _, (aj (aC (i := 2) bB.nd rfl (Or.inl rfl) (aM ah))
  (aj (yC (i := 3) EX_grower rfl hr (aa (ae 0 (pv 0)) (aa (ae 1 (pv 1)) ah)) g_CellError (fun y => (aj (aC (i := 4) bB.nd rfl (Or.inl rfl) (tS (i := 3) rfl (bI g_Folded (bI g_NoLine (bI g_NoName (bI g_NoNumber (bI g_NoRest (bI g_NoRule (bI g_NoSize (bI g_NoText (bI g_NoThing (bI g_Outside qe)))))))))) (by simp) rfl (Or.inl rfl) (by rfl) T.isinstance_))
  (ak (aC (i := 2) bB.nd rfl (Or.inl rfl) (aM (aa (js (i := 3) (c := .ref c_Loud) rfl rfl (fP (by rfl) g_Loud rfl) rfl (Or.inl rfl) (by rfl) T.isinstance_) (aa (js (i := 3) (c := .type "ValueError") rfl rfl (ez (by rfl) g_ValueError PyProof.Rows.Boot.«ValueError» rfl) rfl (Or.inl rfl) (by rfl) T.isinstance_) (aa (zN (ae 4 (pv 4)) (oR (js (i := 3) (c := .ref c_TooWide) rfl rfl (fP (by rfl) g_TooWide rfl) rfl (Or.inl rfl) (by rfl) T.isinstance_))) ah)))))))) (fun _ _ h => h) rfl rfl rfl bB.nd rfl rfl)
  (ak (az (fy (kZ (K := K) rfl hr.units) jY (ae 2 (pv 2)) (aM (aa cF (aa cF (aa cF ah)))) (aH _)))))), ?_⟩
 rintro ds R ⟨r, p1, rfl, h, q⟩
 walk_at "sl"
 walk_at "rd"
 unfold Bs
 walk_at "rd"
 refine ⟨Nat.le_of_ble_eq_true rfl, [r, p1], c_Loud, rfl, ⟨_, _, rfl, h⟩, y1, ?_⟩
 dsimp only [List.set]
 walk_at "rd"
 refine yD rfl y2 y5 ?_
 walk_at "rc"
 refine lA rfl y2 y3 ?_
 walk_at "rc"
 refine lA rfl y2 y4 ?_
 walk_at "rc"
 refine lA rfl y2 y6 ?_
 walk_at "rc"
 refine ⟨Nat.le_of_ble_eq_true rfl, ?_⟩
 dsimp only [List.set]
 walk_at "rd"
 refine vp ux (x := [true, true, false]) (y := [true, true, false]) rfl ?_
 walk_at "rc"
 exact q
end
end My
namespace My
open PySem L2 VL
def nearB (k dx dy : Int) : Bool := !(decide (1 < if dx < 0 then -dx else dx) || (decide (1 < if dy < 0 then -dy else dy) || decide (([dx, dy] : List Int) = [0, 0]))) && (decide (k = 8) || (decide (dx * dy = 0) || decide (k = 6) && decide (dx = dy)))
def near (k : Int) (c p : List Int) : Bool := match c, p with
 | [cx, cy], [px, py] => nearB k (px - cx) (py - cy)
 | _, _ => false
theorem kx {px py a b : Int} : ∀ {l : List (List Int)}, (∀ m ∈ l, Pr m) -> (l.map (ad [px, py])).count [px + a, py + b] = l.count [a, b]
 | [], _ => rfl
 | m :: l, h => by
  obtain ⟨x, y, rfl⟩ := h m List.mem_cons_self
  rw [List.map_cons, List.count_cons, List.count_cons, kx fun m hm => h m (List.mem_cons_of_mem _ hm)]
  congr 1
  have : (ad [px, py] [x, y] == [px + a, py + b]) = ([x, y] == [a, b]) := by
   rw [Bool.eq_iff_iff, beq_iff_eq, beq_iff_eq]
   simp only [ad, List.cons.injEq, and_true]
   constructor <;> (rintro ⟨h1, h2⟩; exact ⟨by lia, by lia⟩)
  rw [this]
theorem kB {k : Int} (hk : Kd k) (a b : Int) : (nr k).count [a, b] = if nearB k (-a) (-b) = true then 1 else 0 := by
 by_cases hs : -1 <= a /\ a <= 1 /\ -1 <= b /\ b <= 1
 ·obtain ⟨h1, h2, h3, h4⟩ := hs
  rcases (by lia : a = -1 \/ a = 0 \/ a = 1) with rfl | rfl | rfl <;> rcases (by lia : b = -1 \/ b = 0 \/ b = 1) with rfl | rfl | rfl <;> rcases hk with rfl | rfl | rfl <;> decide
 ·rw [List.count_eq_zero.mpr fun hm => by
   obtain ⟨x, y, e, h1, h2, h3, h4⟩ := dG hk hm
   cases e
   exact hs ⟨h1, h2, h3, h4⟩]
  have : nearB k (-a) (-b) = false := by
   unfold nearB
   have : (decide (1 < if -a < 0 then - -a else -a) || (decide (1 < if -b < 0 then - -b else -b) || decide (([-a, -b] : List Int) = [0, 0]))) = true := by
    simp only [Bool.or_eq_true, decide_eq_true_eq]
    by_cases h : -1 <= a /\ a <= 1
    ·exact .inr (.inl (by split <;> lia))
    ·exact .inl (by split <;> lia)
   rw [this]; rfl
  rw [this]; rfl
theorem fH {k : Int} (hk : Kd k) {cx cy : Int} : ∀ {xs : List (List Int)}, (∀ p ∈ xs, Pr p) -> (bes k xs).count [cx, cy] = (xs.filter (near k [cx, cy])).length
 | [], _ => rfl
 | p :: xs, h => by
  obtain ⟨px, py, rfl⟩ := h p List.mem_cons_self
  have ih := fH hk (cx := cx) (cy := cy) (xs := xs) fun p hp => h p (List.mem_cons_of_mem _ hp)
  have e := kx (px := px) (py := py) (a := cx - px) (b := cy - py) (l := nr k) fun m hm => hZ hk hm
  rw [show px + (cx - px) = cx by lia, show py + (cy - py) = cy by lia, kB hk, show -(cx - px) = px - cx by lia, show -(cy - py) = py - cy by lia] at e
  unfold bes at ih ⊢
  rw [List.flatMap_cons, List.count_append, ih, e, List.filter_cons]
  show (if nearB k (px - cx) (py - cy) = true then 1 else 0) + _ = List.length (if nearB k (px - cx) (py - cy) = true then _ else _)
  cases nearB k (px - cx) (py - cy) <;> simp <;> lia
theorem rH {k : Int} (hk : Kd k) {x y : Int} (h : [x, y] ∈ nr k) : [-x, -y] ∈ nr k := by
 have : (nr k).all (fun m => decide (m.map (fun z => -z) ∈ nr k)) = true := by rcases hk with rfl | rfl | rfl <;> decide
 exact of_decide_eq_true (List.all_eq_true.mp this _ h)
theorem kC {k : Int} (hk : Kd k) {dx dy : Int} : nearB k dx dy = true ↔ [dx, dy] ∈ nr k := by
 have h := kB hk (-dx) (-dy)
 rw [Int.neg_neg, Int.neg_neg] at h
 have h2 : nearB k dx dy = true ↔ [-dx, -dy] ∈ nr k := by
  rw [<- List.count_pos_iff, h]
  by_cases e : nearB k dx dy = true
  ·rw [if_pos e]; simp [e]
  ·rw [if_neg e]; simp [e]
 rw [h2]
 exact ⟨fun z => by have := rH hk z; rwa [Int.neg_neg, Int.neg_neg] at this, fun z => rH hk z⟩
theorem rJ {k : Int} (hk : Kd k) : (nr k).Nodup := by rcases hk with rfl | rfl | rfl <;> decide
theorem uD {k : Int} (hk : Kd k) : [0, 0] ∉ nr k := by rcases hk with rfl | rfl | rfl <;> decide
theorem BN {k a b : Int} {n : Nat} {i : Nat} (h : n <= i) (hi : i < (fl k a b).length) : (fl k a b).getD n 0 <= (fl k a b)[i] := by
 have hn : n < (fl k a b).length := by lia
 rw [List.getD_eq_getElem?_getD, List.getElem?_eq_getElem hn]
 show (fl k a b)[n] <= _
 by_cases e : n = i
 ·subst e; exact Int.le_refl _
 ·exact List.pairwise_iff_getElem.mp (iZ k a b) n i hn hi (by lia)
theorem uE {k a b : Int} {n : Nat} : ((nr k).filter fun o => decide (hg a b o < (fl k a b).getD n 0)).length <= n := by
 have e1 : ((nr k).filter fun o => decide (hg a b o < (fl k a b).getD n 0)).length = (((nr k).map (hg a b)).filter fun z => decide (z < (fl k a b).getD n 0)).length := by
  rw [List.filter_map, List.length_map]
  rfl
 rw [e1, <- ((jD k a b).filter _).length_eq]
 generalize hF : (fl k a b).getD n 0 = F
 have e2 : (fl k a b).filter (fun z => decide (z < F)) = ((fl k a b).take n).filter (fun z => decide (z < F)) := by
  conv => lhs; rw [<- List.take_append_drop n (fl k a b), List.filter_append]
  have : ((fl k a b).drop n).filter (fun z => decide (z < F)) = [] := by
   rw [List.filter_eq_nil_iff]
   intro z hz
   obtain ⟨j, hj, rfl⟩ := List.getElem_of_mem hz
   rw [List.length_drop] at hj
   rw [List.getElem_drop]
   have := BN (k := k) (a := a) (b := b) (n := n) (i := n + j) (by lia) (by lia)
   rw [hF] at this
   simpa using this
  rw [this, List.append_nil]
 rw [e2]
 exact Nat.le_trans (List.length_filter_le _ _) (by rw [List.length_take]; lia)
theorem rK {k a b : Int} {n : Nat} {xs : List (List Int)} (hk : Kd k) (nd : xs.Nodup) (hx : ∀ p ∈ xs, p ∈ nr k /\ hg a b p <= (fl k a b).getD n 0) {cx cy : Int} (hc : 0 < hg a b [cx, cy]) : (bes k xs).count [cx, cy] <= n := by
 have pr : ∀ p ∈ xs, Pr p := fun p hp => hZ hk (hx p hp).1
 rw [fH hk pr]
 refine Nat.le_trans ?_ (uE (k := k) (a := a) (b := b) (n := n))
 have key : ((xs.filter (near k [cx, cy])).map fun p => [p.getD 0 0 - cx, p.getD 1 0 - cy]).length <= ((nr k).filter fun o => decide (hg a b o < (fl k a b).getD n 0)).length := by
  refine jC ?_ fun o ho => ?_
  ·rw [List.Nodup, List.pairwise_map]
   refine List.Pairwise.imp_of_mem (fun {p q} hp hq h e => h ?_) (nd.filter _)
   obtain ⟨x, y, rfl⟩ := pr p (List.mem_filter.mp hp).1
   obtain ⟨x', y', rfl⟩ := pr q (List.mem_filter.mp hq).1
   have e : [x - cx, y - cy] = [x' - cx, y' - cy] := e
   simp only [List.cons.injEq, and_true] at e
   rw [show x = x' by lia, show y = y' by lia]
  ·obtain ⟨p, hp, rfl⟩ := List.mem_map.mp ho
   obtain ⟨h1, h2⟩ := List.mem_filter.mp hp
   obtain ⟨x, y, rfl⟩ := pr p h1
   have h2 : nearB k (x - cx) (y - cy) = true := h2
   have h3 := (kC hk).mp h2
   refine List.mem_filter.mpr ⟨h3, decide_eq_true ?_⟩
   have h4 := (hx _ h1).2
   have h4 : a * x + b * y <= _ := h4
   have hc : 0 < a * cx + b * cy := hc
   show a * (x - cx) + b * (y - cy) < _
   rw [Int.mul_sub, Int.mul_sub]
   lia
 rwa [List.length_map] at key
theorem lI {k : Int} {bo st : List Int} {xs : List (List Int)} {c : List Int} : c ∈ nx k bo st xs ↔ (c ∈ bes k xs \/ c ∈ xs) /\ liv k bo st xs c = true := by
 unfold nx
 rw [(dj _).mem_iff, List.mem_filter, dO, List.mem_append]
def Gw (k : Int) (bo : List Int) (a b : Int) (xs : List (List Int)) : Prop := ∃ (c : Int) (r : List Int) (out : List (List Int)), bo = c :: r /\ out.Perm (nr k) /\ out.Pairwise (fun x y => hg a b x <= hg a b y) /\ xs = srt (out.take c.toNat)
theorem zd {p q : List Int} (h : lexLe p q = true) (hn : p ≠ q) : HT.lexLt p q = true := by
 cases e : HT.lexLt p q with
 | true => rfl
 | false => exact absurd (gz _ _ h (by unfold lexLe; rw [e]; rfl)) hn
theorem rM {k : Int} {bo st : List Int} {a b : Int} {xs : List (List Int)} (hk : Kd k) (hbo : Bo k bo) (hw : Gw k bo a b xs) (hg0 : grw k bo a b ≠ 0) :
  xs ≠ [] /\ xs.length <= 8 /\ (∀ p ∈ xs, p ∈ nr k) /\ xs.Pairwise (fun p q => HT.lexLt p q = true) /\
  (∃ p ∈ xs, hg a b p = -(grw k bo a b)) /\ (∀ p ∈ xs, hg a b p <= -(grw k bo a b)) /\ [0, 0] ∈ nx k bo st xs /\ ∀ c ∈ nx k bo st xs, hg a b c <= 0 := by
 obtain ⟨c0, r, out, rfl, h1, h2, rfl⟩ := hw
 obtain ⟨c1, c2⟩ := hbo.1 c0 List.mem_cons_self
 have hkn := zc hk
 have hlen : out.length = (nr k).length := h1.length_eq
 have pw : (out.map (hg a b)).Pairwise (· <= ·) := by rw [List.pairwise_map]; exact h2
 have efl := rD (h1.map _) pw
 have ndo : out.Nodup := h1.nodup_iff.mpr (rJ hk)
 have hi : c0.toNat - 1 < out.length := by lia
 have eF : (fl k a b).getD (c0.toNat - 1) 0 = hg a b out[c0.toNat - 1] := by
  rw [<- efl, List.getD_eq_getElem?_getD, List.getElem?_map, List.getElem?_eq_getElem hi]
  rfl
 have eg : grw k (c0 :: r) a b = -((fl k a b).getD (c0.toNat - 1) 0) /\ (fl k a b).getD (c0.toNat - 1) 0 < 0 := by
  unfold grw at hg0 ⊢
  dsimp only at hg0 ⊢
  by_cases h : 0 < -((fl k a b).getD (c0.toNat - 1) 0)
  ·rw [if_pos h]; exact ⟨rfl, by lia⟩
  ·rw [if_neg h] at hg0; exact absurd rfl hg0
 have p := dj (out.take c0.toNat)
 have low : ∀ q ∈ srt (out.take c0.toNat), q ∈ nr k /\ hg a b q <= (fl k a b).getD (c0.toNat - 1) 0 := fun q hq => by
  have hq := p.mem_iff.mp hq
  refine ⟨h1.mem_iff.mp (List.mem_of_mem_take hq), ?_⟩
  rw [eF]
  obtain ⟨j, hj, rfl⟩ := List.getElem_of_mem hq
  rw [List.length_take] at hj
  rw [List.getElem_take]
  by_cases e : j = c0.toNat - 1
  ·subst e; exact Int.le_refl _
  ·exact List.pairwise_iff_getElem.mp h2 j (c0.toNat - 1) (by lia) hi (by lia)
 have nds : (srt (out.take c0.toNat)).Nodup := p.nodup_iff.mpr (ndo.sublist (List.take_sublist _ _))
 have lns : (srt (out.take c0.toNat)).length = c0.toNat := by rw [p.length_eq, List.length_take]; lia
 have hz : [0, 0] ∉ srt (out.take c0.toNat) := fun z => uD hk (low _ z).1
 have pr : ∀ q ∈ srt (out.take c0.toNat), Pr q := fun q hq => hZ hk (low q hq).1
 have cz : (bes k (srt (out.take c0.toNat))).count [0, 0] = c0.toNat := by
  rw [fH hk pr, List.filter_eq_self.mpr fun q hq => ?_, lns]
  obtain ⟨x, y, rfl⟩ := pr q hq
  show nearB k (x - 0) (y - 0) = true
  rw [kC hk, Int.sub_zero, Int.sub_zero]
  exact (low _ hq).1
 rw [eg.1, Int.neg_neg]
 refine ⟨fun z => ?_, ?_, fun q hq => (low q hq).1, ?_, ?_, fun q hq => (low q hq).2, ?_, fun c hc => ?_⟩
 ·rw [z] at lns; simp only [List.length_nil] at lns; lia
 ·have := et hk; lia
 ·exact List.Pairwise.imp₂ (fun x y h1 h2 => zd h1 h2) (d7 _) nds
 ·exact ⟨out[c0.toNat - 1], p.mem_iff.mpr (by
   rw [List.mem_take_iff_getElem]
   exact ⟨c0.toNat - 1, by lia, rfl⟩), eF.symm⟩
 ·refine lI.mpr ⟨.inl (List.count_pos_iff.mp (by rw [cz]; lia)), ?_⟩
  unfold liv
  rw [decide_eq_false hz, cz, if_neg Bool.false_ne_true, Int.toNat_of_nonneg (by lia)]
  exact decide_eq_true List.mem_cons_self
 ·obtain ⟨h3, h4⟩ := lI.mp hc
  by_cases hin : c ∈ srt (out.take c0.toNat)
  ·have := (low c hin).2; lia
  ·unfold liv at h4
   rw [decide_eq_false hin, if_neg Bool.false_ne_true] at h4
   have h5 := of_decide_eq_true h4
   have h6 := hbo.2.2 _ h5
   have h6 : c0 <= _ := h6
   refine Classical.byContradiction fun hpos => ?_
   obtain ⟨cx, cy, rfl⟩ : Pr c := by
    rcases h3 with h | h
    ·exact rh hk pr c h
    ·exact absurd h hin
   have := rK (n := c0.toNat - 1) hk nds low (cx := cx) (cy := cy) (by lia)
   lia
def pGw : List D -> (D -> Prop) -> Prop := fun ds R => ∃ k bo st a b, ds = [rl k bo st, eT [a, b]] /\ Kd k /\ Bo k bo /\ Wd a /\ Wd b /\ (grw k bo a b = 0 -> R .non) /\ ∀ xs, grw k bo a b ≠ 0 -> Gw k bo a b xs -> R (eL xs)
section
variable {P : Program} {w : World} {K : PySem.W.Frag} {mg : Str -> Option Value} {base : Heap} {Pt : Addr}
theorem BO (S : Src K mg "grower" e7) (T : Txt mg) (e10_ : Has P w K mg base 6 "growth" ["rule", "way"] (spT K Pt qn vW)) (e2_ : Has P w K mg base 5 "lowest_parents" ["rule", "way"] (spT K Pt qn pLp)) : Has P w K mg base 7 "grower" ["rule", "way"] (spT K Pt qn pGw) := by
 refine jw S kj (by walk_at "2") (fun ds R zq1 => by obtain ⟨_, _, _, _, _, e, _⟩ := zq1; rw [e]; rfl) fun f fd A outer s H E hr hT hmf hlk => ⟨_, _, (aj (ba (aO dh ir (gb hT e10_ hr (aa (ae 0 (pv 0)) (aa (ae 1 (pv 1)) ah))) af (aH _)) (ak (az kR)) aD)
  (ak (az (aT (kh rfl rfl (by rfl) T.sorted_ dM (aa (gb hT e2_ hr (aa (ae 0 (pv 0)) (aa (ae 1 (pv 1)) ah))) ah)))))), ?_⟩
 rintro ds R ⟨k, bo, st, a, b, rfl, hk, hbo, ha, hb, q0, q1⟩
 walk_at "sl"
 walk_at "rd"
 refine ⟨k, bo, st, a, b, rfl, hk, hbo, ha, hb, ?_⟩
 walk_at "rd"
 by_cases hg0 : grw k bo a b = 0
 ·rw [decide_eq_true hg0]
  walk_at "rc"
  exact q0 hg0
 ·rw [decide_eq_false hg0]
  walk_at "rc"
  refine ⟨k, bo, st, a, b, rfl, hk, hbo, ha, hb, fun e => ?_, fun c r e out h1 h2 => ?_⟩
  ·subst e; exact absurd rfl hg0
  ·walk_at "rc"
   refine ki rfl (fun ms hms => by obtain ⟨x, y, rfl⟩ := hZ hk (h1.mem_iff.mp (List.mem_of_mem_take hms)); simp) ?_
   walk_at "rc"
   exact q1 _ hg0 ⟨c, r, out, e, h1, h2, rfl⟩
theorem ze {c_Loud : Addr} (S : Src K mg "grower" e7) (T : Txt mg) (EX_growth : iu P w K mg base 6 "growth" ["rule", "way"] (uA c_Loud)) : iu P w K mg base 7 "grower" ["rule", "way"] (uA c_Loud) := by
 refine qh S kj (by walk_at "2") (fun ds C h => by obtain ⟨_, _, e, _⟩ := h; rw [e]; rfl) fun f cdv A outer s H E hr TH => ⟨_, _, (yY (m := false) dh (qJ TH.next EX_growth rfl hr (aa (ae 0 (pv 0)) (aa (ae 1 (pv 1)) ah))) af (aH _)), ?_⟩
 rintro ds C ⟨r, p1, rfl, h⟩
 walk_at "sl"
 walk_at "rd"
 exact ⟨_, C, rfl, ⟨r, p1, rfl, h⟩, rfl⟩
end
end My
namespace My
open PySem L2 VL
def pIp : List D -> (D -> Prop) -> Prop := fun ds R => ∃ xs, ds = [eL xs] /\ xs ≠ [] /\ xs.length <= 1000 /\ (∀ p ∈ xs, Pr p) /\ xs.Pairwise (fun p q => HT.lexLt p q = true) /\ R (.bl true)
def pIg : List D -> (D -> Prop) -> Prop := fun ds R => ∃ k bo st a b d, ds = [rl k bo st, eT [a, b], d] /\ Kd k /\ Bo k bo /\ Wd a /\ Wd b /\ ((grw k bo a b = 0 /\ d = .non) \/ (grw k bo a b ≠ 0 /\ ∃ xs, Gw k bo a b xs /\ d = eL xs)) /\ R (.bl true)
theorem uF {i : Nat} (h : (enD ds)[i]? = some d) : ∃ x, ds[i]? = some x /\ d = .tup [.int i, x] := by
 have hi : i < ds.length := by have := (List.getElem?_eq_some_iff.mp h).1; rwa [mQ] at this
 refine ⟨ds[i], List.getElem?_eq_getElem hi, ?_⟩
 rw [qD (List.getElem?_eq_getElem hi)] at h
 exact (Option.some.inj h).symm
section
variable {P : Program} {w : World} {K : PySem.W.Frag} {mg : Str -> Option Value} {base : Heap} {Pt : Addr}
theorem BP (S : Src K mg "_law_is_picture" cm) (T : Txt mg) : Has P w K mg base 1 "_law_is_picture" ["_law_found"] (spP K pIp) := by
 refine cW S cV (by walk_at "1") (fun ds R zq1 => by obtain ⟨_, e, _⟩ := zq1; rw [e]; rfl) fun f cdv A outer s H E hr => ⟨_, _, (aj (ba (jS (mh (bV (cu (aU (mw (K := K) rfl) ml (by rfl) T.isinstance_ aY (aa (ae 0 (pv 0)) (aa (me (ez (v := .ty "list") (by rfl) T.list_ lX rfl) (fun _ _ => .ty _)) ah))))) (jh (aO (kZ (K := K) rfl hr.units) jY (ae 0 (pv 0)) (aT (cA ah)) (aH _))))) (ak (az cF)) aD)
  (aj (d9 PassesOwn.never rfl (ud rfl (by rfl) T.enumerate_ (aa (ae 0 (pv 0)) ah)) (gE (n := 2) rfl rfl (bh (aF (aE (i := 1) cV.nd rfl (Or.inl rfl) (Or.inl rfl))) (bh (aF (aE (i := 2) cV.nd rfl (Or.inl rfl) (Or.inl rfl))) eK))) (aj (ba (jS (mh (bV (cu (aU (mw (K := K) rfl) ml (by rfl) T.isinstance_ aY (aa (ae 2 (pv 2)) (aa (me (ez (v := .ty "tuple") (by rfl) T.tuple_ jJ rfl) (fun _ _ => .ty _)) ah))))) (jh (aO zx B0 (aU (mr (K := K) rfl) mj (by rfl) T.len_ je (aa (ae 2 (pv 2)) ah)) af (aH _))))) (ak (az cF)) aD)
  (aj (ba (aO (pA (K := K) rfl hr.units) jY (aT (cg (tg := ["_law_n"]) (cs := []) (ix := []) (bg (ai cm) ["_law_found", "_law_at", "_law_cell"] (by decide +kernel)) rfl (bU (by decide)) (by decide) (xD rfl (ae 2 (pv 2))) (fun _ _ _ _ => (aF (aE (i := 0) (show (["_law_n"] : List Str).Nodup by decide +kernel) rfl (Or.inl rfl) (by first | exact Or.inl rfl | exact Or.inr rfl)))) (fun _ _ _ _ => (fX (jS (mh (bV (cu (aU (mw (K := K) rfl) ml (by rfl) T.isinstance_ aY (aa (ae 0 (pv 0)) (aa (me (ez (v := .ty "int") (by rfl) T.int_ oF rfl) (fun _ _ => .ty _)) ah))))) (jh (cu (aU (mw (K := K) rfl) ml (by rfl) T.isinstance_ aY (aa (ae 0 (pv 0)) (aa (me (ez (v := .ty "bool") (by rfl) T.bool_ sj rfl) (fun _ _ => .ty _)) ah))))))))) (fun _ _ _ _ => (bu (ae 0 (pv 0)))))) (aT (cA ah)) (aH _)) (ak (az cF)) aD)
  (ak (ba (jS (xh (aO lS aK (ae 1 (pv 1)) af (aH _)) (sJ (bV (aO (wO hr.units0) A1 (aG rfl (ae 0 (pv 0)) (aw cL aK (ae 1 (pv 1)) af) (fun _ _ => rfl)) (ae 2 (pv 2)) (aH _)))))) (ak (az cF)) aD)))))
  (ak (az cF)))), ?_⟩
 rintro ds R ⟨xs, rfl, h0, hl, hp, ha, q⟩
 walk_at "sl"
 walk_at "rc"
 change gI false (eL xs) (eL []) _
 refine vq pB h0 ?_
 walk_at "rc"
 refine jl (fun i S => ∃ v1 v2, S = [.val (eL xs), v1, v2]) ⟨_, _, rfl⟩ ?_ ?_
 ·rintro i d S2 e ⟨v1, v2, rfl⟩
  obtain ⟨d2, h1, rfl⟩ := uF e
  rw [List.getElem?_map] at h1
  obtain ⟨c, hc, rfl⟩ := Option.map_eq_some_iff.mp h1
  have hi : i < xs.length := (List.getElem?_eq_some_iff.mp hc).1
  have ec : xs[i] = c := (List.getElem?_eq_some_iff.mp hc).2
  obtain ⟨x, y, rfl⟩ := hp c (List.mem_of_getElem? hc)
  walk_at "rc"
  refine dr (xs := [x, y]) (en := D.int) (f := D.int) (p := fun _ => false) (by simp) (fun n hn A B hA hB => ?_) ?_
  ·dsimp only [bE, List.replicate, List.map_cons, List.map_nil, List.cons_append, List.nil_append]
   walk_at "rc"
   exact hB _ rfl rfl
  walk_at "rd"
  change gI true (eL []) (eL []) _
  refine Bb pB (x := []) (y := []) rfl ?_
  walk_at "rc"
  by_cases hi0 : i = 0
  ·rw [show decide ((0 : Int) < (i : Int)) = false from decide_eq_false (by lia)]
   walk_at "rc"
   exact ⟨_, _, rfl⟩
  ·rw [show decide ((0 : Int) < (i : Int)) = true from decide_eq_true (by lia)]
   walk_at "rc"
   have hj : i - 1 < xs.length := by lia
   have hlt : HT.lexLt xs[i - 1] xs[i] = true := List.pairwise_iff_getElem.mp ha (i - 1) i hj hi (by lia)
   refine iL rfl rfl (show atI (xs.map eT) ((i : Int) - 1) = some (eT xs[i - 1]) from ?_) ?_
   ·rw [show (i : Int) - 1 = ((i - 1 : Nat) : Int) by lia]
    exact ja (by rw [List.getElem?_map, List.getElem?_eq_getElem hj]; rfl)
   walk_at "rd"
   rw [ec] at hlt
   rw [hlt]
   walk_at "rc"
   exact ⟨_, _, rfl⟩
 ·rintro S2 ⟨v1, v2, rfl⟩
  walk_at "rd"
  exact q
theorem BQ (S : Src K mg "_law_is_grower" b9) (T : Txt mg) (e13_ : Has P w K mg base 2 "_law_growth" ["_law_told", "_law_way_here"] (spP K pLg)) (e11_ : Has P w K mg base 1 "_law_is_picture" ["_law_found"] (spP K pIp)) (e16_ : Has P w K mg base 2 "_law_next" ["_law_told", "_law_live"] (spP K rn)) : Has P w K mg base 3 "_law_is_grower" ["_law_told", "_law_way_here", "_law_found"] (spP K pIg) := by
 refine cW S cq (fun _ _ _ _ _ _ us hl => match us, hl with | [_, _, _], _ => rfl) (fun ds R zq1 => by obtain ⟨_, _, _, _, _, _, e, _⟩ := zq1; rw [e]; rfl) fun f cdv A outer s H E hr => ⟨_, _, (aj (aC (i := 3) cq.nd rfl (Or.inl rfl) (bY e13_ hr (aa (ae 0 (pv 0)) (aa (ae 1 (pv 1)) ah))))
  (aj (ba (aO dh ir (ae 3 (pv 3)) af (aH _)) (ak (az (fy wK zJ (ae 2 (pv 2)) kR (aH _)))) aD)
  (aj (ba (bV (cu (bY e11_ hr (aa (ae 2 (pv 2)) ah)))) (ak (az cF)) aD)
  (aj (aC (i := 4) cq.nd rfl (Or.inl rfl) (aU (li (K := K) rfl rfl) lj (by rfl) T.max_ gL (aa (aT (cg (tg := ["_law_x", "_law_y"]) (cs := ["_law_way_here"]) (ix := [1]) (bg (ai b9) ["_law_told", "_law_way_here", "_law_found", "_law_rise", "_law_ahead", "_law_behind"] (by decide +kernel)) rfl (fw (by decide) (by decide)) (by decide) (cQ rfl (ae 2 (pv 2))) (fun _ _ _ _ => (gE (n := 2) rfl rfl (bh (aF (aE (i := 0) (show (["_law_x", "_law_y", "_law_way_here"] : List Str).Nodup by decide +kernel) rfl (Or.inl rfl) (by first | exact Or.inl rfl | exact Or.inr rfl))) (bh (aF (aE (i := 1) (show (["_law_x", "_law_y", "_law_way_here"] : List Str).Nodup by decide +kernel) rfl (Or.inl rfl) (by first | exact Or.inl rfl | exact Or.inr rfl))) eK)))) (fun _ _ _ _ => fW) (fun _ _ _ _ => (aw aZ aK (aw ck br (aG rfl (ae 2 (pv 2)) af (fun _ _ => rfl)) (ae 0 (pv 0))) (aw ck br (aG rfl (ae 2 (pv 2)) af (fun _ _ => rfl)) (ae 1 (pv 1))))))) ah)))
  (aj (pz (ii := 5) (tg := ["_law_x", "_law_y"]) (cs := ["_law_way_here"]) (ix := [1]) cq.nd rfl (Or.inl rfl) (Or.inl rfl) (bg (ai b9) ["_law_told", "_law_way_here", "_law_found", "_law_rise", "_law_ahead", "_law_behind"] (by decide +kernel)) rfl (fw (by decide) (by decide)) (by decide) (cQ rfl (bY e16_ hr (aa (ae 0 (pv 0)) (aa (ae 2 (pv 2)) ah)))) (fun _ _ _ _ => (gE (n := 2) rfl rfl (bh (aF (aE (i := 0) (show (["_law_x", "_law_y", "_law_way_here"] : List Str).Nodup by decide +kernel) rfl (Or.inl rfl) (by first | exact Or.inl rfl | exact Or.inr rfl))) (bh (aF (aE (i := 1) (show (["_law_x", "_law_y", "_law_way_here"] : List Str).Nodup by decide +kernel) rfl (Or.inl rfl) (by first | exact Or.inl rfl | exact Or.inr rfl))) eK)))) (fun _ _ _ _ => fW) (fun _ _ _ _ => (aw aZ aK (aw ck br (aG rfl (ae 2 (pv 2)) af (fun _ _ => rfl)) (ae 0 (pv 0))) (aw ck br (aG rfl (ae 2 (pv 2)) af (fun _ _ => rfl)) (ae 1 (pv 1))))))
  (ak (az (xi (fy (pA (K := K) rfl hr.units) jY (ae 5 (pv 5)) (aT (cA ah)) (aH _)) (oR (fy dh ir (aU (li (K := K) rfl rfl) lj (by rfl) T.max_ gL (aa (ae 5 (pv 5)) ah)) (aw aZ aK (ae 4 (pv 4)) (ae 3 (pv 3))) (aH _))))))))))), ?_⟩
 rintro ds R ⟨k, bo, st, a, b, d, rfl, hk, hbo, ha, hb, hd, q⟩
 walk_at "sl"
 walk_at "rd"
 refine ⟨k, bo, st, a, b, rfl, hk, hbo, ha, hb, ?_⟩
 walk_at "rd"
 rcases hd with ⟨h0, rfl⟩ | ⟨h0, xs, hw, rfl⟩
 ·rw [decide_eq_true h0]
  walk_at "rc"
  exact q
 rw [decide_eq_false h0]
 walk_at "rc"
 obtain ⟨x0, xl, xn, xa, ⟨p1, hp1, ep1⟩, xm, nz, nm⟩ := rM (st := st) hk hbo hw h0
 have pr : ∀ p ∈ xs, Pr p := fun p hp => hZ hk (xn p hp)
 refine ⟨xs, rfl, x0, by lia, pr, xa, ?_⟩
 walk_at "rc"
 refine comp_map (xs := xs) (en := eT) (f := fun m => .int (hg a b m)) (by lia) (fun m hm A B hA => ?_) ?_
 ·obtain ⟨x, y, rfl, hx, hy⟩ := ku hk (xn m hm)
  dsimp only [bE, List.replicate, List.map_cons, List.map_nil, List.cons_append, List.nil_append]
  walk_at "rd"
  exact hA _ rfl
 rw [show xs.map (fun m => D.int (hg a b m)) = (xs.map (hg a b)).map D.int by rw [List.map_map]; rfl]
 walk_at "rc"
 refine lr (by simpa using x0) fun M h1 h2 => ?_
 obtain rfl : M = -(grw k bo a b) := by
  obtain ⟨p2, hp2, rfl⟩ := List.mem_map.mp h1
  exact Int.le_antisymm (xm p2 hp2) (by rw [<- ep1]; exact h2 _ (List.mem_map.mpr ⟨p1, hp1, rfl⟩))
 walk_at "rc"
 refine ⟨k, bo, st, xs, rfl, hk, pr, by lia, ?_⟩
 walk_at "rc"
 have ws : ∀ m ∈ nx k bo st xs, Wc m := fun m hm => by
  rcases (lI.mp hm).1 with h | h
  ·unfold bes at h
   obtain ⟨p, hp, h⟩ := List.mem_flatMap.mp h
   obtain ⟨o, ho, rfl⟩ := List.mem_map.mp h
   obtain ⟨x, y, rfl, x1, x2, y1, y2⟩ := dG hk (xn p hp)
   obtain ⟨dx, dy, rfl, d1, d2, d3, d4⟩ := dG hk ho
   refine ⟨x + dx, y + dy, rfl, rC ?_, rC ?_⟩
   ·exact Nat.le_trans (show (x + dx).natAbs <= 2 by lia) (by decide)
   ·exact Nat.le_trans (show (y + dy).natAbs <= 2 by lia) (by decide)
  ·exact ku hk (xn m h)
 have nl : (nx k bo st xs).length <= 1000 := by
  have hb' := mU k xs
  have hn8 := et hk
  have hm8 : xs.length * (nr k).length <= 8 * 8 := Nat.mul_le_mul xl hn8
  unfold nx
  rw [(dj _).length_eq]
  refine Nat.le_trans (List.length_filter_le _ _) ?_
  refine Nat.le_trans (jC (dP _) fun c hc => (dO _).mp hc) ?_
  rw [List.length_append]
  lia
 refine comp_map (xs := nx k bo st xs) (en := eT) (f := fun m => .int (hg a b m)) (by lia) (fun m hm A B hA => ?_) ?_
 ·obtain ⟨x, y, rfl, hx, hy⟩ := ws m hm
  dsimp only [bE, List.replicate, List.map_cons, List.map_nil, List.cons_append, List.nil_append]
  walk_at "rd"
  exact hA _ rfl
 rw [show (nx k bo st xs).map (fun m => D.int (hg a b m)) = ((nx k bo st xs).map (hg a b)).map D.int by rw [List.map_map]; rfl]
 walk_at "rd"
 have hne : (nx k bo st xs).map (hg a b) ≠ [] := by
  intro z
  rw [List.map_eq_nil_iff] at z
  rw [z] at nz
  cases nz
 change gI true ((fun l : List Int => D.lst (l.map .int)) ((nx k bo st xs).map (hg a b))) ((fun l : List Int => D.lst (l.map .int)) []) _
 refine Ba (f := fun l : List Int => D.lst (l.map .int)) (x := (nx k bo st xs).map (hg a b)) (y := []) eP.lst hne ?_
 walk_at "rc"
 refine lr hne fun M h3 h4 => ?_
 obtain rfl : M = 0 := by
  obtain ⟨p2, hp2, rfl⟩ := List.mem_map.mp h3
  refine Int.le_antisymm (nm p2 hp2) ?_
  have := h4 _ (List.mem_map.mpr ⟨_, nz, rfl⟩)
  rwa [show hg a b [0, 0] = 0 by show a * 0 + b * 0 = 0; lia] at this
 walk_at "rc"
 rw [decide_eq_true (show (0 : Int) = -(grw k bo a b) + grw k bo a b by lia)]
 exact q
theorem zf {c_Loud : Addr} (S : Src K mg "law" y8) (T : Txt mg) (e18_ : Has P w K mg base 1 "_law_pen" ["_law_script", "_law_k"] (spP K BB)) (e17_ : Has P w K mg base 2 "_law_rule" ["_law_pen_here"] (spI K 0 pRu)) (e9_ : Has P w K mg base 3 "_law_way" ["_law_pen_here"] (spI K 0 pWy)) (e5_ : Has P w K mg base 7 "grower" ["rule", "way"] (spT K Pt qn pGw)) (e8_ : Has P w K mg base 3 "_law_is_grower" ["_law_told", "_law_way_here", "_law_found"] (spP K pIg)) (e6_ : Has P w K mg base 8 "_law_is_refused" ["_law_told", "_law_way_here"] (spP K (pRf c_Loud))) : Has P w K mg base 9 "law" ["_law_script"] (spT K Pt qn uo) := by
 refine jw S dX (by walk_at "1") (fun ds R zq1 => by obtain ⟨_, e, _⟩ := zq1; rw [e]; rfl) fun f fd A outer s H E hr hT hmf hlk => ⟨_, _, (aj (d9 PassesOwn.never rfl (dJ rfl T.range (aa af ah)) (aF (aE (i := 1) dX.nd rfl (Or.inl rfl) (Or.inl rfl))) (aj (sM (fun _ h => df (i := 2) dX.nd rfl (Or.inl rfl) h) (zU e18_ hr (aa (ae 0 (pv 0)) (aa (ae 1 (pv 1)) ah))))
  (aj (aC (i := 3) dX.nd rfl (Or.inl rfl) (bw e17_ hr (aa (ae 2 (pv 2)) ah)))
  (ak (d9 PassesOwn.never rfl (dJ rfl T.range (aa af ah)) (aF (aE (i := 4) dX.nd rfl (Or.inl rfl) (Or.inl rfl))) (aj (aC (i := 5) dX.nd rfl (Or.inl rfl) (bw e9_ hr (aa (ae 2 (pv 2)) ah)))
  (aj (d9 PassesOwn.never rfl (dJ rfl T.range (aa af ah)) (aF (aE (i := 6) dX.nd rfl (Or.inl rfl) (Or.inl rfl))) (aj (yT (aC (i := 7) dX.nd rfl (Or.inl rfl) (gb hT e5_ hr (aa (ae 3 (pv 3)) (aa (ae 5 (pv 5)) ah)))) (fV (fun _ h => df (i := 7) dX.nd rfl (Or.inl rfl) h) (um hT e5_ hr (aa (ae 3 (pv 3)) (aa (ae 5 (pv 5)) ah)))))
  (aj (ba (bV (cu (bY e8_ hr (aa (ae 3 (pv 3)) (aa (ae 5 (pv 5)) (aa (ae 7 (pv 7)) ah)))))) (ak (az cF)) aD)
  (ak (ba (aO rT xg (ae 7 (pv 7)) kR (aH _)) (ak (mn (xB 7 rfl (pv 7) (aM (aa af (aa af ah)))))) aD)))))
  (aj (aC (i := 8) dX.nd rfl (Or.inl rfl) (aM (aa (aG rfl (ae 3 (pv 3)) af (fun _ _ => rfl)) (aa (uh rfl (aM (aa af ah)) (aG rfl (ae 3 (pv 3)) af (fun _ _ => rfl))) (aa (aG rfl (ae 3 (pv 3)) af (fun _ _ => rfl)) ah)))))
  (ak (ba (jS (mh (bV (cu (bY e6_ hr (aa (ae 8 (pv 8)) (aa (ae 5 (pv 5)) ah))))) (jh (bV (cu (bY e6_ hr (aa (ae 8 (pv 8)) (aa (aM (aa af (aa af ah))) ah)))))))) (ak (az cF)) aD))))))))))
  (ak (az cF))), ?_⟩
 rintro ds R ⟨ns, rfl, hn, q⟩
 walk_at "sl"
 walk_at "rd"
 refine jm (fun i S => ∃ v1 v2 v3 v4 v5 v6 v7 v8, S = [.val (.lst (ns.map .int)), v1, v2, v3, v4, v5, v6, v7, v8]) ⟨_, _, _, _, _, _, _, _, rfl⟩ ?_ ?_
 ·rintro i S2 hi ⟨v1, v2, v3, v4, v5, v6, v7, v8, rfl⟩
  have hi' : i < 4 := hi
  walk_at "rd"
  rw [Int.zero_add]
  refine ⟨ns, i, rfl, by lia, fun x y => ⟨_, rfl, rfl, ?_⟩⟩
  refine mx (ns := [x, y, 0]) rfl ?_
  walk_at "rd"
  refine ⟨0, rfl, ⟨x, y, 0, rfl, by lia, by lia⟩, by lia, fun k bo sy pn1 hk hbo hsy h1 => ?_⟩
  walk_at "rd"
  refine jm (fun j S => ∃ pn w4 w5 w6 w7 w8, S = [.val (.lst (ns.map .int)), .val (.int i), .pen none pn, .val (rl k bo sy), w4, w5, w6, w7, w8] /\ Pn (0 + 30 + 7 * j) pn) ⟨pn1, _, _, _, _, _, rfl, h1⟩ ?_ ?_
  ·rintro j S3 hj ⟨pn, w4, w5, w6, w7, w8, rfl, g1⟩
   have hj' : j < 3 := hj
   walk_at "rd"
   refine ⟨_, rfl, g1, by lia, fun a b pn3 ha hb g3 => ?_⟩
   walk_at "rd"
   refine jm (fun j2 S => ∃ u4 u6 u7 u8, S = [.val (.lst (ns.map .int)), .val (.int i), .pen none pn3, .val (rl k bo sy), u4, .val (eT [a, b]), u6, u7, u8]) ⟨_, _, _, _, rfl⟩ ?_ ?_
   ·rintro j2 S4 hj2 ⟨u4, u6, u7, u8, rfl⟩
    walk_at "rd"
    by_cases h0 : grw k bo a b = 0
    ·refine .inl ?_
     walk_at "rd"
     refine ⟨k, bo, sy, a, b, rfl, hk, hbo, ha, hb, fun _ => ?_, fun xs h => absurd h0 h⟩
     walk_at "rd"
     refine ⟨k, bo, sy, a, b, _, rfl, hk, hbo, ha, hb, .inl ⟨h0, rfl⟩, ?_⟩
     walk_at "rc"
     exact ⟨_, _, _, _, rfl⟩
    ·refine .inr ?_
     walk_at "rd"
     refine ⟨k, bo, sy, a, b, rfl, hk, hbo, ha, hb, fun h => absurd h h0, fun xs _ hw => ⟨_, rfl, dq _, ?_⟩⟩
     walk_at "rd"
     refine ⟨k, bo, sy, a, b, _, rfl, hk, hbo, ha, hb, .inr ⟨h0, xs, hw, rfl⟩, ?_⟩
     walk_at "rc"
     have xl := (rM (st := sy) hk hbo hw h0).2.1
     refine pO rfl (by rw [List.length_map]; lia) ?_
     walk_at "rc"
     exact ⟨_, _, _, _, rfl⟩
   ·rintro S4 ⟨u4, u6, u7, u8, rfl⟩
    unfold rl
    walk_at "rd"
    refine qI (by simp) (by rw [List.length_map]; show 1 + _ <= _; have := hbo.2.1; lia) ?_
    walk_at "rd"
    refine ⟨_, _, rfl, ⟨rfl, k, 0 :: bo, sy, rfl, List.mem_cons_self⟩, ?_⟩
    walk_at "rc"
    refine ⟨_, _, rfl, ⟨rfl, k, 0 :: bo, sy, rfl, List.mem_cons_self⟩, ?_⟩
    walk_at "rc"
    exact ⟨_, _, _, _, _, _, rfl, g3.le (by lia)⟩
  ·rintro S3 ⟨pn, w4, w5, w6, w7, w8, rfl, g1⟩
   walk_at "rd"
   exact ⟨_, _, _, _, _, _, _, _, rfl⟩
 ·rintro S2 ⟨v1, v2, v3, v4, v5, v6, v7, v8, rfl⟩
  walk_at "rd"
  exact q
end
end My
namespace My
open PySem L2 VL
theorem zg {l : PySem.W.OpenLaw} {w : World} {h : Heap} {mg : Str -> Option Value} {fa c Pt : Addr} {a_OFFSETS : Addr} {c_Loud : Addr}  {c_CellError : Addr}  {c_Folded : Addr}  {c_NoLine : Addr}  {c_NoName : Addr}  {c_NoNumber : Addr}  {c_NoRest : Addr}  {c_NoRule : Addr}  {c_NoSize : Addr}  {c_NoText : Addr}  {c_NoThing : Addr}  {c_Outside : Addr}  {c_TooWide : Addr} (X : K.In h) (G : h.Ns mainGlobals mg) (hfa : mg "law" = some (.ref fa))
  (S0 : Src K mg "_law_pen" qW) (S1 : Src K mg "_law_draw" lF) (S2 : Src K mg "offsets" g7) (S3 : Src K mg "is_quiet" g8) (S4 : Src K mg "refuse_loud" bM) (S5 : Src K mg "refuse_loud" bM) (S6 : Src K mg "cell_height" dD) (S7 : Src K mg "height" gc) (S8 : Src K mg "lowest_parents" b8) (S9 : Src K mg "growth" eZ) (S10 : Src K mg "growth" eZ) (S11 : Src K mg "grower" e7) (S12 : Src K mg "grower" e7) (S13 : Src K mg "_law_number" hU) (S14 : Src K mg "_law_rule" hV) (S15 : Src K mg "_law_way" qX) (S16 : Src K mg "_law_steps" jA) (S17 : Src K mg "_law_growth" fh) (S18 : Src K mg "_law_next" jB) (S19 : Src K mg "_law_is_picture" cm) (S20 : Src K mg "_law_is_grower" b9) (S21 : Src K mg "_law_is_refused" dF) (S22 : Src K mg "law" y8)
  (n_OFFSETS : PySem.W.nsIn K mainGlobals "OFFSETS" = some (some (.ref a_OFFSETS))) (k_OFFSETS : okD K a_OFFSETS rows = true) (h_Loud : PySem.W.nsIn K mainGlobals "Loud" = some (some (.ref c_Loud)))  (h_CellError : PySem.W.nsIn K mainGlobals "CellError" = some (some (.ref c_CellError)))  (h_Folded : PySem.W.nsIn K mainGlobals "Folded" = some (some (.ref c_Folded)))  (h_NoLine : PySem.W.nsIn K mainGlobals "NoLine" = some (some (.ref c_NoLine)))  (h_NoName : PySem.W.nsIn K mainGlobals "NoName" = some (some (.ref c_NoName)))  (h_NoNumber : PySem.W.nsIn K mainGlobals "NoNumber" = some (some (.ref c_NoNumber)))  (h_NoRest : PySem.W.nsIn K mainGlobals "NoRest" = some (some (.ref c_NoRest)))  (h_NoRule : PySem.W.nsIn K mainGlobals "NoRule" = some (some (.ref c_NoRule)))  (h_NoSize : PySem.W.nsIn K mainGlobals "NoSize" = some (some (.ref c_NoSize)))  (h_NoText : PySem.W.nsIn K mainGlobals "NoText" = some (some (.ref c_NoText)))  (h_NoThing : PySem.W.nsIn K mainGlobals "NoThing" = some (some (.ref c_NoThing)))  (h_Outside : PySem.W.nsIn K mainGlobals "Outside" = some (some (.ref c_Outside)))  (h_TooWide : PySem.W.nsIn K mainGlobals "TooWide" = some (some (.ref c_TooWide))) (y0 : PySem.W.nsIn K mainGlobals "ValueError" = some none) (y1 : PySem.W.excIn K c_Loud [.type "ValueError", .type "Exception", .type "BaseException", .type "object"] "ValueError.__new__" = true) (y2 : PySem.W.exmOne K (.ref c_Loud) (.ref c_CellError) = some true) (y3 : cX K c_Loud = true) (y4 : PySem.W.kitOne K (.ref c_Loud) (.ref c_Loud) = some true) (y5 : PySem.W.kitOne K (.ref c_Loud) (.type "ValueError") = some true) (y6 : PySem.W.kitAny K (.ref c_Loud) [.ref c_Folded, .ref c_NoLine, .ref c_NoName, .ref c_NoNumber, .ref c_NoRest, .ref c_NoRule, .ref c_NoSize, .ref c_NoText, .ref c_NoThing, .ref c_Outside] = some false) (y7 : PySem.W.kitOne K (.ref c_Loud) (.ref c_TooWide) = some false)
  (z0 : PySem.W.nsIn K mainGlobals "len" = some none) (z1 : PySem.W.nsIn K mainGlobals "range" = some none) (z2 : PySem.W.nsIn K mainGlobals "abs" = some none) (z3 : PySem.W.nsIn K mainGlobals "isinstance" = some none) (z4 : PySem.W.nsIn K mainGlobals "int" = some none) (z5 : PySem.W.nsIn K mainGlobals "bool" = some none) (z6 : PySem.W.nsIn K mainGlobals "list" = some none) (z7 : PySem.W.nsIn K mainGlobals "tuple" = some none) (z8 : PySem.W.nsIn K mainGlobals "sorted" = some none) (z9 : PySem.W.nsIn K mainGlobals "max" = some none) (z10 : PySem.W.nsIn K mainGlobals "min" = some none) (z11 : PySem.W.nsIn K mainGlobals "all" = some none) (z12 : PySem.W.nsIn K mainGlobals "any" = some none) (z13 : PySem.W.nsIn K mainGlobals "set" = some none) (z14 : PySem.W.nsIn K mainGlobals "sum" = some none) (z15 : PySem.W.nsIn K mainGlobals "str" = some none) (z16 : PySem.W.nsIn K mainGlobals "dict" = some none) (z17 : PySem.W.nsIn K mainGlobals "zip" = some none) (z18 : PySem.W.nsIn K mainGlobals "enumerate" = some none)
  (hC : PySem.W.codeHdIn K c Pt = true) (hTab : PySem.W.tabIn K "lowest_parents" = some (c, Pt)) :
  ∃ fd : FuncData, (∀ (s : Shared) (v : Value), BindsTo s fd ⟨[v], []⟩ [("_law_script", v)]) /\ ∀ base : Heap, Bmod mg base -> fN l.prog w K mg base CX0 9 fa fd ["_law_script"] (spT K Pt qn uo) := by
 have no := fun {n : Str} (z : PySem.W.nsIn K mainGlobals n = some none) => PySem.W.mg_none_of X G z
 have T : Txt mg := ⟨no z0, no z1, no z2, no z3, no z4, no z5, no z6, no z7, no z8, no z9, no z10, no z11, no z12, no z13, no z14, no z15, no z16, no z17, no z18⟩
 have hcd : ∀ f fd, mg "lowest_parents" = some (.ref f) -> (∃ oc od osl, K.lookup f = some ⟨oc, od, .func fd, osl⟩) -> fd.code = .ref c := fun f fd hm zt1 => by obtain ⟨oc, od, osl, lk⟩ := zt1; exact PySem.W.law_code X G hTab hm (X _ _ lk) rfl
 refine qS S22 hfa (fun _ _ _ _ _ _ _ => rfl) fun base hB => ?_
 have e18_ := y9 (P := l.prog) (w := w) (base := base) S0 T
 have e0_ := uq (P := l.prog) (w := w) (base := base) S1 T
 have e15_ := za (P := l.prog) (w := w) (base := base) S2 T  (PySem.W.mg_of X G n_OFFSETS) k_OFFSETS
 have e3_ := rp (P := l.prog) (w := w) (base := base) S3 T
 have e12_ := uy (P := l.prog) (w := w) (base := base) S4 T e3_
 have e21_ := rq (P := l.prog) (w := w) (base := base) S5 T e3_ (PySem.W.mg_of X G h_Loud) y1
 have e4_ := BF (P := l.prog) (w := w) (base := base) S6 T
 have e14_ := BG (P := l.prog) (w := w) (base := base) S7 T e4_
 have e2_ := BH (P := l.prog) (w := w) (base := base) S8 T e15_ e4_ hC hB hcd
 have e10_ := uB (P := l.prog) (w := w) (base := base) S9 T e12_ e2_ e14_
 have e19_ := rE (P := l.prog) (w := w) (base := base) S10 T e21_
 have e5_ := BO (P := l.prog) (w := w) (base := base) S11 T e10_ e2_
 have e20_ := ze (P := l.prog) (w := w) (base := base) S12 T e19_
 have e7_ := BJ (P := l.prog) (w := w) (base := base) S13 T e0_
 have e17_ := BK (P := l.prog) (w := w) (base := base) S14 T e0_
 have e9_ := BL (P := l.prog) (w := w) (base := base) S15 T e0_ e7_
 have e1_ := rA (P := l.prog) (w := w) (base := base) S16 T
 have e13_ := BM (P := l.prog) (w := w) (base := base) S17 T e1_
 have e16_ := rB (P := l.prog) (w := w) (base := base) S18 T e1_
 have e11_ := BP (P := l.prog) (w := w) (base := base) S19 T
 have e8_ := BQ (P := l.prog) (w := w) (base := base) S20 T e13_ e11_ e16_
 have e6_ := rG (P := l.prog) (w := w) (base := base) S21 T e20_ (PySem.W.mg_of X G h_CellError) (no y0) (PySem.W.mg_of X G h_Folded) (PySem.W.mg_of X G h_Loud) (PySem.W.mg_of X G h_NoLine) (PySem.W.mg_of X G h_NoName) (PySem.W.mg_of X G h_NoNumber) (PySem.W.mg_of X G h_NoRest) (PySem.W.mg_of X G h_NoRule) (PySem.W.mg_of X G h_NoSize) (PySem.W.mg_of X G h_NoText) (PySem.W.mg_of X G h_NoThing) (PySem.W.mg_of X G h_Outside) (PySem.W.mg_of X G h_TooWide) y2 y3 y4 y5 y6 y7
 exact zf (P := l.prog) (w := w) (base := base) S22 T e18_ e17_ e9_ e5_ e8_ e6_
theorem walk {l : PySem.W.OpenLaw} {q : Program} {loose : List Str} {XP : (Str -> Option Value) -> Heap -> Prop} {YP : World -> Heap -> Prop} {d : DefRec} {K : Params -> PySem.W.Frag} {c Pt : Addr} (hn : l.most = some 63) (hdf : d.params.defaults = [])
  (hY : ∀ (w : World) (h : Heap), YP w h -> (K w.params).In h) (hTb : ∀ (w : World) (h : Heap), YP w h -> h.get? Pt = some (PySem.W.tabObj #[])) (hC : ∀ w : World, PySem.W.codeHdIn (K w.params) c Pt = true) (hKP : ∀ w : World, (K w.params).lookup Pt = none)
  (F : ∀ (w : World) (mg : Str -> Option Value) (fa : Addr) (h : Heap), (K w.params).In h -> h.Ns mainGlobals mg -> mg d.name = some (.ref fa) ->
   ∃ fd : FuncData, (∀ (s : Shared) (u : Value), BindsTo s fd ⟨[u], []⟩ [("_law_script", u)]) /\ ∀ base : Heap, Bmod mg base -> fN l.prog w (K w.params) mg base CX0 9 fa fd ["_law_script"] (spT (K w.params) Pt qn uo)) :
  PySem.W.WalkO q loose XP YP l.row.toRowW d [] (fun f vs => PySem.call f vs) :=
 L2.qT (n := 63) (k := 9) (x := "_law_script") (sp := fun w => spT (K w.params) Pt qn uo) hn (by decide) hdf ⟨rfl, by decide, by decide, rfl⟩ hY hTb hC hKP F
  (fun _ _ a ns hl hT hS => ⟨hT, _, fun d => d = .bl true, .cons (Rep.of_sqL hS trivial (fun _ => trivial) Reps.ints) .nil, ⟨ns, rfl, hl, rfl⟩, fun d v H' e _ r => by subst e; cases r; rfl⟩)
end My
def PySem.W.Fast.tw8258332406020120148 : Unit := ()
def PySem.W.Fast.tw10790437341910578787 : Unit := ()
def PySem.W.Fast.tw1308166341884648268 : Unit := ()
def PySem.W.Fast.tw17769124100833549901 : Unit := ()
def PySem.W.Fast.tw17488542984626586910 : Unit := ()
def PySem.W.Fast.tw4901500412449998893 : Unit := ()
def PySem.W.Fast.tw1710087807694554974 : Unit := ()
def PySem.W.Fast.tw2612774815536830038 : Unit := ()
def PySem.W.Fast.tw7781118516713448452 : Unit := ()
def PySem.W.Fast.tw12193712448406831265 : Unit := ()
def PySem.W.Fast.tw9993149054873774035 : Unit := ()
def PySem.W.Fast.tw3292607130735560937 : Unit := ()
def PySem.W.Fast.tw18133890635122311704 : Unit := ()
def PySem.W.Fast.tw12155874159470293177 : Unit := ()
def PySem.W.Fast.tw11235402545229022917 : Unit := ()
def PySem.W.Fast.tw9604078073613351541 : Unit := ()
def PySem.W.Fast.tw9200986059033731975 : Unit := ()
def PySem.W.Fast.tw10216889304906955323 : Unit := ()
def PySem.W.Fast.tw12597269312663007663 : Unit := ()
def PySem.W.Fast.tw11975089287748608251 : Unit := ()
def PySem.W.Fast.tw18258208749192849817 : Unit := ()
open PySem PySem.W PyProof.Rows
set_option maxRecDepth 100000 in
set_option maxHeartbeats 0 in
theorem PySem.Challenge.cw_cellships_k28_growers_holds : PySem.Challenge.rw_cellships_k28_growers.Holds := by
 w_on; o_law; k_head; (case hw => w_witness2)
 k_fill
 refine My.walk (l := PySem.Challenge.rw_cellships_k28_growers) (c := 232) (Pt := 228) rfl rfl (fun w h Y => PySem.W.km_in_of Y) (fun w h Y => PySem.W.km_tabs_of Y _ (List.mem_cons_self ..)) (fun w => by kernel_rfl) (fun w => by kernel_rfl) ?F
 case F =>
  intro w mg fa h KX G hmg
  refine' My.zg (c := 232) (Pt := 228) KX G hmg (L2.aN KX G ?a0 ?l0 ?c0 ?k0) (L2.aN KX G ?a1 ?l1 ?c1 ?k1) (L2.aN KX G ?a2 ?l2 ?c2 ?k2) (L2.aN KX G ?a3 ?l3 ?c3 ?k3) (L2.aN KX G ?a4 ?l4 ?c4 ?k4) (L2.aN KX G ?a5 ?l5 ?c5 ?k5) (L2.aN KX G ?a6 ?l6 ?c6 ?k6) (L2.aN KX G ?a7 ?l7 ?c7 ?k7) (L2.aN KX G ?a8 ?l8 ?c8 ?k8) (L2.aN KX G ?a9 ?l9 ?c9 ?k9) (L2.aN KX G ?a10 ?l10 ?c10 ?k10) (L2.aN KX G ?a11 ?l11 ?c11 ?k11) (L2.aN KX G ?a12 ?l12 ?c12 ?k12) (L2.aN KX G ?a13 ?l13 ?c13 ?k13) (L2.aN KX G ?a14 ?l14 ?c14 ?k14) (L2.aN KX G ?a15 ?l15 ?c15 ?k15) (L2.aN KX G ?a16 ?l16 ?c16 ?k16) (L2.aN KX G ?a17 ?l17 ?c17 ?k17) (L2.aN KX G ?a18 ?l18 ?c18 ?k18) (L2.aN KX G ?a19 ?l19 ?c19 ?k19) (L2.aN KX G ?a20 ?l20 ?c20 ?k20) (L2.aN KX G ?a21 ?l21 ?c21 ?k21) (L2.aN KX G ?a22 ?l22 ?c22 ?k22) ?n0 ?m0 ?h0 ?h1 ?h2 ?h3 ?h4 ?h5 ?h6 ?h7 ?h8 ?h9 ?h10 ?h11 ?h12 ?y0 ?y1 ?y2 ?y3 ?y4 ?y5 ?y6 ?y7 ?z0 ?z1 ?z2 ?z3 ?z4 ?z5 ?z6 ?z7 ?z8 ?z9 ?z10 ?z11 ?z12 ?z13 ?z14 ?z15 ?z16 ?z17 ?z18 ?tc ?tt
  (case a0 | l0 | c0 | k0 | a1 | l1 | c1 | k1 | a2 | l2 | c2 | k2 | a3 | l3 | c3 | k3 | a4 | l4 | c4 | k4 | a5 | l5 | c5 | k5 | a6 | l6 | c6 | k6 | a7 | l7 | c7 | k7 | a8 | l8 | c8 | k8 | a9 | l9 | c9 | k9 | a10 | l10 | c10 | k10 | a11 | l11 | c11 | k11 | a12 | l12 | c12 | k12 | a13 | l13 | c13 | k13 | a14 | l14 | c14 | k14 | a15 | l15 | c15 | k15 | a16 | l16 | c16 | k16 | a17 | l17 | c17 | k17 | a18 | l18 | c18 | k18 | a19 | l19 | c19 | k19 | a20 | l20 | c20 | k20 | a21 | l21 | c21 | k21 | a22 | l22 | c22 | k22 | n0 => k_is)
  (case m0 => kernel_rfl)
  (case h0 | h1 | h2 | h3 | h4 | h5 | h6 | h7 | h8 | h9 | h10 | h11 | h12 => k_is)
  (case y0 | y1 | y2 | y3 | y4 | y5 | y6 | y7 => first | kernel_rfl | k_is)
  (case z0 | z1 | z2 | z3 | z4 | z5 | z6 | z7 | z8 | z9 | z10 | z11 | z12 | z13 | z14 | z15 | z16 | z17 | z18 => k_is)
  (case tc | tt => kernel_rfl)
#print axioms PySem.Challenge.cw_cellships_k28_growers_holds
